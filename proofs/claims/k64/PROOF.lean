import PyProof.Rows.All
import Wide.All
import OpenK.AllK
import Wide.FinOn
import HandS.ForMost
import HandS.Exc
import HandS.ExcOwn
import HandS.ExcInit
import HandS.TryOnly
import HandS.TryMany
import HandS.WordsExc
import HandS.Gcd
import HandS.Wide
import HandS.WideMore
import HandS.WideBits
import HandS.IsInst
import HandS.Style
import HandS.Flow
import HandS.SortRule
import HandS.SortInts
import HandS.Conv
import HandS.ExcField
import KE.SortData
import HandS.More
import KE.BitLaws
import KE.GoesEnum
import KE.GoesMore
import PyProof.WalksMore
import HandS.TupAny
import HandS.Zip
import HandS.Rev
import HandS.TupMul
import HandS.Deep
import KE.DataMinMax
import KE.IntBitsLaws
import PySem.Challenge.RW_classledger_k64_whole_operators_on_serie
set_option Elab.async false
set_option linter.all false
set_option maxRecDepth 100000
set_option maxHeartbeats 4000000
namespace CB
open PySem PySem.Spec PyProof.Rows L2
/-! ### operators of any size -/
section
variable {X : Cx}
theorem op_mulI : OpR X (binaryOp .Mult) (rI IntMulOk fun i j => .int (i * j)) := opI fun _ _ _ _ _ _ _ hc q => mul_int q hc
theorem iop_mulI : OpR X (inplaceOp .Mult) (rI IntMulOk fun i j => .int (i * j)) := opI fun _ _ _ _ _ _ _ hc q => imul_int q hc
/-- math.isqrt of an int below 2 ^ 13000 -/
def rIsqrt : List V → Hp → VK → Prop := fun vs H Q => ∃ a : Int, vs = [.int a] ∧ 0 ≤ a ∧ a < 2 ^ 13000 ∧ Q (.int ((Float64.isqrt a.toNat : Nat) : Int)) H
theorem log_lt {n k : Nat} (h : n < 2 ^ (k + 1)) : n.log2 ≤ k := PySem.W.mg_log h
theorem cr_isqrt : CallR X (.builtin "math.isqrt") rIsqrt := by
  intro pins s σ H vs us Q I r h
  obtain ⟨a, rfl, h0, h1, q⟩ := h
  obtain ⟨u, rfl, ru⟩ := vals1 r
  obtain ⟨t, rfl⟩ := ru
  have hl : a.toNat.log2 ≤ 12999 := log_lt (by
    have e : ((2 : Int) ^ 13000) = ((2 ^ 13000 : Nat) : Int) := by rw [Int.natCast_pow]; rfl
    rw [e] at h1
    show a.toNat < 2 ^ 13000
    omega)
  exact call_function_meets PySem.W.MGF.kind_isqrt PySem.W.MGF.plain_isqrt PySem.W.MGF.entry_isqrt (PySem.W.MGF.args_isqrt _) (PySem.W.mg_run_isqrt a t (by omega) (by omega) (by omega)).meets
    ⟨.int _, H, I.tok _, ⟨_, rfl⟩, q⟩
theorem isqrt_spec (n : Nat) : Float64.isqrt n * Float64.isqrt n ≤ n ∧ n < (Float64.isqrt n + 1) * (Float64.isqrt n + 1) := PySem.Float64.isqrt_spec n
/-! ### a < b < c < d -/
def tChain3 (r r' r'' : R2) (ta tb tc td : TE) : TE := fun σ H Q => ta σ H fun x H1 => tb σ H1 fun y H2 => r x y H2 fun z H3 => ∃ k, z = .bl k ∧
  (if k = true then tc σ H3 fun y' H4 => r' y y' H4 fun z' H5 => ∃ k', z' = .bl k' ∧ (if k' = true then td σ H5 fun w' H6 => r'' y' w' H6 Q else Q (.bl false) H5) else Q (.bl false) H3)
variable {a b c d : Expr} {ta tb tc td : TE} {pos : Pos}
theorem pt_chain3 {o1 o2 o3 : CmpOp} {r r' r'' : R2} (ho : OpR X (compareOp o1) r) (ho' : OpR X (compareOp o2) r') (ho'' : OpR X (compareOp o3) r'') (ha : PE X a ta) (hb : PE X b tb) (hc : PE X c tc) (hd : PE X d td)
    (hm : lastMarks [o1, o2, o3] [b, c, d] = false := by with_unfolding_all rfl) : PT X (.Compare a [o1, o2, o3] [b, c, d] pos) (tTest (tChain3 r r' r'' ta tb tc td)) := by
  refine ⟨fun pins s σ H Q I h => ?_⟩
  refine isTrue_chain (thn (ha.run pins s σ H _ I h) fun v s1 ⟨x, H1, I1, r1, q1⟩ => test_link (thn (hb.run pins s1 σ H1 _ I1 q1) fun u s2 ⟨y, H2, I2, r2, q2⟩ =>
    thn (ho pins s2 σ H2 x y v u _ I2 r1 r2 q2) fun d1 s3 ⟨z, H3, I3, r3, k, e, q3⟩ => ?_)) hm
  subst e
  cases r3
  refine wpAny_truthy_bool ?_
  cases k with
  | false =>
    obtain ⟨k', e', q'⟩ := q3
    cases e'
    exact ite_ff ⟨H3, I3, q'⟩
  | true =>
    refine ite_tt (test_link (thn (hc.run pins s3 σ H3 _ I3 q3) fun u' s4 ⟨y', H4, I4, r4, q4⟩ => thn (ho' pins s4 σ H4 y y' u u' _ I4 r2 r4 q4) fun d2 s5 ⟨z2, H5, I5, r5, k2, e2, q5⟩ => ?_))
    subst e2
    cases r5
    refine wpAny_truthy_bool ?_
    cases k2 with
    | false =>
      obtain ⟨k', e', q'⟩ := q5
      cases e'
      exact ite_ff ⟨H5, I5, q'⟩
    | true =>
      refine ite_tt (test_last (thn (hd.run pins s5 σ H5 _ I5 q5) fun w' s6 ⟨z3, H6, I6, r6, q6⟩ => thn (ho'' pins s6 σ H6 y' z3 u' w' _ I6 r4 r6 q6) fun d3 s7 ⟨z4, H7, I7, r7, k4, e4, q7⟩ => ?_))
      subst e4
      cases r7
      exact wpAny_truthy_bool ⟨H7, I7, q7⟩
end
/-! ### a def that a caller calls by its name -/
structure Cal (P : Program) (w : World) (K : PySem.W.Frag) (mg : Str → Option Value) (base : Heap) (x : Str) (k : Nat) (ps : List Str) (sp : Sp) : Prop where
  ok : ∃ f fd, FnOk P w K mg base CX0 k f fd ps sp ∧ mg x = some (.ref f) ∧ PySem.W.keepIn K (.ref f) = true ∧ Binds K fd ps []
section
variable {X : Cx} {k : Nat} {ps : List Str} {sp : Sp} {x : Str} {p pos : Pos} {e : Expr} {es : List Expr} {t : TA}
theorem pe_cal (C : Cal X.prog X.w X.K X.mg X.base x k ps sp) (hr : Room k X.A) (hg : Gl X x) (ha : PA X (e :: es) t) (hdb : (x == ("__debug__" : Str)) = false := by decide)
    (he : starEach (e :: es) X.env = (false, eval e X.env) :: starEach es X.env := by rfl) (hpl : (backTo pos (starEach es X.env)).any (·.1) = false := by rfl) : PE X (.Call (.Name x p) (e :: es) [] pos) (tCall sp [] E0 t) := by
  obtain ⟨f, fd, F, hm, hk, hb⟩ := C.ok
  exact pe_call F hr hg hm hk hb .nil pass0 ha hdb he hpl
end
/-! ### readings, unfolded -/
section
variable {σ : L2.St} {H : Hp} {Q : VK} {QT : Bool → Hp → Prop} {QA : List V → Hp → Prop} {D : Ends} {i j : Nat} {v x y : V} {ta tb tc td : TE} {tA tB' : TT} {t u : TS} {tr : TA} {K : PySem.W.Frag}
theorem rd_var : tVar i σ H Q = ∃ v, σ[i]? = some (some v) ∧ Q v H := rfl
theorem rd_C : tC v σ H Q = Q v H := rfl
theorem rd_op {r : R2} : tOp r ta tb σ H Q = ta σ H fun x H1 => tb σ H1 fun y H2 => r x y H2 Q := rfl
theorem rd_un {r : V → Hp → VK → Prop} : tUn r ta σ H Q = ta σ H fun x H1 => r x H1 Q := rfl
theorem rd_I {C : Int → Int → Prop} {g : Int → Int → V} : rI C g x y H Q = ∃ i j, x = .int i ∧ y = .int j ∧ C i j ∧ Q (g i j) H := rfl
theorem rd_I0 {g : Int → Int → V} : rI0 g x y H Q = ∃ i j, x = .int i ∧ y = .int j ∧ Q (g i j) H := rfl
theorem rd_U {g : Int → V} : rU g x H Q = ∃ i, x = .int i ∧ Q (g i) H := rfl
theorem rd_Eq : rEq x y H Q = (scal x y = true ∧ Q (.bl (decide (x = y))) H) := rfl
theorem rd_Ne : rNe x y H Q = (scal x y = true ∧ Q (.bl (!decide (x = y))) H) := rfl
theorem rd_test : tTest ta σ H QT = ta σ H fun x H' => ∃ k, x = .bl k ∧ QT k H' := rfl
theorem rd_B : L2.tB ta σ H QT = ta σ H fun x H' => ∃ k, x = .bl k ∧ QT k H' := rfl
theorem rd_and {s t : TT} : tAnd s t σ H QT = s σ H fun c H1 => if c = true then t σ H1 QT else QT false H1 := rfl
theorem rd_or {s t : TT} : tOr s t σ H QT = s σ H fun c H1 => if c = true then QT true H1 else t σ H1 QT := rfl
theorem rd_not {s : TT} : tNot s σ H QT = s σ H fun c H1 => QT (!c) H1 := rfl
theorem rd_andV : tAndV ta tb σ H Q = ta σ H fun x H1 => ∃ c, x = .bl c ∧ if c = true then tb σ H1 Q else Q (.bl false) H1 := rfl
theorem rd_orV : tOrV ta tb σ H Q = ta σ H fun x H1 => ∃ c, x = .bl c ∧ if c = true then Q (.bl true) H1 else tb σ H1 Q := rfl
theorem rd_notV : tNotV ta σ H Q = ta σ H fun x H1 => ∃ c, x = .bl c ∧ Q (.bl (!c)) H1 := rfl
theorem rd_if {c : TT} : tIf c ta tb σ H Q = c σ H fun b H1 => if b = true then ta σ H1 Q else tb σ H1 Q := rfl
theorem rd_chain {r r' : R2} : tChain r r' ta tb tc σ H Q = ta σ H fun x H1 => tb σ H1 fun y H2 => r x y H2 fun z H3 => ∃ k, z = .bl k ∧ (if k = true then tc σ H3 fun w' H4 => r' y w' H4 Q else Q (.bl false) H3) := rfl
theorem rd_chain3 {r r' r'' : R2} : tChain3 r r' r'' ta tb tc td σ H Q = ta σ H fun x H1 => tb σ H1 fun y H2 => r x y H2 fun z H3 => ∃ k, z = .bl k ∧
  (if k = true then tc σ H3 fun y' H4 => r' y y' H4 fun z' H5 => ∃ k', z' = .bl k' ∧ (if k' = true then td σ H5 fun w' H6 => r'' y' w' H6 Q else Q (.bl false) H5) else Q (.bl false) H3) := rfl
theorem rd_next : tNext D σ H = D.nx σ H := rfl
theorem rd_seq : tSeq t u D σ H = t { D with nx := u D } σ H := rfl
theorem rd_drop : tDrop ta D σ H = ta σ H fun _ H1 => D.nx σ H1 := rfl
theorem rd_ret : tRet ta D σ H = ta σ H D.rt := rfl
theorem rd_retN : tRetN D σ H = D.rt .non H := rfl
theorem rd_break : tBreak D σ H = D.bk σ H := rfl
theorem rd_cont : tCont D σ H = D.ct σ H := rfl
theorem rd_ifS {c : TT} : tIfS c t u D σ H = c σ H fun b H1 => if b = true then t D σ H1 else u D σ H1 := rfl
theorem rd_asg {g : TG} : tAsg ta g D σ H = ta σ H fun x H1 => g x σ H1 D.nx := rfl
theorem rd_name {QS : L2.St → Hp → Prop} : gName i v σ H QS = QS (σ.set i (some v)) H := rfl
theorem rd_gsub {to ti : TE} {s : TSet} {QS : L2.St → Hp → Prop} : gSub to ti s v σ H QS = to σ H fun o H1 => ti σ H1 fun i H2 => s o i v H2 fun H3 => QS σ H3 := rfl
theorem rd_gtup {n : Nat} {g : TGs} {QS : L2.St → Hp → Prop} : gTup K n g v σ H QS = ∃ a xs, v = .ref a ∧ SqT K H a xs ∧ xs.length = n ∧ g xs σ H QS := rfl
theorem rd_gcons {g : TG} {gs : TGs} {vs : List V} {QS : L2.St → Hp → Prop} : gCons g gs vs σ H QS = ∃ v r, vs = v :: r ∧ g v σ H fun σ' H' => gs r σ' H' QS := rfl
theorem rd_gnil {vs : List V} {QS : L2.St → Hp → Prop} : gNil vs σ H QS = (vs = [] ∧ QS σ H) := rfl
theorem rd_par : tPar i j tr D σ H = tr σ H fun vs H1 => ∃ v w, vs = [v, w] ∧ D.nx ((σ.set i (some v)).set j (some w)) H1 := rfl
theorem rd_aug {te : TE} {ti : TIp} : tAug i te ti D σ H = ∃ x, σ[i]? = some (some x) ∧ te σ H fun y H1 => ti x y H1 fun z H2 => D.nx (σ.set i (some z)) H2 := rfl
theorem rd_ipI {f : Int → Int → Int} : ipI f x y H Q = ∃ i j, x = .int i ∧ y = .int j ∧ Q (.int (f i j)) H := rfl
theorem rd_nil : tNil σ H QA = QA [] H := rfl
theorem rd_cons : tCons ta tr σ H QA = ta σ H fun x H1 => tr σ H1 fun xs H2 => QA (x :: xs) H2 := rfl
theorem rd_tup : tTup tr σ H Q = tr σ H fun xs H1 => xs.length ≤ sizeLine ∧ ∀ p, H1 p = none → Q (.ref p) (upd H1 p (.tup xs)) := rfl
theorem rd_lst : tLst tr σ H Q = tr σ H fun xs H1 => xs.length ≤ sizeLine ∧ ∀ p, H1 p = none → Q (.ref p) (upd H1 p (.lst xs)) := rfl
theorem rd_CB {r : List V → Hp → VK → Prop} : tCB r tr σ H Q = tr σ H fun vs H1 => r vs H1 Q := rfl
theorem rd_call {sp : Sp} {dvs : List V} {E : XK} : tCall sp dvs E tr σ H Q = tr σ H fun vs H1 => sp (vs ++ dvs) H1 Q E := rfl
theorem rd_callS {sp : Sp} {E : L2.St → XK} : tCallS sp E tr σ H Q = tr σ H fun vs H1 => sp vs H1 Q (E σ) := rfl
theorem rd_ixL : rIxL K x y H Q = ∃ p xs i v, x = .ref p ∧ y = .int i ∧ SqL K H p xs ∧ atI xs i = some v ∧ Q v H := rfl
theorem rd_ixT : rIxT K x y H Q = ∃ p xs i v, x = .ref p ∧ y = .int i ∧ SqT K H p xs ∧ atI xs i = some v ∧ Q v H := rfl
theorem rd_isqrt {vs : List V} : rIsqrt vs H Q = ∃ a : Int, vs = [.int a] ∧ 0 ≤ a ∧ a < 2 ^ 13000 ∧ Q (.int ((Float64.isqrt a.toNat : Nat) : Int)) H := rfl
theorem rd_sum {vs : List V} : rSum K vs H Q = ∃ (a : Addr) (ns : List Int), vs = [V.ref a] ∧ SqL K H a (ns.map V.int) ∧ Q (.int ns.sum) H := rfl
end

/-! ### a def of the text: it stands, its name, its parameters -/
structure Dn (K : PySem.W.Frag) (mg : Str → Option Value) (x : Str) (st : Stmt) (ps : List Str) : Prop where
  ok : ∃ f fd, Fun K x x st f fd ∧ mg x = some (.ref f) ∧ Binds K fd ps []
section
variable {P : Program} {w : World} {K : PySem.W.Frag} {mg : Str → Option Value} {base : Heap}
theorem Dn.cal {x : Str} {st : Stmt} {N ps : List Str} {k : Nat} {sp : Sp} (D : Dn K mg x st ps) (S : FnScope N ps (defScope st)) (len : ∀ vs H Q E, sp vs H Q E → vs.length = ps.length)
    (hbody : ∀ (f : Addr) (cdv : Value) (A : Around) (outer : List Env) (s : Shared) (H : Hp) (vs : List V) (Q : VK) (E : XK), Room k (A.deeper (envOfC x (defScope st) s.heap.objs.size f cdv)) → sp vs H Q E →
      ∃ t, PSs (cxOf CX0 P w K mg base N x (defScope st) f cdv A outer s H E).nox (defBody st) t ∧ t { nx := fun _ H' => Q .non H', rt := Q } (start N vs) H) : Cal P w K mg base x (k + 1) ps sp := by
  obtain ⟨f, fd, F, hm, hb⟩ := D.ok
  exact ⟨f, fd, F.ok S len fun cdv A outer s H vs Q E hr h => hbody f cdv A outer s H vs Q E hr h, hm, F.kp, hb⟩
end
/-- a weaker wish -/
theorem same_upd {H : Hp} {p : Addr} {o : HO} (h : H p = none) : Same H (upd H p o) := fun b x e => by
  rw [upd_ne (ne_of_none e h)]
  exact e
theorem ex_int {p : Int → Prop} {i : Int} : (∃ j, V.int i = V.int j ∧ p j) = p i := by simp
theorem ex_bl {p : Bool → Prop} {i : Bool} : (∃ j, V.bl i = V.bl j ∧ p j) = p i := by simp
theorem ex_ref {p : Addr → Prop} {i : Addr} : (∃ j, V.ref i = V.ref j ∧ p j) = p i := by simp
theorem ex_str {p : Str → Prop} {i : Str} : (∃ j, V.str i = V.str j ∧ p j) = p i := by simp
theorem ex_some {p : V → Prop} {x : V} : (∃ v, some (some x) = some (some v) ∧ p v) = p x := by simp
theorem ex_2i {p : Int → Int → Prop} {i j : Int} : (∃ a b, V.int i = V.int a ∧ V.int j = V.int b ∧ p a b) = p i j := by simp
theorem ex_l1 {p : Int → Prop} {i : Int} : (∃ j, [V.int i] = [V.int j] ∧ p j) = p i := by simp
theorem ex_l2 {p : Int → Int → Prop} {i j : Int} : (∃ a b, [V.int i, V.int j] = [V.int a, V.int b] ∧ p a b) = p i j := propext ⟨fun ⟨_, _, e, h⟩ => by cases e; exact h, fun h => ⟨_, _, rfl, h⟩⟩
theorem ex_v2 {p : V → V → Prop} {i j : V} : (∃ a b, [i, j] = [a, b] ∧ p a b) = p i j := propext ⟨fun ⟨_, _, e, h⟩ => by cases e; exact h, fun h => ⟨_, _, rfl, h⟩⟩
theorem int1_eq {p : Int → Prop} {q : Bool → Prop} {i : Int} : ((∃ j, [V.int i] = [V.int j] ∧ p j) ∨ ∃ k, [V.int i] = [V.bl k] ∧ q k) = p i := by simp
theorem scal_int {i j : Int} : (scal (V.int i) (V.int j) = true) = True := by simp [scal]
theorem scal_str {i j : Str} : (scal (V.str i) (V.str j) = true) = True := by simp [scal]
theorem dec_ii {i j : Int} : decide (V.int i = V.int j) = decide (i = j) := by simp
theorem ite_dec {p : Prop} [Decidable p] {A B : Prop} : (if decide p = true then A else B) = (if p then A else B) := by simp
theorem ite_ndec {p : Prop} [Decidable p] {A B : Prop} : (if (!decide p) = true then A else B) = (if p then B else A) := by
  by_cases h : p <;> simp [h]
section
variable {H : Hp} {Q : VK} {x y v : V}
theorem rd_setL {R : Hp → Prop} : rSetL x y v H R = ∃ p xs k j, x = .ref p ∧ y = .int k ∧ H p = some (.lst xs) ∧ ixN xs.length k = some j ∧ R (upd H p (.lst (xs.set j v))) := rfl
theorem rd_append {K : PySem.W.Frag} {to : TE} {t : TA} {σ : L2.St} : tBM K "list" rAppend to t σ H Q = to σ H fun x H1 => tyV K "list" x H1 ∧ t σ H1 fun xs H2 => ∃ l ys y, x = .ref l ∧ xs = [y] ∧ H2 l = some (.lst ys) ∧ ys.length < sizeLine ∧ Q .non (upd H2 l (.lst (ys ++ [y]))) := rfl
theorem K_nox {X : Cx} : X.nox.K = X.K := rfl
theorem K_cxOf {CX : CXT} {P : Program} {w : World} {K : PySem.W.Frag} {mg : Str → Option Value} {base : Heap} {N : List Str} {qual : Str} {scope : Scope} {f : Addr} {cd : Value} {A : Around} {outer : List Env} {s : Shared} {H : Hp} {E : XK} :
  (cxOf CX P w K mg base N qual scope f cd A outer s H E).K = K := rfl
end
/-- int * int with a small side -/
theorem mulL {i j : Int} (h : -(2 ^ 64) < i ∧ i < 2 ^ 64) : IntMulOk i j := CMul.ok (.inl h)
theorem mulR {i j : Int} (h : -(2 ^ 64) < j ∧ j < 2 ^ 64) : IntMulOk i j := CMul.ok (.inr h)
theorem tyL {K : PySem.W.Frag} {l : Addr} {xs : List V} {H : Hp} (h : H l = some (.lst xs)) : tyV K "list" (.ref l) H := .inl ⟨rfl, _, SqL.of h⟩
/-! ### loops, by a word: the reading stops at ForL .. -/
def ForJ (J : It) (g : TG) (tb : TS) (D : Ends) (σ : L2.St) (H1 : Hp) : Prop := ∃ W : Nat → Nat → L2.St → Hp → Prop, (∃ m, W 0 m σ H1) ∧ ∀ i m σ H, W i m σ H →
  (J.stop i H ∧ D.nx σ H) ∨ (J.go i H ∧ ∃ N : L2.St → Hp → Prop, (∀ σ' H', N σ' H' → ∃ m', m' < m ∧ W (i + 1) m' σ' H') ∧ ∀ x H', J.yld i H x H' → g x σ H' fun σ2 H2 => tb { D with nx := N, ct := N, bk := D.nx } σ2 H2)
def ForL (K : PySem.W.Frag) (a : Addr) := ForJ (Itl K a)
def ForT (K : PySem.W.Frag) (a : Addr) := ForJ (Itt K a)
def ForR (lo : Int) (n : Nat) := ForJ (Itr lo n)
def ForC (lo c : Int) (n : Nat) := ForJ (Itc lo c n)
section
variable {K : PySem.W.Frag} {a : Addr} {xs : List V} {g : TG} {tb : TS} {D : Ends} {σ : L2.St} {H : Hp} {te : TE} {ta : TA}
theorem rd_forL : tFor (iList K te) g tb D σ H = te σ H fun x H1 => ∃ a, x = .ref a ∧ (∃ xs, SqL K H1 a xs) ∧ ForL K a g tb D σ H1 := rfl
theorem rd_forT : tFor (iTup K te) g tb D σ H = te σ H fun x H1 => ∃ a, x = .ref a ∧ (∃ xs, SqT K H1 a xs) ∧ ForT K a g tb D σ H1 := rfl
theorem rd_forR1 : tFor (iRng1 ta) g tb D σ H = ta σ H fun vs H1 => ∃ j : Int, vs = [.int j] ∧ -(2 ^ 62) ≤ j ∧ j < 2 ^ 62 ∧ ForR 0 j.toNat g tb D σ H1 := rfl
theorem rd_forR2 : tFor (iRng2 ta) g tb D σ H = ta σ H fun vs H1 => ∃ i j : Int, vs = [.int i, .int j] ∧ (-(2 ^ 62) ≤ i ∧ i < 2 ^ 62 ∧ -(2 ^ 62) ≤ j ∧ j < 2 ^ 62) ∧ ForR i (j - i).toNat g tb D σ H1 := rfl
theorem rd_forR3 : tFor (iRng3 ta) g tb D σ H = ta σ H fun vs H1 => ∃ (i j c : Int) (n : Nat), vs = [.int i, .int j, .int c] ∧ RgC i j c n ∧ ForC i c n g tb D σ H1 := rfl
theorem ForL.mk (Pv : Nat → L2.St → Hp → Prop) (h0 : Pv 0 σ H) (hl : ∀ i σ H, i ≤ xs.length → Pv i σ H → SqL K H a xs)
    (hs : ∀ i x σ H, xs[i]? = some x → Pv i σ H → g x σ H fun σ2 H2 => tb { D with nx := Pv (i + 1), ct := Pv (i + 1), bk := D.nx } σ2 H2) (hd : ∀ σ H, Pv xs.length σ H → D.nx σ H) : ForL K a g tb D σ H := for_list Pv h0 hl hs hd
theorem ForT.mk (Pv : Nat → L2.St → Hp → Prop) (h0 : Pv 0 σ H) (hl : ∀ i σ H, i ≤ xs.length → Pv i σ H → SqT K H a xs)
    (hs : ∀ i x σ H, xs[i]? = some x → Pv i σ H → g x σ H fun σ2 H2 => tb { D with nx := Pv (i + 1), ct := Pv (i + 1), bk := D.nx } σ2 H2) (hd : ∀ σ H, Pv xs.length σ H → D.nx σ H) : ForT K a g tb D σ H := for_tup Pv h0 hl hs hd
theorem ForR.mk {lo : Int} {n : Nat} (Pv : Nat → L2.St → Hp → Prop) (h0 : Pv 0 σ H)
    (hs : ∀ i σ H, i < n → Pv i σ H → g (.int (lo + i)) σ H fun σ2 H2 => tb { D with nx := Pv (i + 1), ct := Pv (i + 1), bk := D.nx } σ2 H2) (hd : ∀ σ H, Pv n σ H → D.nx σ H) : ForR lo n g tb D σ H := for_range Pv h0 hs hd
theorem ForC.mk {lo c : Int} {n : Nat} (Pv : Nat → L2.St → Hp → Prop) (h0 : Pv 0 σ H)
    (hs : ∀ i σ H, i < n → Pv i σ H → g (.int (lo + (i : Nat) * c)) σ H fun σ2 H2 => tb { D with nx := Pv (i + 1), ct := Pv (i + 1), bk := D.nx } σ2 H2) (hd : ∀ σ H, Pv n σ H → D.nx σ H) : ForC lo c n g tb D σ H := for_rangeC Pv h0 hs hd
/-- while, the test's answer told (it lays nothing) -/
theorem while_mk {c : TT} (Pv : L2.St → Hp → Prop) (μ : L2.St → Hp → Nat) (h0 : Pv σ H)
    (hs : ∀ σ H, Pv σ H → ∃ b : Bool, (∀ Q : Bool → Hp → Prop, Q b H → c σ H Q) ∧ (b = true → tb { D with nx := fun σ' H' => Pv σ' H' ∧ μ σ' H' < μ σ H, ct := fun σ' H' => Pv σ' H' ∧ μ σ' H' < μ σ H, bk := D.nx } σ H) ∧ (b = false → D.nx σ H)) : tWhile c tb D σ H := by
  refine ⟨fun m σ H => m = μ σ H ∧ Pv σ H, ⟨_, rfl, h0⟩, ?_⟩
  rintro m σ H ⟨rfl, p⟩
  obtain ⟨b, hc, h1, h2⟩ := hs σ H p
  refine hc _ ?_
  cases b with
  | true => rw [if_pos rfl]; exact ⟨_, fun σ' H' ⟨p', l⟩ => ⟨_, l, rfl, p'⟩, h1 rfl⟩
  | false => rw [if_neg Bool.false_ne_true]; exact h2 rfl
end
/-! ### comprehensions -/
def LcJ (J : It) (g : TG) (tt : TT) (te : TE) (vs : List Nat) (σ : L2.St) (H1 : Hp) (Q : VK) : Prop := ∀ D, H1 D = none → ∃ W : Nat → Nat → Hp → Prop, (∃ m, W 0 m (upd H1 D (.lst []))) ∧ ∀ i m H, W i m H →
  (J.stop i H ∧ Q (.ref D) H) ∨ (J.go i H ∧ ∃ Nx : Hp → Prop, (∀ H', Nx H' → ∃ m', m' < m ∧ W (i + 1) m' H') ∧ ∀ x H', J.yld i H x H' → g x (wipe σ vs) H' fun σ2 H2 => wipe σ2 vs = wipe σ vs ∧ tt σ2 H2 fun b H3 =>
    if b = true then te σ2 H3 fun y H4 => ∃ acc, H4 D = some (.lst acc) ∧ acc.length < sizeLine ∧ Nx (upd H4 D (.lst (acc ++ [y]))) else Nx H3)
def LcL (K : PySem.W.Frag) (a : Addr) := LcJ (Itl K a)
def LcT (K : PySem.W.Frag) (a : Addr) := LcJ (Itt K a)
def LcR (lo : Int) (n : Nat) := LcJ (Itr lo n)
section
variable {K : PySem.W.Frag} {a : Addr} {xs : List V} {g : TG} {tt : TT} {te tl : TE} {ta : TA} {vs : List Nat} {σ : L2.St} {H : Hp} {Q : VK}
theorem rd_lcL : tLc (iList K tl) g tt te vs σ H Q = tl σ H fun x H1 => ∃ a, x = .ref a ∧ (∃ xs, SqL K H1 a xs) ∧ LcL K a g tt te vs σ H1 Q := rfl
theorem rd_lcT : tLc (iTup K tl) g tt te vs σ H Q = tl σ H fun x H1 => ∃ a, x = .ref a ∧ (∃ xs, SqT K H1 a xs) ∧ LcT K a g tt te vs σ H1 Q := rfl
theorem rd_lcR1 : tLc (iRng1 ta) g tt te vs σ H Q = ta σ H fun us H1 => ∃ j : Int, us = [.int j] ∧ -(2 ^ 62) ≤ j ∧ j < 2 ^ 62 ∧ LcR 0 j.toNat g tt te vs σ H1 Q := rfl
theorem rd_lcR2 : tLc (iRng2 ta) g tt te vs σ H Q = ta σ H fun us H1 => ∃ i j : Int, us = [.int i, .int j] ∧ (-(2 ^ 62) ≤ i ∧ i < 2 ^ 62 ∧ -(2 ^ 62) ≤ j ∧ j < 2 ^ 62) ∧ LcR i (j - i).toNat g tt te vs σ H1 Q := rfl
/-- the word of a comprehension at D: what is made so far, the heap -/
theorem LcL.mk (Pv : Nat → Addr → Hp → Prop) (h0 : ∀ D, H D = none → Pv 0 D (upd H D (.lst []))) (hl : ∀ D i H, i ≤ xs.length → Pv i D H → SqL K H a xs)
    (hs : ∀ D i x H, xs[i]? = some x → Pv i D H → g x (wipe σ vs) H fun σ2 H2 => wipe σ2 vs = wipe σ vs ∧ tt σ2 H2 fun b H3 =>
      if b = true then te σ2 H3 fun y H4 => ∃ acc, H4 D = some (.lst acc) ∧ acc.length < sizeLine ∧ Pv (i + 1) D (upd H4 D (.lst (acc ++ [y]))) else Pv (i + 1) D H3) (hd : ∀ D H', H D = none → Pv xs.length D H' → Q (.ref D) H') : LcL K a g tt te vs σ H Q :=
  fun D hD => lc_list (Qd := fun H' => Q (.ref D) H') (fun i H => Pv i D H) (h0 D hD) (hl D) (hs D) (fun H' p => hd D H' hD p)
theorem LcT.mk (Pv : Nat → Addr → Hp → Prop) (h0 : ∀ D, H D = none → Pv 0 D (upd H D (.lst []))) (hl : ∀ D i H, i ≤ xs.length → Pv i D H → SqT K H a xs)
    (hs : ∀ D i x H, xs[i]? = some x → Pv i D H → g x (wipe σ vs) H fun σ2 H2 => wipe σ2 vs = wipe σ vs ∧ tt σ2 H2 fun b H3 =>
      if b = true then te σ2 H3 fun y H4 => ∃ acc, H4 D = some (.lst acc) ∧ acc.length < sizeLine ∧ Pv (i + 1) D (upd H4 D (.lst (acc ++ [y]))) else Pv (i + 1) D H3) (hd : ∀ D H', H D = none → Pv xs.length D H' → Q (.ref D) H') : LcT K a g tt te vs σ H Q :=
  fun D hD => lc_tup (Qd := fun H' => Q (.ref D) H') (fun i H => Pv i D H) (h0 D hD) (hl D) (hs D) (fun H' p => hd D H' hD p)
theorem LcR.mk {lo : Int} {n : Nat} (Pv : Nat → Addr → Hp → Prop) (h0 : ∀ D, H D = none → Pv 0 D (upd H D (.lst [])))
    (hs : ∀ D i H, i < n → Pv i D H → g (.int (lo + i)) (wipe σ vs) H fun σ2 H2 => wipe σ2 vs = wipe σ vs ∧ tt σ2 H2 fun b H3 =>
      if b = true then te σ2 H3 fun y H4 => ∃ acc, H4 D = some (.lst acc) ∧ acc.length < sizeLine ∧ Pv (i + 1) D (upd H4 D (.lst (acc ++ [y]))) else Pv (i + 1) D H3) (hd : ∀ D H', H D = none → Pv n D H' → Q (.ref D) H') : LcR lo n g tt te vs σ H Q :=
  fun D hD => lc_range (Qd := fun H' => Q (.ref D) H') (fun i H => Pv i D H) (h0 D hD) (hs D) (fun H' p => hd D H' hD p)
theorem rd_yes {QT : Bool → Hp → Prop} : tYes σ H QT = QT true H := rfl
theorem rd_sl {r : V → Option Int → Option Int → Hp → VK → Prop} {tlo thi : L2.St → Hp → (Option Int → Hp → Prop) → Prop} : tSl r te tlo thi σ H Q = te σ H fun x H1 => tlo σ H1 fun l H2 => thi σ H2 fun u H3 => r x l u H3 Q := rfl
theorem rd_noPart {QO : Option Int → Hp → Prop} : tNoPart σ H QO = QO none H := rfl
theorem rd_part {QO : Option Int → Hp → Prop} : tPart te σ H QO = te σ H fun x H1 => ∃ i, x = .int i ∧ QO (some i) H1 := rfl
theorem rd_slL {x : V} {lo hi : Option Int} : rSlL K x lo hi H Q = ∃ a xs, x = .ref a ∧ SqL K H a xs ∧ ∀ p, H p = none → Q (.ref p) (upd H p (.lst (cutV xs lo hi))) := rfl
end
/-! ### isinstance of a built-in class -/
theorem isi_mk {K : PySem.W.Frag} {x : V} {T t : String} {b : Bool} {H : Hp} {Q : VK} (ty : TyX K H x (.type t)) (e : kitB t T = some b) (q : Q (.bl b) H) : rIsi K [x, .ty T] H Q := ⟨x, .ty T, _, _, b, rfl, .ty T, ty, kit_ty e, q⟩
/-! ### the same with the next turn's word a letter (simp doesn't read it) -/
section
variable {K : PySem.W.Frag} {a : Addr} {xs : List V} {g : TG} {tb : TS} {D : Ends} {σ : L2.St} {H : Hp} {te : TE} {ta : TA} {tt : TT} {vs : List Nat} {Q : VK}
theorem while_w {c : TT} (Pw : L2.St → Hp → Prop) (μ : L2.St → Hp → Nat) (h0 : Pw σ H)
    (hs : ∀ σ H, Pw σ H → ∀ N : L2.St → Hp → Prop, (∀ σ' H', Pw σ' H' → μ σ' H' < μ σ H → N σ' H') →
      ∃ b : Bool, (∀ Q : Bool → Hp → Prop, Q b H → c σ H Q) ∧ (b = true → tb { D with nx := N, ct := N, bk := D.nx } σ H) ∧ (b = false → D.nx σ H)) : tWhile c tb D σ H :=
  while_mk Pw μ h0 fun σ H p => hs σ H p _ fun _ _ h1 h2 => ⟨h1, h2⟩
theorem ForL.w (Pw : Nat → L2.St → Hp → Prop) (h0 : Pw 0 σ H) (hl : ∀ i σ H, i ≤ xs.length → Pw i σ H → SqL K H a xs)
    (hs : ∀ i x σ H, xs[i]? = some x → Pw i σ H → ∀ N : L2.St → Hp → Prop, (∀ σ' H', Pw (i + 1) σ' H' → N σ' H') → g x σ H fun σ2 H2 => tb { D with nx := N, ct := N, bk := D.nx } σ2 H2) (hd : ∀ σ H, Pw xs.length σ H → D.nx σ H) : ForL K a g tb D σ H :=
  ForL.mk Pw h0 hl (fun i x σ H e p => hs i x σ H e p _ fun _ _ h => h) hd
theorem ForT.w (Pw : Nat → L2.St → Hp → Prop) (h0 : Pw 0 σ H) (hl : ∀ i σ H, i ≤ xs.length → Pw i σ H → SqT K H a xs)
    (hs : ∀ i x σ H, xs[i]? = some x → Pw i σ H → ∀ N : L2.St → Hp → Prop, (∀ σ' H', Pw (i + 1) σ' H' → N σ' H') → g x σ H fun σ2 H2 => tb { D with nx := N, ct := N, bk := D.nx } σ2 H2) (hd : ∀ σ H, Pw xs.length σ H → D.nx σ H) : ForT K a g tb D σ H :=
  ForT.mk Pw h0 hl (fun i x σ H e p => hs i x σ H e p _ fun _ _ h => h) hd
theorem ForR.w {lo : Int} {n : Nat} (Pw : Nat → L2.St → Hp → Prop) (h0 : Pw 0 σ H)
    (hs : ∀ i σ H, i < n → Pw i σ H → ∀ N : L2.St → Hp → Prop, (∀ σ' H', Pw (i + 1) σ' H' → N σ' H') → g (.int (lo + i)) σ H fun σ2 H2 => tb { D with nx := N, ct := N, bk := D.nx } σ2 H2) (hd : ∀ σ H, Pw n σ H → D.nx σ H) : ForR lo n g tb D σ H :=
  ForR.mk Pw h0 (fun i σ H e p => hs i σ H e p _ fun _ _ h => h) hd
theorem ForC.w {lo c : Int} {n : Nat} (Pw : Nat → L2.St → Hp → Prop) (h0 : Pw 0 σ H)
    (hs : ∀ i σ H, i < n → Pw i σ H → ∀ N : L2.St → Hp → Prop, (∀ σ' H', Pw (i + 1) σ' H' → N σ' H') → g (.int (lo + (i : Nat) * c)) σ H fun σ2 H2 => tb { D with nx := N, ct := N, bk := D.nx } σ2 H2) (hd : ∀ σ H, Pw n σ H → D.nx σ H) : ForC lo c n g tb D σ H :=
  ForC.mk Pw h0 (fun i σ H e p => hs i σ H e p _ fun _ _ h => h) hd
/-- a comprehension: Pw turn D made heap: the list at D holds made -/
theorem LcL.w (Pw : Nat → Addr → List V → Hp → Prop) (h0 : ∀ D, H D = none → Pw 0 D [] (upd H D (.lst []))) (hl : ∀ D i ys H, i ≤ xs.length → Pw i D ys H → SqL K H a xs)
    (hs : ∀ D i x ys H, xs[i]? = some x → Pw i D ys H → ∀ N : Hp → Prop, (∀ ys' H', Pw (i + 1) D ys' H' → N H') → g x (wipe σ vs) H fun σ2 H2 => wipe σ2 vs = wipe σ vs ∧ tt σ2 H2 fun b H3 =>
      if b = true then te σ2 H3 fun y H4 => ∃ acc, H4 D = some (.lst acc) ∧ acc.length < sizeLine ∧ N (upd H4 D (.lst (acc ++ [y]))) else N H3) (hd : ∀ D ys H', H D = none → Pw xs.length D ys H' → Q (.ref D) H') : LcL K a g tt te vs σ H Q :=
  LcL.mk (xs := xs) (fun i D H => ∃ ys, Pw i D ys H) (fun D n => ⟨[], h0 D n⟩) (fun D i H hi ⟨ys, p⟩ => hl D i ys H hi p) (fun D i x H e ⟨ys, p⟩ => hs D i x ys H e p _ fun ys' H' h => ⟨ys', h⟩) (fun D H' n ⟨ys, p⟩ => hd D ys H' n p)
theorem LcT.w (Pw : Nat → Addr → List V → Hp → Prop) (h0 : ∀ D, H D = none → Pw 0 D [] (upd H D (.lst []))) (hl : ∀ D i ys H, i ≤ xs.length → Pw i D ys H → SqT K H a xs)
    (hs : ∀ D i x ys H, xs[i]? = some x → Pw i D ys H → ∀ N : Hp → Prop, (∀ ys' H', Pw (i + 1) D ys' H' → N H') → g x (wipe σ vs) H fun σ2 H2 => wipe σ2 vs = wipe σ vs ∧ tt σ2 H2 fun b H3 =>
      if b = true then te σ2 H3 fun y H4 => ∃ acc, H4 D = some (.lst acc) ∧ acc.length < sizeLine ∧ N (upd H4 D (.lst (acc ++ [y]))) else N H3) (hd : ∀ D ys H', H D = none → Pw xs.length D ys H' → Q (.ref D) H') : LcT K a g tt te vs σ H Q :=
  LcT.mk (xs := xs) (fun i D H => ∃ ys, Pw i D ys H) (fun D n => ⟨[], h0 D n⟩) (fun D i H hi ⟨ys, p⟩ => hl D i ys H hi p) (fun D i x H e ⟨ys, p⟩ => hs D i x ys H e p _ fun ys' H' h => ⟨ys', h⟩) (fun D H' n ⟨ys, p⟩ => hd D ys H' n p)
theorem LcR.w {lo : Int} {n : Nat} (Pw : Nat → Addr → List V → Hp → Prop) (h0 : ∀ D, H D = none → Pw 0 D [] (upd H D (.lst [])))
    (hs : ∀ D i ys H, i < n → Pw i D ys H → ∀ N : Hp → Prop, (∀ ys' H', Pw (i + 1) D ys' H' → N H') → g (.int (lo + i)) (wipe σ vs) H fun σ2 H2 => wipe σ2 vs = wipe σ vs ∧ tt σ2 H2 fun b H3 =>
      if b = true then te σ2 H3 fun y H4 => ∃ acc, H4 D = some (.lst acc) ∧ acc.length < sizeLine ∧ N (upd H4 D (.lst (acc ++ [y]))) else N H3) (hd : ∀ D ys H', H D = none → Pw n D ys H' → Q (.ref D) H') : LcR lo n g tt te vs σ H Q :=
  LcR.mk (fun i D H => ∃ ys, Pw i D ys H) (fun D n => ⟨[], h0 D n⟩) (fun D i H e ⟨ys, p⟩ => hs D i ys H e p _ fun ys' H' h => ⟨ys', h⟩) (fun D H' n ⟨ys, p⟩ => hd D ys H' n p)
end
theorem rd_max2 {xs : List V} {H : Hp} {Q : VK} : (fun (xs : List V) (H : Hp) (Q : VK) => ∃ i j : Int, xs = [.int i, .int j] ∧ Q (.int (if j > i then j else i)) H) xs H Q = ∃ i j : Int, xs = [.int i, .int j] ∧ Q (.int (if j > i then j else i)) H := rfl
theorem rd_wipe0 {σ : L2.St} : wipe σ [] = σ := rfl
theorem rd_wipe1 {σ : L2.St} {v : Nat} {vs : List Nat} : wipe σ (v :: vs) = (wipe σ vs).set v none := rfl
theorem rd_eqD {K : PySem.W.Frag} {x y : V} {H : Hp} {Q : VK} : rEqD K x y H Q = ∃ d e, Dp K H x d ∧ Dp K H y e ∧ SeqAt.shaped d = true ∧ SeqAt.shaped e = true ∧ Q (.bl (PyData.eqv d e)) H := rfl
theorem rd_neD {K : PySem.W.Frag} {x y : V} {H : Hp} {Q : VK} : rNeD K x y H Q = ∃ d e, Dp K H x d ∧ Dp K H y e ∧ SeqAt.shaped d = true ∧ SeqAt.shaped e = true ∧ Q (.bl (!PyData.eqv d e)) H := rfl
theorem rd_rep {x y : V} {H : Hp} {Q : VK} : rRep x y H Q = ∃ l k xs, x = .ref l ∧ y = .int k ∧ H l = some (.lst xs) ∧ -(2 ^ 63) ≤ k ∧ k < 2 ^ 63 ∧ xs.length * k.toNat ≤ sizeLine ∧ ∀ p, H p = none → Q (.ref p) (upd H p (.lst (List.replicate k.toNat xs).flatten)) := rfl
theorem dp_ints {K : PySem.W.Frag} {H : Hp} : ∀ l : List Int, DpAll K H (l.map V.int) (l.map PyData.int)
  | [] => .nil
  | i :: l => .cons (.int i) (dp_ints l)
theorem dp_strs {K : PySem.W.Frag} {H : Hp} : ∀ l : List Str, DpAll K H (l.map V.str) (l.map PyData.str)
  | [] => .nil
  | i :: l => .cons (.str i) (dp_strs l)
/-! ### powers of any size; tuples made of lists; data -/
def CPowI (i j : Int) : Prop := 0 ≤ j ∧ (Builtin.Int.intBits i : Int) * j ≤ 2 ^ 27
theorem op_powI {X : Cx} : OpR X (binaryOp .Pow) (rI CPowI fun i j => .int (i ^ j.toNat)) := opI fun _ _ _ _ _ _ _ hc q => pow_int hc.1 hc.2 q
theorem bits_le {i : Int} {n : Nat} (h : i.natAbs < 2 ^ n) (h0 : 0 < n) : Builtin.Int.intBits i ≤ n := by
  have a := PySem.Flt.log2_lt_of h0 h
  unfold Builtin.Int.intBits
  split <;> omega
theorem powI {i j : Int} {n : Nat} (h : i.natAbs < 2 ^ n) (h0 : 0 < n) (hj : 0 ≤ j) (hz : (n : Int) * j ≤ 2 ^ 27) : CPowI i j := by
  refine ⟨hj, Int.le_trans (Int.mul_le_mul_of_nonneg_right ?_ hj) hz⟩
  exact Int.ofNat_le.mpr (bits_le h h0)
def rTupOf (K : PySem.W.Frag) : List V → Hp → VK → Prop := fun xs H Q => ∃ p ys, xs = [.ref p] ∧ ((SqL K H p ys ∧ ∀ l, H l = none → Q (.ref l) (upd H l (.tup ys))) ∨ (SqT K H p ys ∧ Q (.ref p) H))
theorem cr_tupOf {X : Cx} : CallR X (.type "tuple") (rTupOf X.K) := call_tuple_of
theorem rd_tupOf {K : PySem.W.Frag} {xs : List V} {H : Hp} {Q : VK} : rTupOf K xs H Q = ∃ p ys, xs = [.ref p] ∧ ((SqL K H p ys ∧ ∀ l, H l = none → Q (.ref l) (upd H l (.tup ys))) ∨ (SqT K H p ys ∧ Q (.ref p) H)) := rfl
def rLenS (K : PySem.W.Frag) : List V → Hp → VK → Prop := fun xs H Q => ∃ x n, xs = [x] ∧ LenV K x H n ∧ Q (.int n) H
theorem cr_lenS {X : Cx} : CallR X (.builtin "len") (rLenS X.K) := call_len
theorem rd_lenS {K : PySem.W.Frag} {xs : List V} {H : Hp} {Q : VK} : rLenS K xs H Q = ∃ x n, xs = [x] ∧ LenV K x H n ∧ Q (.int n) H := rfl
theorem rd_gcd {vs : List V} {H : Hp} {Q : VK} : rGcd vs H Q = ∃ a b : Int, vs = [.int a, .int b] ∧ Q (.int ((Nat.gcd a.natAbs b.natAbs : Nat) : Int)) H := rfl
/-- what holds between two statements -/
theorem seq_cut {t u : TS} {D : Ends} {σ : L2.St} {H : Hp} (Pw : L2.St → Hp → Prop) (h1 : ∀ R : L2.St → Hp → Prop, (∀ σ H, Pw σ H → R σ H) → t { D with nx := R } σ H) (h2 : ∀ σ H, Pw σ H → u D σ H) : tSeq t u D σ H := h1 (u D) h2
theorem rd_any {K : PySem.W.Frag} {vs : List V} {H : Hp} {Q : VK} : rAny K vs H Q = ∃ (a : Addr) (bs : List Bool), vs = [V.ref a] ∧ SqL K H a (bs.map V.bl) ∧ Q (.bl (bs.any id)) H := rfl
theorem rd_all {K : PySem.W.Frag} {vs : List V} {H : Hp} {Q : VK} : rAll K vs H Q = ∃ (a : Addr) (bs : List Bool), vs = [V.ref a] ∧ SqL K H a (bs.map V.bl) ∧ Q (.bl (bs.all id)) H := rfl
theorem rd_ext {K : PySem.W.Frag} {to : TE} {t : TA} {σ : L2.St} {H : Hp} {Q : VK} : tBM K "list" rExtend to t σ H Q = to σ H fun x H1 => tyV K "list" x H1 ∧ t σ H1 fun xs H2 => ∃ l b ys zs, x = .ref l ∧ xs = [.ref b] ∧ H2 l = some (.lst ys) ∧ H2 b = some (.lst zs) ∧ ys.length + zs.length ≤ sizeLine ∧ Q .non (upd H2 l (.lst (ys ++ zs))) := rfl
theorem rd_glst {K : PySem.W.Frag} {n : Nat} {g : TGs} {v : V} {σ : L2.St} {H : Hp} {QS : L2.St → Hp → Prop} : gLst K n g v σ H QS = ∃ a xs, v = .ref a ∧ SqL K H a xs ∧ xs.length = n ∧ g xs σ H QS := rfl
theorem ix_listK {X : Cx} {K : PySem.W.Frag} (h : X.K = K) : IxR X (rIxL K) := by
  subst h
  exact ix_list
theorem ix_tupK {X : Cx} {K : PySem.W.Frag} (h : X.K = K) : IxR X (rIxT K) := by
  subst h
  exact ix_tup
end CB/-! sorted of a list of triples of ints, any number of them -/
namespace CB
open PySem PyProof.Rows Srt SrtO L2
abbrev T3 := Int × Int × Int
def lexT (p q : T3) : Bool := if p.1 = q.1 then lexB p.2 q.2 else decide (p.1 < q.1)
theorem lexT_iff {p q : T3} : lexT p q = true ↔ p.1 < q.1 ∨ (p.1 = q.1 ∧ (p.2.1 < q.2.1 ∨ (p.2.1 = q.2.1 ∧ p.2.2 < q.2.2))) := by
  unfold lexT
  by_cases e : p.1 = q.1
  · rw [if_pos e, lexB_iff]
    omega
  · rw [if_neg e, decide_eq_true_eq]
    omega
theorem lexT_no {p q : T3} : lexT p q = false ↔ ¬ (p.1 < q.1 ∨ (p.1 = q.1 ∧ (p.2.1 < q.2.1 ∨ (p.2.1 = q.2.1 ∧ p.2.2 < q.2.2)))) := by
  rw [← lexT_iff]
  cases lexT p q <;> simp
theorem swo_T {α : Type} (k : α → T3) : Swo fun v u => lexT (k v) (k u) := by
  refine ⟨fun x y h => ?_, fun x y z h1 h2 => ?_⟩
  · have a := lexT_iff.mp h
    refine lexT_no.mpr ?_
    omega
  · have a := lexT_no.mp h1
    have b := lexT_no.mp h2
    refine lexT_no.mpr ?_
    omega
theorem lexT_eq {p q : T3} (h1 : lexT p q = false) (h2 : lexT q p = false) : p = q := by
  have a := lexT_no.mp h1
  have b := lexT_no.mp h2
  obtain ⟨p1, p2, p3⟩ := p
  obtain ⟨q1, q2, q3⟩ := q
  simp only at a b
  have e1 : p1 = q1 := by omega
  have e2 : p2 = q2 := by omega
  have e3 : p3 = q3 := by omega
  rw [e1, e2, e3]
/-- two sorted rearrangements of triples are one -/
theorem srtT_uniq : ∀ {l m : List T3}, l.Pairwise (fun p q => lexT q p = false) → m.Pairwise (fun p q => lexT q p = false) → l.Perm m → l = m := fun {l m} h1 h2 h => by
  refine List.Perm.eq_of_pairwise (le := fun p q => lexT q p = false) (fun a b _ _ x y => lexT_eq y x) h1 h2 h
section
variable {prog : Program} {w : World} {A : Around} {E : Value → Shared → Prop} {s : Shared}
def IsTrip (h : Heap) (v : Value) (k : T3) : Prop := ∃ a o t u r n, v = .ref a ∧ h.get? a = some o ∧ o.cls = .type "tuple" ∧ o.data = .seq #[.int k.1 t, .int k.2.1 u, .int k.2.2 r] n
theorem IsTrip.keeps {h h' : Heap} {v : Value} {k : T3} (p : IsTrip h v k) (kk : ∀ b o, h.get? b = some o → o.cls = .type "tuple" → h'.get? b = some o) : IsTrip h' v k := by
  obtain ⟨a, o, t, u, r, n, e, ho, hc, hd⟩ := p
  exact ⟨a, o, t, u, r, n, e, kk _ _ ho hc, hc, hd⟩
theorem firstsT {h : Heap} : ∀ {vs : List Value}, (∀ v ∈ vs, ∃ k, IsTrip h v k) → ∃ fs : List Value, PySem.W.KatTups h vs fs ∧ fs.length = vs.length ∧ ∀ f ∈ fs, ∃ x t, f = Value.int x t
  | [], _ => ⟨[], PySem.W.KatTups.nil, rfl, fun _ hm => by simp at hm⟩
  | v :: vs, hp => by
    obtain ⟨fs, h1, h2, h3⟩ := firstsT (vs := vs) fun v' hm => hp v' (List.mem_cons_of_mem _ hm)
    obtain ⟨k, a, o, t, u, r, n, e, ho, hc, hd⟩ := hp v (List.mem_cons_self ..)
    subst e
    refine ⟨.int k.1 t :: fs, PySem.W.KatTups.cons ho hc hd rfl h1, by rw [List.length_cons, List.length_cons, h2], fun f hm => ?_⟩
    rcases List.mem_cons.mp hm with rfl | hm
    · exact ⟨k.1, t, rfl⟩
    · exact h3 f hm
theorem trip_cmp {vs : List Value} {k : Value → T3} (hp : ∀ v ∈ vs, IsTrip s.heap v (k v)) : SrtO.Cmp prog w A s (tuples' true) (fun p => p.1 ∈ vs) (lt2 fun v u => lexT (k v) (k u)) := by
  intro p q hm hm'
  have h1 := hp _ hm
  have h2 := hp _ hm'
  show wpAny (model prog w) A (keyLt' (tuples' true) p.1 q.1) (fun r s' => s' = s ∧ r = lexT (k p.1) (k q.1)) (fun _ _ => False) s
  generalize k p.1 = kp at h1 ⊢
  generalize k q.1 = kq at h2 ⊢
  obtain ⟨x, y, z⟩ := kp
  obtain ⟨x', y', z'⟩ := kq
  obtain ⟨a, o, t, u, r, n, e, ho, hc, hd⟩ := h1
  obtain ⟨a', o', t', u', r', n', e', ho', hc', hd'⟩ := h2
  rw [e, e']
  simp only at hd hd'
  refine PySem.W.kat_lt ho hd ho' hd' ?_
  show PySem.W.KatLex prog w A true (decide (3 < 3)) _ [(.int x t, .int x' t'), (.int y u, .int y' u'), (.int z r, .int z' r')] 0 s
  refine PySem.W.kat_cons (SeqAt.EqAt.int_int x t x' t' prog w _ _ ?_)
  refine PySem.W.kat_go (fun e1 => ?_) (fun e1 => ?_)
  · have ex : x = x' := by simpa using e1
    refine PySem.W.kat_yes (PySem.W.kat_cons (SeqAt.EqAt.int_int y u y' u' prog w _ _ ?_))
    refine PySem.W.kat_go (fun e2 => ?_) (fun e2 => ?_)
    · have ey : y = y' := by simpa using e2
      refine PySem.W.kat_yes (PySem.W.kat_cons (SeqAt.EqAt.int_int z r z' r' prog w _ _ ?_))
      refine PySem.W.kat_go (fun e3 => ?_) (fun e3 => ?_)
      · have ez : z = z' := by simpa using e3
        have e4 : lexT (x, y, z) (x', y', z') = false := lexT_no.mpr (by simp only; omega)
        exact PySem.W.kat_yes (PySem.W.kat_nil ⟨rfl, e4.symm⟩)
      · have e4 : lexT (x, y, z) (x', y', z') = decide (z < z') := by
          unfold lexT lexB
          simp only
          rw [if_pos ex, if_pos ey]
        refine PySem.W.kat_no (PySem.W.kat_one _ _ (PyProof.Rows.lt_int ?_))
        exact (show s = s ∧ decide (z < z') = lexT (x, y, z) (x', y', z') from ⟨rfl, e4.symm⟩)
    · have ey : ¬ y = y' := by simpa using e2
      have e4 : lexT (x, y, z) (x', y', z') = decide (y < y') := by
        unfold lexT lexB
        simp only
        rw [if_pos ex, if_neg ey]
      refine PySem.W.kat_no (PySem.W.kat_one _ _ (PyProof.Rows.lt_int ?_))
      exact (show s = s ∧ decide (y < y') = lexT (x, y, z) (x', y', z') from ⟨rfl, e4.symm⟩)
  · have ex : ¬ x = x' := by simpa using e1
    have e3 : lexT (x, y, z) (x', y', z') = decide (x < x') := by
      unfold lexT
      simp only
      rw [if_neg ex]
    exact PySem.W.kat_no (oneLt_int ⟨rfl, e3.symm⟩)
theorem trips_sortableO {a : Addr} {vs : List Value} {k : Value → T3} (h0 : 0 < vs.length) (hp : ∀ v ∈ vs, IsTrip s.heap v (k v)) (ha : ∀ o, s.heap.get? a = some o → o.cls ≠ .type "tuple") : SortableO prog w A s a vs fun v u => lexT (k v) (k u) := by
  intro h' keep
  have hp' : ∀ v ∈ vs, IsTrip h' v (k v) := fun v hm => (hp v hm).keeps fun b o e c => keep b o (fun z => by subst z; exact ha o e c) e
  obtain ⟨fs, h1, h2, h3⟩ := firstsT fun v hm => ⟨_, hp' v hm⟩
  refine ⟨tuples' true, fun Q E hq => ?_, trip_cmp hp'⟩
  refine PySem.W.kat_kind (T := .type "int") h1 (by omega) (fun f hm => ?_) (by rfl) ?_
  · obtain ⟨x, t, rfl⟩ := h3 f hm
    exact PySem.W.Looks.now
  · have e : (Value.type "int" != Value.type "tuple") = true := by first | decide +kernel | rfl | decide
    rw [e]
    exact hq
theorem sorted_tripsO {l : Addr} {vs : List Value} {k : Value → T3} {Q : Value → Shared → Prop} (hl : s.heap.IsList l vs.toArray) (hz : vs.length ≤ sizeLine) (hp : ∀ v ∈ vs, IsTrip s.heap v (k v))
    (h : ∀ (h' : Heap) (d : Addr) (out : List Value), Srtd (fun v u => lexT (k v) (k u)) out → Stb (fun v u => lexT (k v) (k u)) out vs → (∀ b o, s.heap.get? b = some o → h'.get? b = some o) → s.heap.objs.size ≤ d → (∃ n, h'.get? d = some (seqObj "list" out.toArray n)) → Q (.ref d) { s with heap := h' }) :
    wpAny (model prog w) A (call (.builtin "sorted") [.ref l]) Q E s := by
  refine sorted_ord (swo_T k) hl hz (fun h2 h₁ a ha kk => ?_) fun out hs hb => ?_
  · refine trips_sortableO (s := { s with heap := h₁ }) (by omega) (fun v hm => (hp v hm).keeps fun b o e _ => (kk b o e).2) fun o e => ?_
    have e' : some o = some (seqObj "list" vs.toArray 0) := e.symm.trans ha
    cases e'
    intro c
    exact absurd (Value.type.inj c) (by decide)
  · exact h _ _ out hs hb (fun b o e => sortedAll_old e) (Nat.le_succ _) (sortedAll_at s.heap vs out.toArray)
end
end CB
namespace CB
open PySem PySem.Spec PyProof.Rows L2
/-- the triple that stands at x -/
def kT (H : Hp) : V → T3
  | .ref r => match H r with
    | some (.tup [.int a, .int b, .int c]) => (a, b, c)
    | _ => (0, 0, 0)
  | _ => (0, 0, 0)
def IsT3 (H : Hp) (x : V) : Prop := ∃ r a b c, x = V.ref r ∧ H r = some (.tup [.int a, .int b, .int c])
theorem IsT3.at {H : Hp} {x : V} (h : IsT3 H x) : ∃ r, x = V.ref r ∧ H r = some (.tup [.int (kT H x).1, .int (kT H x).2.1, .int (kT H x).2.2]) := by
  obtain ⟨r, a, b, c, rfl, e⟩ := h
  refine ⟨r, rfl, ?_⟩
  have q : kT H (V.ref r) = (a, b, c) := by
    show (match H r with
      | some (.tup [.int a, .int b, .int c]) => (a, b, c)
      | _ => (0, 0, 0)) = _
    rw [e]
  rw [q, e]
/-- the list of triples that stand at the xs -/
def Trs (H : Hp) (xs : List V) (ts : List T3) : Prop := (∀ x ∈ xs, IsT3 H x) ∧ ts = xs.map (kT H)
theorem kT_same {H H' : Hp} (s : Same H H') {x : V} (h : IsT3 H x) : kT H' x = kT H x ∧ IsT3 H' x := by
  obtain ⟨r, a, b, c, rfl, e⟩ := h
  have e' := s _ _ e
  refine ⟨?_, r, a, b, c, rfl, e'⟩
  show (match H' r with
      | some (.tup [.int a, .int b, .int c]) => (a, b, c)
      | _ => (0, 0, 0)) = (match H r with
      | some (.tup [.int a, .int b, .int c]) => (a, b, c)
      | _ => (0, 0, 0))
  rw [e, e']
theorem Trs.same {H H' : Hp} {xs : List V} {ts : List T3} (s : Same H H') (h : Trs H xs ts) : Trs H' xs ts := by
  obtain ⟨h1, rfl⟩ := h
  exact ⟨fun x m => (kT_same s (h1 x m)).2, List.map_congr_left fun x m => (kT_same s (h1 x m)).1.symm⟩
theorem Trs.keep {H H' : Hp} {xs : List V} {ts : List T3} (s : ∀ r a b c, H r = some (.tup [.int a, .int b, .int c]) → H' r = some (.tup [.int a, .int b, .int c])) (h : Trs H xs ts) : Trs H' xs ts := by
  obtain ⟨h1, rfl⟩ := h
  refine ⟨fun x m => ?_, List.map_congr_left fun x m => ?_⟩
  · obtain ⟨r, a, b, c, e, q⟩ := h1 x m
    exact ⟨r, a, b, c, e, s _ _ _ _ q⟩
  · obtain ⟨r, a, b, c, rfl, q⟩ := h1 x m
    show (match H r with
      | some (.tup [.int a, .int b, .int c]) => (a, b, c)
      | _ => (0, 0, 0)) = (match H' r with
      | some (.tup [.int a, .int b, .int c]) => (a, b, c)
      | _ => (0, 0, 0))
    rw [q, s _ _ _ _ q]
theorem same_at {H H1 : Hp} {f : Addr} {o : HO} (s : Same H H1) (n : H f = none) : Same H (upd H1 f o) := fun b x e => by
  rw [upd_ne (ne_of_none e n)]
  exact s b x e
theorem Trs.updL {H : Hp} {f : Addr} {l : List V} {o : HO} {xs : List V} {ts : List T3} (h : Trs H xs ts) (e : H f = some (.lst l)) : Trs (upd H f o) xs ts :=
  h.keep fun r a b c q => by rw [upd_ne (ne_of q e (by intro z; cases z))]; exact q
theorem Trs.updN {H : Hp} {f : Addr} {o : HO} {xs : List V} {ts : List T3} (h : Trs H xs ts) (e : H f = none) : Trs (upd H f o) xs ts := h.same (same_upd e)
theorem Trs.nil {H : Hp} : Trs H [] [] := ⟨fun x m => by simp at m, rfl⟩
theorem Trs.snoc {H : Hp} {xs : List V} {ts : List T3} {r : Addr} {a b c : Int} (h : Trs H xs ts) (e : H r = some (.tup [.int a, .int b, .int c])) : Trs H (xs ++ [.ref r]) (ts ++ [(a, b, c)]) := by
  obtain ⟨h1, rfl⟩ := h
  refine ⟨fun x m => ?_, ?_⟩
  · rcases List.mem_append.mp m with m | m
    · exact h1 x m
    · rw [List.mem_singleton.mp m]
      exact ⟨r, a, b, c, rfl, e⟩
  · rw [List.map_append]
    show _ = _ ++ [kT H (.ref r)]
    have q : kT H (V.ref r) = (a, b, c) := by
      show (match H r with
        | some (.tup [.int a, .int b, .int c]) => (a, b, c)
        | _ => (0, 0, 0)) = _
      rw [e]
    rw [q]
theorem Trs.get {H : Hp} {xs : List V} {ts : List T3} {i : Nat} {x : V} (h : Trs H xs ts) (e : xs[i]? = some x) : ∃ r a b c, x = .ref r ∧ H r = some (.tup [.int a, .int b, .int c]) ∧ ts[i]? = some (a, b, c) := by
  obtain ⟨h1, rfl⟩ := h
  obtain ⟨r, e1, e2⟩ := (h1 x (List.mem_of_getElem? e)).at
  exact ⟨r, _, _, _, e1, e2, by rw [List.getElem?_map, e]; rfl⟩
theorem Trs.len {H : Hp} {xs : List V} {ts : List T3} (h : Trs H xs ts) : ts.length = xs.length := by
  rw [h.2, List.length_map]
/-- sorted(xs), xs a list of triples of ints -/
def rSorted3 (K : PySem.W.Frag) : List V → Hp → VK → Prop := fun vs H Q => ∃ (a : Addr) (xs : List V) (ts : List T3), vs = [V.ref a] ∧ SqL K H a xs ∧ Trs H xs ts ∧
  ∀ ys us p, Trs H ys us → us.Pairwise (fun p q => lexT q p = false) → us.Perm ts → H p = none → Q (.ref p) (upd H p (.lst ys))
section
variable {X : Cx}
theorem cr_sorted3 : CallR X (.builtin "sorted") (rSorted3 X.K) := by
  intro pins s σ H vs us Q I r h
  obtain ⟨a, xs, ts, rfl, hs, ⟨hx, rfl⟩, q⟩ := h
  obtain ⟨its, rv, hl, hz⟩ := I.list hs
  obtain ⟨u, rfl, ru⟩ := vals1 r
  obtain rfl : u = Value.ref a := ru
  obtain ⟨e1, e2⟩ := refs_back rv fun x m => by
    obtain ⟨t, e, _⟩ := (hx x m).at
    exact ⟨t, e⟩
  refine sorted_tripsO (k := fun u => kT H (backV u)) hl.isList (by rw [← rv.length]; exact hz) (fun v hv => ?_) fun h' d out h1 h2 kp hd hn => ?_
  · obtain ⟨t, rfl⟩ := e2 v hv
    have hm : V.ref t ∈ xs := by rw [e1]; exact List.mem_map.mpr ⟨_, hv, rfl⟩
    obtain ⟨t', e, ht⟩ := (hx _ hm).at
    cases e
    obtain ⟨_, its2, r2, o, ho, hc, n, hd⟩ := I.hok _ _ ht
    cases r2 with
    | cons ra r2 =>
      cases r2 with
      | cons rb r2 =>
        cases r2 with
        | cons rc r2 =>
          cases r2
          obtain ⟨t1, rfl⟩ := ra
          obtain ⟨t2, rfl⟩ := rb
          obtain ⟨t3, rfl⟩ := rc
          exact ⟨t, o, t1, t2, t3, n, rfl, ho, hc, hd⟩
  · have h3 : ∀ u ∈ out, ∃ a, u = Value.ref a := fun u hu => e2 u (h2.perm.mem_iff.mp hu)
    obtain ⟨n, hn⟩ := hn
    have hp : (out.map backV).Perm xs := by
      rw [e1]
      exact h2.perm.map backV
    have hT : ∀ x ∈ out.map backV, IsT3 H x := fun x m => hx x (hp.mem_iff.mp m)
    have hS : ((out.map backV).map (kT H)).Pairwise (fun p q => lexT q p = false) := by
      rw [List.pairwise_map, List.pairwise_map]
      exact h1
    refine ⟨.ref d, upd H d (.lst (out.map backV)), I.laid (t' := s.toks) kp hd ⟨?_, out, n, vals_back h3, hn⟩, rfl, q _ _ d ⟨hT, rfl⟩ hS (hp.map (kT H)) (I.hok.fresh hd)⟩
    rw [hp.length_eq]
    exact hz
end
section
variable {H : Hp} {Q : VK} {K : PySem.W.Frag} {vs : List V}
theorem rd_sorted3 : rSorted3 K vs H Q = ∃ (a : Addr) (xs : List V) (ts : List T3), vs = [V.ref a] ∧ SqL K H a xs ∧ Trs H xs ts ∧
  ∀ ys us p, Trs H ys us → us.Pairwise (fun p q => lexT q p = false) → us.Perm ts → H p = none → Q (.ref p) (upd H p (.lst ys)) := rfl
end
/-! ### triples as data -/
def dT3 (t : T3) : PyData := .tuple [.int t.1, .int t.2.1, .int t.2.2]
theorem dp_t3 {K : PySem.W.Frag} {H : Hp} {x : V} (h : IsT3 H x) : Dp K H x (dT3 (kT H x)) := by
  obtain ⟨r, rfl, e⟩ := h.at
  exact .tup (SqT.of e) (.cons (.int _) (.cons (.int _) (.cons (.int _) .nil)))
theorem dp_trs {K : PySem.W.Frag} {H : Hp} : ∀ {xs : List V} {ts : List T3}, Trs H xs ts → DpAll K H xs (ts.map dT3) := fun {xs ts} h => by
  obtain ⟨h1, rfl⟩ := h
  induction xs with
  | nil => exact .nil
  | cons x xs ih => exact .cons (dp_t3 (h1 x List.mem_cons_self)) (ih fun y m => h1 y (List.mem_cons_of_mem _ m))
theorem lay_t3 : ∀ ts : List T3, PyData.canLayAll0 (ts.map dT3) = true
  | [] => rfl
  | t :: ts => by
    show (PyData.canLay0 (dT3 t) && PyData.canLayAll0 (ts.map dT3)) = true
    rw [lay_t3 ts]
    rfl
theorem depth_t3 : ∀ ts : List T3, PyData.depthAll (ts.map dT3) ≤ 3
  | [] => by decide
  | t :: ts => by
    have := depth_t3 ts
    show max (PyData.depth (dT3 t)) (PyData.depthAll (ts.map dT3)) ≤ 3
    have e : PyData.depth (dT3 t) = 1 := rfl
    omega
theorem shaped_t3 (ts : List T3) : SeqAt.shaped (.tuple (ts.map dT3)) = true := by
  unfold SeqAt.shaped
  have a : PyData.canLay0 (.tuple (ts.map dT3)) = true := lay_t3 ts
  have b : PyData.depth (.tuple (ts.map dT3)) ≤ 64 := by
    have := depth_t3 ts
    show PyData.depthAll (ts.map dT3) + 1 ≤ 64
    omega
  rw [a, decide_eq_true b]
  rfl
end CB
/-! try with several clauses, each with a name or without -/
namespace CB
open PySem PySem.Spec PyProof.Rows L2
abbrev Cl := Value × Option Nat × (Addr → Value → Option Addr → TS)
def endA (i : Option Nat) (D : Ends) : Ends := match i with
  | none => D
  | some i => { nx := fun p q => D.nx (p.set i none) q, rt := D.rt, bk := fun p q => D.bk (p.set i none) q, ct := fun p q => D.ct (p.set i none) q }
def setA (i : Option Nat) (p : L2.St) (a : Addr) : L2.St := match i with
  | none => p
  | some i => p.set i (some (.ref a))
def wA (K : PySem.W.Frag) (Wo : WX) (D : Ends) : List Cl → WX
  | [] => Wo
  | (c, i, ts) :: r => fun cls d p H => ∃ b, PySem.W.exmOne K cls c = some b ∧ (b = true → ∀ a, H a = none → ts a cls d (endA i D) (setA i p a) H) ∧ (b = false → wA K Wo D r cls d p H)
/-- the clauses of the text -/
inductive HdA (X : Cx) : List ExceptHandler → List Cl → Prop
  | nil : HdA X [] []
  | bare {x : Str} {c : Value} {ts : Addr → Value → Option Addr → TS} {b1 : Stmt} {su : List Stmt} {np pp : Pos} {hs : List ExceptHandler} {l : List Cl} (hc : Names X x c)
      (hw : ∀ (a : Addr) (o : Obj) (cls : Value) (d : Option Addr) (pn : List (Addr × Obj)), Zc cls d o → (∃ vs, o.data = .fields vs) → PSs (X.suite a ((a, o) :: pn)) (b1 :: su) (ts a cls d)) (r : HdA X hs l) :
      HdA X (.ExceptHandler (some (.Name x np)) none (b1 :: su) pp :: hs) ((c, none, ts) :: l)
  | named {x n : Str} {c : Value} {i : Nat} {ts : Addr → Value → Option Addr → TS} {b1 : Stmt} {su : List Stmt} {np pp : Pos} {hs : List ExceptHandler} {l : List Cl} (hc : Names X x c) (hi : X.N[i]? = some n) (hn : X.env.kindOf n = some .local)
      (hw : ∀ (a : Addr) (o : Obj) (cls : Value) (d : Option Addr) (pn : List (Addr × Obj)), Zc cls d o → (∃ vs, o.data = .fields vs) → PSs (X.suite a ((a, o) :: pn)) (b1 :: su) (ts a cls d)) (r : HdA X hs l) :
      HdA X (.ExceptHandler (some (.Name x np)) (some n) (b1 :: su) pp :: hs) ((c, some i, ts) :: l)
section
variable {X : Cx} {body : List Stmt} {h1 : ExceptHandler} {hs : List ExceptHandler} {l : List Cl} {pos : Pos} {tb : WX → TS} {Wo : WX}
theorem ps_tryA (hst : X.stack = X.env :: X.outer) (hf : X.env.frame = some X.env.locals) (hN : X.N.Nodup) (tk : Takes X Wo)
    (hb : ∀ (W : WX) (pn : List (Addr × Obj)) (xe : Value → Shared → Prop), Takes (X.tr pn xe) W → PassesOwn (model X.prog X.w) X.A X.env xe → PSs (X.tr pn xe) body (tb W))
    (hh : HdA X (h1 :: hs) l) : PS X (.Try body (h1 :: hs) [] [] pos) (fun D p H => tb (wA X.K Wo D l) D p H) := by
  refine ⟨fun pins s p H D I hgo => ?_⟩
  have ok := I.ok
  have frm : X.A.frames = some (X.env :: X.outer) := by rw [ok.frames, hst]
  refine wpAny_Try_except (wpAny_mono ((hb (wA X.K Wo D l) (X.pn ++ pins) (fun e s₁ => wpAny (model X.prog X.w) X.A (noteFrame e X.env) (fun _ s₂ => wpAny (model X.prog X.w) X.A (setFlight e none) (fun _ s₃ => wpAny (model X.prog X.w) X.A (handleBy e X.env (h1 :: hs)) (SP X pins D) X.xe s₃) X.xe s₂) X.xe s₁)
    (fun u s' xx => ?_) PassesOwn.looking).run [] s p H D (I.toTry _) hgo) (fun f s1 hsp => ?_) (fun e s1 he => he))
  · obtain ⟨a, B, sI, pins', p', H', cls, d, rfl, Jt, nb, up, sky, na, os, ag, wish⟩ := xx
    have J : Inv X pins p' H' sI := Jt.ofTry ok
    have skyB : Sky B (X.env :: X.outer) a (Zc cls d) X.env.locals s'.heap := by rw [← hst]; exact sky
    show wpAny (model X.prog X.w) X.A (noteFrame (.ref a) X.env) _ _ _
    refine Sky.land Zc.steady frm hf skyB fun hp3 fl3 up3 => ?_
    have J3 : Inv X pins p' H' { s' with heap := hp3 } := J.landed nb fl3.1 (up.trans up3) os ag
    obtain ⟨o3, v3, g3, z3, d3⟩ := fl3.there
    have out : ∀ {hp : Heap} {o : Obj} {vs : Array Value}, hp.FunFrames B (X.env :: X.outer) → hp.get? a = some o → o.data = .fields vs → a ∉ frs (X.env :: X.outer) := fun {hp o vs} ff e dd hm => by
      obtain ⟨_, o', e', hnf⟩ := ff.mem hm; rw [e] at e'; cases e'; exact hnf _ dd
    have nfr := out fl3.2.2.1 g3 d3
    have nL : a ≠ X.env.locals := fun z => nfr (List.mem_filterMap.mpr ⟨X.env, List.mem_cons_self, by rw [hf, z]⟩)
    have nF : a ∉ X.fs := fun hm => by obtain ⟨e, he, q⟩ := List.mem_filterMap.mp hm; exact nfr (List.mem_filterMap.mpr ⟨e, List.mem_cons_of_mem _ he, q⟩)
    have S3 := J3.suite g3 d3 na nL nF
    have LT : PySem.W.Looks (model X.prog X.w) hp3 (typeOf (.ref a)) cls := fun A Q E s k q => wpAny_typeOf_ref (k _ _ g3) (by rw [z3.1]; exact q)
    have test : ∀ {x : Str} {np : Pos} {c : Value} (hc : Names X x c) {Q : Value → Shared → Prop} {E : Value → Shared → Prop}, Q c { s' with heap := hp3 } → wpAny (model X.prog X.w) (X.A.mark (some (.ref a))) (eval (.Name x np) X.env) Q E { s' with heap := hp3 } := fun {x np c} hc {Q E} q => by
      obtain ⟨hg, hdb, hm | ⟨hm, hv, hnn⟩⟩ := hc
      · exact ld_glob (X := X.suite a ((a, o3) :: (X.pn ++ pins))) S3 hg hm q hdb
      · exact ld_blt (X := X.suite a ((a, o3) :: (X.pn ++ pins))) S3 hg hm hv q hnn hdb
    have go : ∀ {hs' : List ExceptHandler} {l' : List Cl}, HdA X hs' l' → wA X.K Wo D l' cls d p' H' → wpAny (model X.prog X.w) X.A (handleBy (.ref a) X.env hs') (SP X pins D) X.xe { s' with heap := hp3 } := by
      intro hs' l' hk
      induction hk with
      | nil =>
        intro w
        refine wpAny_handleBy_nil ?_
        obtain ⟨k1, k2, k3, oe, vs, T, oT, ts', he, hz, hd, h1', hr⟩ := id fl3
        unfold PySem.passOn
        refine wpAny_bind (wpAny_field he hd h1' ?_)
        rw [if_neg (show ¬ ((Value.ref T == Value.none) = true) from by simp)]
        have fin : wpAny (model X.prog X.w) X.A (setFlight (.ref a) X.env.frame) (fun _ s4 => wpAny (model X.prog X.w) X.A (throw (.ref a) : Sem Flow) (SP X pins D) X.xe s4) X.xe { s' with heap := hp3 } := by
          rw [hf]
          refine HandSPX.setFlight_upZ fl3 fun h4 hh4 up4 => wpAny_throw (tk _ _ ?_)
          exact ⟨a, B, sI, pins, p', H', cls, d, rfl, J, nb, (up.trans up3).trans up4, .inr (.inr (by rw [hst]; exact hh4)), na, os, ag, w⟩
        first | exact wpAny_bind (wpAny_pure (wpAny_bind fin)) | exact wpAny_bind fin
      | @bare x c ts b1 su np pp hs2 l2 hc hw r ih =>
        intro w
        obtain ⟨b, hb1, hyes, hno⟩ := w
        refine wpAny_handleBy_cons (codeAny_handlers_test ?_) (by intro q; cases q)
        have LM := PySem.W.exm_one (M := model X.prog X.w) (J3.kIn) LT hb1
        refine test hc (LM.here ?_)
        cases b with
        | true =>
          refine codeAny_handlers_suite (HandSPX.lands_againZ fl3 fun h4 fl4 up4 => ?_)
          have J4 : Inv X pins p' H' { s' with heap := h4 } := J.landed nb fl4.1 ((up.trans up3).trans up4) os ag
          obtain ⟨o4, v4, g4, z4, d4⟩ := fl4.there
          have S4 := J4.suite g4 d4 na nL nF
          refine wpAny_mono ((hw a o4 cls d (X.pn ++ pins) z4 ⟨_, d4⟩).run [] _ _ H' _ S4 (hyes rfl a na)) (fun f s6 hsp => ?_) (fun _ _ z => False.elim z)
          cases f with
          | ret u => obtain ⟨v6, p6, H6, S6, r6, q6⟩ := hsp; exact ⟨_, _, _, S6.unsuite ok, r6, q6⟩
          | _ => obtain ⟨p6, H6, S6, q6⟩ := hsp; exact ⟨_, _, S6.unsuite ok, q6⟩
        | false => exact ih (hno rfl)
      | @named x n c i ts b1 su np pp hs2 l2 hc hi hn hw r ih =>
        intro w
        obtain ⟨b, hb1, hyes, hno⟩ := w
        refine wpAny_handleBy_cons (codeAny_handlers_test ?_) (by intro q; cases q)
        have LM := PySem.W.exm_one (M := model X.prog X.w) (J3.kIn) LT hb1
        refine test hc (LM.here ?_)
        cases b with
        | true =>
          refine codeAny_handlers_suite_as (HandSPX.lands_againZ fl3 fun h4 fl4 up4 => ?_)
          have J4 : Inv X pins p' H' { s' with heap := h4 } := J.landed nb fl4.1 ((up.trans up3).trans up4) os ag
          obtain ⟨o4, v4, g4, z4, d4⟩ := fl4.there
          have S4 := J4.suite g4 d4 na nL nF
          refine store_ok (X := X.suite a ((a, o4) :: (X.pn ++ pins))) (v := .ref a) S4 hN hi (.inl hn) rfl (fun s5 S5 => ?_) (.inr hn)
          refine wpAny_mono ((hw a o4 cls d (X.pn ++ pins) z4 ⟨_, d4⟩).run [] s5 _ H' _ S5 (hyes rfl a na)) (fun f s6 hsp => ?_) (fun _ _ z => False.elim z)
          have gone : ∀ {p6 : L2.St} {H6 : Hp} {Q : Shared → Prop}, Inv (X.suite a ((a, o4) :: (X.pn ++ pins))) [] p6 H6 s6 → (∀ s7, Inv X pins (p6.set i none) H6 s7 → Q s7) →
              wpAny (model X.prog X.w) X.A (do bindName X.env n .none; unbindBehindTheSuite X.env n pp) (fun _ s7 => Q s7) X.xe s6 := fun {p6 H6 Q} S6 hq => gone_ok (S6.unsuite ok) hN hi hn hq
          cases f with
          | ret u => obtain ⟨v6, p6, H6, S6, r6, q6⟩ := hsp; exact gone S6 fun s7 J7 => ⟨_, _, _, J7, r6, q6⟩
          | next => obtain ⟨p6, H6, S6, q6⟩ := hsp; exact gone S6 fun s7 J7 => ⟨_, _, J7, q6⟩
          | brk => obtain ⟨p6, H6, S6, q6⟩ := hsp; exact gone S6 fun s7 J7 => ⟨_, _, J7, q6⟩
          | cont => obtain ⟨p6, H6, S6, q6⟩ := hsp; exact gone S6 fun s7 J7 => ⟨_, _, J7, q6⟩
        | false => exact ih (hno rfl)
    exact go hh wish
  · cases f with
    | ret u => obtain ⟨v, p', H', J', r, q⟩ := hsp; exact ⟨v, p', H', J'.ofTry ok, r, q⟩
    | next => obtain ⟨p', H', J', q⟩ := hsp; exact wpAny_execs_nil ⟨p', H', J'.ofTry ok, q⟩
    | brk => obtain ⟨p', H', J', q⟩ := hsp; exact ⟨p', H', J'.ofTry ok, q⟩
    | cont => obtain ⟨p', H', J', q⟩ := hsp; exact ⟨p', H', J'.ofTry ok, q⟩
end
end CB
/-! the program's errors: Malformed (no own __init__), Refused (with its reason) -/
namespace CB
open PySem PySem.Spec PyProof.Rows L2
structure CalX (P : Program) (w : World) (K : PySem.W.Frag) (mg : Str → Option Value) (base : Heap) (x : Str) (k : Nat) (ps : List Str) (sp : Sp) : Prop where
  ok : ∃ f fd, FnOk P w K mg base (L2.CX P w) k f fd ps sp ∧ mg x = some (.ref f) ∧ PySem.W.keepIn K (.ref f) = true ∧ Binds K fd ps []
section
variable {P : Program} {w : World} {K : PySem.W.Frag} {mg : Str → Option Value} {base : Heap}
theorem Dn.calX {x : Str} {st : Stmt} {N ps : List Str} {k : Nat} {sp : Sp} (D : Dn K mg x st ps) (S : FnScope N ps (defScope st)) (len : ∀ vs H Q E, sp vs H Q E → vs.length = ps.length)
    (hbody : ∀ (f : Addr) (cdv : Value) (A : Around) (outer : List Env) (s : Shared) (H : Hp) (vs : List V) (Q : VK) (E : XK), Room k (A.deeper (envOfC x (defScope st) s.heap.objs.size f cdv)) → sp vs H Q E →
      ∃ t, PSs (cxOf (L2.CX P w) P w K mg base N x (defScope st) f cdv A outer s H E) (defBody st) t ∧ t { nx := fun _ H' => Q .non H', rt := Q } (start N vs) H) : CalX P w K mg base x (k + 1) ps sp := by
  obtain ⟨f, fd, F, hm, hb⟩ := D.ok
  exact ⟨f, fd, F.okX S len fun cdv A outer s H vs Q E hr h => hbody f cdv A outer s H vs Q E hr h, hm, F.kp, hb⟩
end
section
variable {X : Cx} {k : Nat} {ps : List Str} {sp : Sp} {x : Str} {p pos : Pos} {e : Expr} {es : List Expr} {t : TA} {W : WX}
/-- a call that may raise, W what is wished of what it raises -/
theorem pe_calS (C : CalX X.prog X.w X.K X.mg X.base x k ps sp) (tk : Takes X W) (hr : Room k X.A) (hg : Gl X x) (ha : PA X (e :: es) t) (hdb : (x == ("__debug__" : Str)) = false := by decide)
    (he : starEach (e :: es) X.env = (false, eval e X.env) :: starEach es X.env := by rfl) (hpl : (backTo pos (starEach es X.env)).any (·.1) = false := by rfl) : PE X (.Call (.Name x p) (e :: es) [] pos) (tCallS sp (WE W) t) := by
  obtain ⟨f, fd, F, hm, hk, hb⟩ := C.ok
  exact pe_callS F hr hg hm hk hb (fun σ => passAt tk σ) ha hdb he hpl
end
abbrev veB : List Value := [.type "ValueError", .type "Exception", .type "BaseException", .type "object"]
structure ErrM (K : PySem.W.Frag) (mg : Str → Option Value) (C : Addr) : Prop where
  g : mg "Malformed" = some (.ref C)
  x : PySem.W.excIn K C veB "ValueError.__new__" = true
  k : PySem.W.keepIn K (.ref C) = true
  b : PySem.W.subIn K (.ref C) (.type "BaseException") = some true
  t : PySem.W.typeIn K (.ref C) = some (.type "type")
  mm : PySem.W.exmOne K (.ref C) (.ref C) = some true
structure ErrO (K : PySem.W.Frag) (mg : Str → Option Value) (C : Addr) : Prop where
  m : ErrM K mg C
structure ErrR (K : PySem.W.Frag) (mg : Str → Option Value) (M C f : Addr) : Prop where
  g : mg "Refused" = some (.ref C)
  ox : OexC K C
  i : PySem.W.findIn K (.ref C) "__init__" = some (some (.ref f))
  t : PySem.W.typeIn K (.ref f) = some (.type "function")
  n : PySem.W.findIn K (.ref C) "reason" = some none
  xf : XfC K C
  rm : PySem.W.exmOne K (.ref C) (.ref M) = some false
  rr : PySem.W.exmOne K (.ref C) (.ref C) = some true
/-- Refused.__init__(self, reason) -/
def spRI (K : PySem.W.Frag) : Sp := fun vs H Q _ => ∃ (a C : Addr) (v : V), vs = [.ref a, v] ∧ OexC K C ∧ PySem.W.findIn K (.ref C) "reason" = some none ∧ H a = some (exo a C none) ∧
  ∀ dx, H dx = none → dx ≠ a → Q .non (upd (upd H dx (exd dx [("reason", v)])) a (exo a C (some dx)))
structure ErrI (P : Program) (w : World) (K : PySem.W.Frag) (mg : Str → Option Value) (base : Heap) (M C : Addr) : Prop where
  m : ErrM K mg M
  r : ∃ f fd, ErrR K mg M C f ∧ FnOk P w K mg base CX0 1 f fd ["self", "reason"] (spRI K) ∧ Binds K fd ["self", "reason"] []
section
variable {P : Program} {w : World} {K : PySem.W.Frag} {mg : Str → Option Value} {base : Heap} {M C : Addr}
end
/-- raise Malformed('..') -/
theorem ps_mal {X : Cx} {W : WX} {M : Addr} {m : Str} {j : Nat} {p p2 pos pp : Pos} (E : ErrM X.K X.mg M) (hc : X.calm = true) (tk : Takes X W) (hg : Gl X "Malformed") : PS X (.Raise (some (.Call (.Name "Malformed" p) [.Constant (.str m) j p2] [] pos)) none pp) (fun _ σ H => W (.ref M) none σ H) :=
  ps_raise hc tk (pmk_own PySem.F.excBase_ValueError E.x E.g E.k (raises_own E.b E.t) hg)
/-- raise Refused('..') -/
theorem ps_ref {X : Cx} {W : WX} {M C : Addr} {m : Str} {j : Nat} {p p2 pos pp : Pos} (E : ErrI X.prog X.w X.K X.mg X.base M C) (hc : X.calm = true) (tk : Takes X W) (hr : Room 2 X.A) (hg : Gl X "Refused") (hs : starEach [Expr.Constant (.str m) j p2] X.env = (false, eval (Expr.Constant (.str m) j p2) X.env) :: starEach [] X.env := by rfl)
    (hpl : (backTo pos (starEach [] X.env)).any (·.1) = false := by rfl) :
    PS X (.Raise (some (.Call (.Name "Refused" p) [.Constant (.str m) j p2] [] pos)) none pp) (fun _ σ H => ∀ d H', Same H H' → H d = none → H' d = some (.xd [("reason", .str m)]) → W (.ref C) (some d) σ H') := by
  obtain ⟨f, fd, R, F, b⟩ := E.r
  refine ⟨fun pins s σ H D I h => ?_⟩
  refine (ps_raise hc tk (pmk_oex R.ox R.i R.t F hr b .nil pass0 hg R.g (pa_cons pe_str pa_nil hs) rfl hs hpl)).run pins s σ H D I ?_
  show ([V.str m].length ≤ 1000 ∧ _)
  refine ⟨by show 1 ≤ 1000; decide, fun a na => ⟨a, C, .str m, rfl, R.ox, R.n, upd_same, fun dx ndx ne => ⟨rfl, dx, [("reason", .str m)], upd_same, ?_, ?_, ?_⟩⟩⟩
  · rw [upd_ne ne, upd_same]
  · rw [upd_ne ne] at ndx
    exact ndx
  · rw [upd_ne ne] at ndx
    refine h dx _ (fun b o e => ?_) ndx upd_same
    have hbd : b ≠ dx := ne_of_none e ndx
    have hba : b ≠ a := ne_of_none e na
    rw [upd_ne hbd, del_ne hba, upd_ne hba, upd_ne hbd, upd_ne hba]
    exact e
end CB
namespace CB
open PySem PySem.Spec PyProof.Rows L2
theorem exm_b {K : PySem.W.Frag} {S C : Addr} {b : Bool} (h1 : PySem.W.subIn K (.ref C) (.type "BaseException") = some true) (h2 : PySem.W.isClsIn K C = true) (h3 : PySem.W.typeIn K (.ref C) = some (.type "type")) (h4 : PySem.W.subIn K (.ref S) (.ref C) = some b) :
    PySem.W.exmOne K (.ref S) (.ref C) = some b := by
  unfold PySem.W.exmOne
  rw [if_pos (by rw [h1] <;> rfl)]
  show (if ((PySem.W.clsIn K C).isSome && PySem.W.typeIn K (.ref C) == some (.type "type")) = true then PySem.W.subIn K (.ref S) (.ref C) else none) = some b
  have h5 : (PySem.W.clsIn K C).isSome = true := h2
  rw [h5, h3, if_pos (by rfl)]
  exact h4
theorem dn_mk {K : PySem.W.Frag} {h : Heap} {mg : Str → Option Value} {x : Str} {st : Stmt} {ps : List Str} {f : Addr} {oc : Value} {od an : Option Addr} {osl : Array (Option Value)} {kV doc pm cdv ct : Value} (X : K.In h) (G : h.Ns mainGlobals mg)
    (a : PySem.W.nsIn K mainGlobals x = some (some (.ref f))) (l : K.lookup f = some ⟨oc, od, .func (PySem.W.fnOf x x (defArgs st) (defBody st) (defScope st) .none kV doc pm an cdv ct), osl⟩) (c : PySem.W.codeIn K cdv x = true) (k : PySem.W.keepIn K (.ref f) = true)
    (hb : ∀ (kV doc pm : Value) (an : Option Addr) (cdv ct : Value) (us : List Value), us.length = ps.length → bindArgs (PySem.W.fnOf x x (defArgs st) (defBody st) (defScope st) .none kV doc pm an cdv ct) ⟨us, []⟩ = pure (ps.zip us)) : Dn K mg x st ps :=
  ⟨f, _, fun_mk l c k, PySem.W.mg_of X G a, (fun_mk l c k).binds hb⟩
end CB
/-! sorted of a list of pairs of pairs of ints -/
namespace CB
open PySem PySem.Spec PyProof.Rows Srt SrtO L2
abbrev M4 := (Int × Int) × (Int × Int)
def dM (m : M4) : PyData := .tuple [.tuple [.int m.1.1, .int m.1.2], .tuple [.int m.2.1, .int m.2.2]]
def lexM (p q : M4) : Bool := if p.1 = q.1 then lexB p.2 q.2 else lexB p.1 q.1
theorem alike_M (p q : M4) : PySem.W.alike (dM p) (dM q) = true := by
  simp [dM, PySem.W.alike, PySem.W.alikeAll]
theorem eqv_pp (a b c d : Int) : PyData.eqv (.tuple [.int a, .int b]) (.tuple [.int c, .int d]) = decide ((a, b) = (c, d)) := by
  have e : PyData.eqv (.tuple [.int a, .int b]) (.tuple [.int c, .int d]) = ((a == c) && ((b == d) && true)) := rfl
  rw [e]
  by_cases h1 : a = c
  · by_cases h2 : b = d
    · simp [h1, h2]
    · simp [h2]
  · simp [h1]
theorem lt_pp (p q : Int × Int) : PySem.W.dataLt (.tuple [.int p.1, .int p.2]) (.tuple [.int q.1, .int q.2]) = lexB p q := by
  rw [PySem.W.dataLt_ii]
  have h := @lexB_iff p q
  cases hb : lexB p q with
  | true => exact decide_eq_true (h.mp hb)
  | false => exact decide_eq_false fun z => by rw [h.mpr z] at hb; cases hb
theorem lt_M (p q : M4) : PySem.W.dataLt (dM p) (dM q) = lexM p q := by
  unfold dM lexM
  rw [PySem.W.dataLt_pair (by simp [PySem.W.alike, PySem.W.alikeAll]) (by simp [PySem.W.alike, PySem.W.alikeAll]), eqv_pp, eqv_pp, lt_pp, lt_pp]
  by_cases h1 : p.1 = q.1
  · rw [if_pos (decide_eq_true h1), if_pos h1]
    by_cases h2 : p.2 = q.2
    · rw [if_pos (decide_eq_true h2), h2]
      symm
      cases hb : lexB q.2 q.2 with
      | false => rfl
      | true =>
        have := lexB_iff.mp hb
        omega
    · rw [if_neg (fun z => h2 (of_decide_eq_true z))]
  · rw [if_neg (fun z => h1 (of_decide_eq_true z)), if_neg h1]
theorem lexM_iff {p q : M4} : lexM p q = true ↔ (p.1.1 < q.1.1 ∨ (p.1.1 = q.1.1 ∧ (p.1.2 < q.1.2 ∨ (p.1.2 = q.1.2 ∧ (p.2.1 < q.2.1 ∨ (p.2.1 = q.2.1 ∧ p.2.2 < q.2.2)))))) := by
  obtain ⟨⟨a, b⟩, ⟨c, d⟩⟩ := p
  obtain ⟨⟨a', b'⟩, ⟨c', d'⟩⟩ := q
  unfold lexM
  by_cases e : (a, b) = (a', b')
  · rw [if_pos e, lexB_iff]
    have e1 : a = a' := congrArg Prod.fst e
    have e2 : b = b' := congrArg Prod.snd e
    simp only
    omega
  · rw [if_neg e, lexB_iff]
    have : ¬ (a = a' ∧ b = b') := fun z => e (by rw [z.1, z.2])
    simp only
    omega
theorem lexM_no {p q : M4} : lexM p q = false ↔ ¬ (p.1.1 < q.1.1 ∨ (p.1.1 = q.1.1 ∧ (p.1.2 < q.1.2 ∨ (p.1.2 = q.1.2 ∧ (p.2.1 < q.2.1 ∨ (p.2.1 = q.2.1 ∧ p.2.2 < q.2.2)))))) := by
  rw [← lexM_iff]
  cases lexM p q <;> simp
theorem lexM_eq {p q : M4} (h1 : lexM p q = false) (h2 : lexM q p = false) : p = q := by
  have a := lexM_no.mp h1
  have b := lexM_no.mp h2
  obtain ⟨⟨p1, p2⟩, ⟨p3, p4⟩⟩ := p
  obtain ⟨⟨q1, q2⟩, ⟨q3, q4⟩⟩ := q
  simp only at a b
  have e1 : p1 = q1 := by omega
  have e2 : p2 = q2 := by omega
  have e3 : p3 = q3 := by omega
  have e4 : p4 = q4 := by omega
  rw [e1, e2, e3, e4]
theorem srtM_uniq {l m : List M4} (h1 : l.Pairwise (fun p q => lexM q p = false)) (h2 : m.Pairwise (fun p q => lexM q p = false)) (h : l.Perm m) : l = m :=
  List.Perm.eq_of_pairwise (le := fun p q => lexM q p = false) (fun a b _ _ x y => lexM_eq y x) h1 h2 h
/-- x is, in H, the tuple m of tuples -/
def IsM (H : Hp) (x : V) (m : M4) : Prop := ∃ r r1 r2, x = V.ref r ∧ H r = some (.tup [.ref r1, .ref r2]) ∧ H r1 = some (.tup [.int m.1.1, .int m.1.2]) ∧ H r2 = some (.tup [.int m.2.1, .int m.2.2])
theorem IsM.fn {H : Hp} {x : V} {m m' : M4} (h : IsM H x m) (h' : IsM H x m') : m = m' := by
  obtain ⟨r, r1, r2, rfl, e, e1, e2⟩ := h
  obtain ⟨_, _, _, q, f, f1, f2⟩ := h'
  cases q
  rw [e] at f
  cases f
  rw [e1] at f1
  rw [e2] at f2
  obtain ⟨⟨a, b⟩, ⟨c, d⟩⟩ := m
  obtain ⟨⟨a', b'⟩, ⟨c', d'⟩⟩ := m'
  simp only [Option.some.injEq, HO.tup.injEq, List.cons.injEq, V.int.injEq, and_true] at f1 f2
  rw [f1.1, f1.2, f2.1, f2.2]
theorem IsM.same {H H' : Hp} {x : V} {m : M4} (s : Same H H') (h : IsM H x m) : IsM H' x m := by
  obtain ⟨r, r1, r2, q, e, e1, e2⟩ := h
  exact ⟨r, r1, r2, q, s _ _ e, s _ _ e1, s _ _ e2⟩
open Classical in
noncomputable def kM (H : Hp) (x : V) : M4 := if h : ∃ m, IsM H x m then h.choose else ((0, 0), (0, 0))
theorem IsM.k {H : Hp} {x : V} {m : M4} (h : IsM H x m) : kM H x = m := by
  unfold kM
  rw [dif_pos ⟨m, h⟩]
  exact (Exists.choose_spec (⟨m, h⟩ : ∃ m, IsM H x m)).fn h
/-- the list of such tuples at the xs -/
def Mats (H : Hp) (xs : List V) (ms : List M4) : Prop := (∀ x ∈ xs, IsM H x (kM H x)) ∧ ms = xs.map (kM H)
theorem Mats.same {H H' : Hp} {xs : List V} {ms : List M4} (s : Same H H') (h : Mats H xs ms) : Mats H' xs ms := by
  obtain ⟨h1, rfl⟩ := h
  have e : ∀ x ∈ xs, kM H' x = kM H x := fun x m => ((h1 x m).same s).k
  exact ⟨fun x m => by rw [e x m]; exact (h1 x m).same s, List.map_congr_left fun x m => (e x m).symm⟩
theorem Mats.keep {H H' : Hp} {xs : List V} {ms : List M4} (s : ∀ r us, H r = some (.tup us) → H' r = some (.tup us)) (h : Mats H xs ms) : Mats H' xs ms := by
  obtain ⟨h1, rfl⟩ := h
  have g : ∀ x ∈ xs, IsM H' x (kM H x) := fun x m => by
    obtain ⟨r, r1, r2, q, e, e1, e2⟩ := h1 x m
    exact ⟨r, r1, r2, q, s _ _ e, s _ _ e1, s _ _ e2⟩
  exact ⟨fun x m => by rw [(g x m).k]; exact g x m, List.map_congr_left fun x m => ((g x m).k).symm⟩
theorem Mats.updL {H : Hp} {f : Addr} {l : List V} {o : HO} {xs : List V} {ms : List M4} (h : Mats H xs ms) (e : H f = some (.lst l)) : Mats (upd H f o) xs ms :=
  h.keep fun r us q => by rw [upd_ne (ne_of q e (by intro z; cases z))]; exact q
theorem Mats.updN {H : Hp} {f : Addr} {o : HO} {xs : List V} {ms : List M4} (h : Mats H xs ms) (e : H f = none) : Mats (upd H f o) xs ms := h.same (same_upd e)
theorem Mats.nil {H : Hp} : Mats H [] [] := ⟨fun x m => by simp at m, rfl⟩
theorem Mats.snoc {H : Hp} {xs : List V} {ms : List M4} {x : V} {m : M4} (h : Mats H xs ms) (e : IsM H x m) : Mats H (xs ++ [x]) (ms ++ [m]) := by
  obtain ⟨h1, rfl⟩ := h
  refine ⟨fun y hy => ?_, ?_⟩
  · rcases List.mem_append.mp hy with hy | hy
    · exact h1 y hy
    · rw [List.mem_singleton.mp hy, e.k]
      exact e
  · rw [List.map_append, List.map_singleton, e.k]
theorem Mats.get {H : Hp} {xs : List V} {ms : List M4} {i : Nat} {x : V} (h : Mats H xs ms) (e : xs[i]? = some x) : ∃ m, IsM H x m ∧ ms[i]? = some m := by
  obtain ⟨h1, rfl⟩ := h
  exact ⟨_, h1 x (List.mem_of_getElem? e), by rw [List.getElem?_map, e]; rfl⟩
theorem Mats.len {H : Hp} {xs : List V} {ms : List M4} (h : Mats H xs ms) : ms.length = xs.length := by
  rw [h.2, List.length_map]
theorem dp_M {K : PySem.W.Frag} {H : Hp} {x : V} {m : M4} (h : IsM H x m) : Dp K H x (dM m) := by
  obtain ⟨r, r1, r2, rfl, e, e1, e2⟩ := h
  exact .tup (SqT.of e) (.cons (.tup (SqT.of e1) (.cons (.int _) (.cons (.int _) .nil))) (.cons (.tup (SqT.of e2) (.cons (.int _) (.cons (.int _) .nil))) .nil))
theorem dp_Ms {K : PySem.W.Frag} {H : Hp} : ∀ {xs : List V} {ms : List M4}, Mats H xs ms → DpAll K H xs (ms.map dM) := fun {xs ms} h => by
  obtain ⟨h1, rfl⟩ := h
  induction xs with
  | nil => exact .nil
  | cons x xs ih => exact .cons (dp_M (h1 x List.mem_cons_self)) (ih fun y m => h1 y (List.mem_cons_of_mem _ m))
theorem lay_M : ∀ ms : List M4, PyData.canLayAll0 (ms.map dM) = true
  | [] => rfl
  | m :: ms => by
    show (PyData.canLay0 (dM m) && PyData.canLayAll0 (ms.map dM)) = true
    rw [lay_M ms]
    rfl
theorem depth_M : ∀ ms : List M4, PyData.depthAll (ms.map dM) ≤ 3
  | [] => by decide
  | m :: ms => by
    have := depth_M ms
    show max (PyData.depth (dM m)) (PyData.depthAll (ms.map dM)) ≤ 3
    have e : PyData.depth (dM m) = 2 := rfl
    omega
theorem shaped_M (ms : List M4) : SeqAt.shaped (.tuple (ms.map dM)) = true := by
  unfold SeqAt.shaped
  have a : PyData.canLay0 (.tuple (ms.map dM)) = true := lay_M ms
  have b : PyData.depth (.tuple (ms.map dM)) ≤ 64 := by
    have := depth_M ms
    show PyData.depthAll (ms.map dM) + 1 ≤ 64
    omega
  rw [a, decide_eq_true b]
  rfl
/-- sorted(xs), xs a list of pairs of pairs -/
def rSortedM (K : PySem.W.Frag) : List V → Hp → VK → Prop := fun vs H Q => ∃ (a : Addr) (xs : List V) (ms : List M4), vs = [V.ref a] ∧ SqL K H a xs ∧ Mats H xs ms ∧
  ∀ ys us p, Mats H ys us → us.Pairwise (fun p q => lexM q p = false) → us.Perm ms → H p = none → Q (.ref p) (upd H p (.lst ys))
theorem rd_sortedM {K : PySem.W.Frag} {vs : List V} {H : Hp} {Q : VK} : rSortedM K vs H Q = ∃ (a : Addr) (xs : List V) (ms : List M4), vs = [V.ref a] ∧ SqL K H a xs ∧ Mats H xs ms ∧
  ∀ ys us p, Mats H ys us → us.Pairwise (fun p q => lexM q p = false) → us.Perm ms → H p = none → Q (.ref p) (upd H p (.lst ys)) := rfl
section
variable {X : Cx}
theorem each_vals : ∀ {vs : List Value} {xs : List V}, Vals xs vs → PySem.W.EachIs (fun v x => RelV x v) vs xs
  | _, _, .nil => .nil
  | _, _, .cons r h => .cons r (each_vals h)
theorem vals_each : ∀ {vs : List Value} {xs : List V}, PySem.W.EachIs (fun v x => RelV x v) vs xs → Vals xs vs
  | _, _, .nil => .nil
  | _, _, .cons r h => .cons r (vals_each h)
theorem cr_sortedM (hu : X.A.units + 64 < cLine) : CallR X (.builtin "sorted") (rSortedM X.K) := by
  intro pins s σ H vs us Q I r h
  obtain ⟨a, xs, ms, rfl, hs, ⟨hx, rfl⟩, q⟩ := h
  obtain ⟨its, rv, hl, hz⟩ := I.list hs
  obtain ⟨u, rfl, ru⟩ := vals1 r
  obtain rfl : u = Value.ref a := ru
  have hlen := rv.length
  have e0 : PySem.W.EachIs (fun v x => RelV x v) its xs := each_vals rv
  have mem : PySem.W.EachIs (fun v (x : V) => ∃ as, Reads s.heap v (dM (kM H x)) as) its xs := by
    refine PySem.W.EachIs.of_zip (by omega) fun p hp => ?_
    exact Dp.reads I _ _ _ (dp_M (hx p.2 (List.of_mem_zip hp).2)) (e0.zip p hp)
  refine PySem.W.sorted_data (s := s) (β := V) (R := fun v x => RelV x v) (enc := fun x => dM (kM H x)) hl.isList e0 mem (PySem.W.AllAlike.of fun b b' => alike_M _ _) (PySem.W.Sortable.tuples fun b => ⟨_, _, rfl⟩) (by omega) (fun b _ => ?_) fun out ho eo => ?_
  · have : PyData.depth (dM (kM H b)) = 2 := rfl
    omega
  · have ep : (fun b b' : V => PySem.W.dataLe false (fun x => dM (kM H x)) b b') = fun b b' => !lexM (kM H b') (kM H b) := by
      rw [PySem.W.dataLe_eq]
      funext b b'
      show (!PySem.W.dataLt (dM (kM H b')) (dM (kM H b))) = _
      rw [lt_M]
    have hp : (xs.mergeSort (PySem.W.dataLe false (fun x => dM (kM H x)))).Perm xs := List.mergeSort_perm xs _
    have hT : ∀ x ∈ xs.mergeSort (PySem.W.dataLe false (fun x => dM (kM H x))), IsM H x (kM H x) := fun x m => hx x (hp.mem_iff.mp m)
    have hS : ((xs.mergeSort (PySem.W.dataLe false (fun x => dM (kM H x)))).map (kM H)).Pairwise (fun p q => lexM q p = false) := by
      rw [List.pairwise_map]
      have := List.pairwise_mergeSort (le := fun b b' : V => !lexM (kM H b') (kM H b)) (fun x y z h1 h2 => ?_) (fun x y => ?_) xs
      · rw [show PySem.W.dataLe false (fun x => dM (kM H x)) = fun b b' => !lexM (kM H b') (kM H b) from ep]
        exact this.imp fun h => by simpa using h
      · have a1 := lexM_no.mp (by simpa using h1 : lexM (kM H y) (kM H x) = false)
        have a2 := lexM_no.mp (by simpa using h2 : lexM (kM H z) (kM H y) = false)
        have : lexM (kM H z) (kM H x) = false := lexM_no.mpr (by omega)
        simp [this]
      · by_cases c : lexM (kM H y) (kM H x) = true
        · have a1 := lexM_iff.mp c
          have : lexM (kM H x) (kM H y) = false := lexM_no.mpr (by omega)
          simp [this]
        · simp [Bool.not_eq_true _ |>.mp c]
    obtain ⟨n, hn⟩ := sortedAll_at s.heap its (List.toArray out)
    refine ⟨.ref (s.heap.objs.size + 1), upd H (s.heap.objs.size + 1) (.lst (xs.mergeSort (PySem.W.dataLe false (fun x => dM (kM H x))))), I.laid (t' := s.toks) (fun b o e => sortedAll_old e) (Nat.le_succ _) ⟨?_, out, n, vals_each eo, hn⟩, rfl, q _ _ _ ⟨hT, rfl⟩ hS (hp.map (kM H)) (I.hok.fresh (Nat.le_succ _))⟩
    rw [hp.length_eq]
    omega
end
end CB
/-! a call of what an expression tells, one of several defs -/
namespace CB
open PySem PySem.Spec PyProof.Rows L2
structure HeldE (P : Program) (w : World) (K : PySem.W.Frag) (mg : Str → Option Value) (base : Heap) (kk : Nat) (f : Addr) (sp : Sp) : Prop where
  ex : ∃ (k : Nat) (fd : FuncData) (ps : List Str), k ≤ kk ∧ FnOk P w K mg base (L2.CX P w) k f fd ps sp ∧ PySem.W.keepIn K (.ref f) = true ∧ Binds K fd ps []
def tCallE (S : Addr → Sp → Prop) (E : L2.St → XK) (tf : TE) (t : TA) : TE := fun σ H Q => tf σ H fun y H1 => ∃ f sp, y = V.ref f ∧ S f sp ∧ t σ H1 fun vs H2 => sp vs H2 Q (E σ)
section
variable {X : Cx} {S : Addr → Sp → Prop} {kk : Nat} {p pos : Pos} {fe e : Expr} {es : List Expr} {tf : TE} {t : TA} {W : WX}
theorem pe_callE (A : ∀ f sp, S f sp → HeldE X.prog X.w X.K X.mg X.base kk f sp) (tk : Takes X W) (hr : Room kk X.A) (hf : PE X fe tf) (ha : PA X (e :: es) t)
    (ht : eval (.Call fe (e :: es) [] pos) X.env = (do callWith pos (← eval fe X.env) [] (backTo pos (starEach (e :: es) X.env)) (backToKw pos (keywordEach [] X.env))) := by rfl)
    (he : starEach (e :: es) X.env = (false, eval e X.env) :: starEach es X.env := by rfl) (hpl : (backTo pos (starEach es X.env)).any (·.1) = false := by rfl) : PE X (.Call fe (e :: es) [] pos) (tCallE S (WE W) tf t) := by
  refine ⟨fun pins s σ H Q I h => ?_⟩
  refine Call_ (thn (hf.run pins s σ H _ I h) fun u s1 ⟨y, H1, I1, ry, f, sp, ey, hS, q⟩ => ?_) ht
  subst ey
  obtain rfl : u = Value.ref f := ry
  obtain ⟨k, fd, ps, hk, F, hkeep, hb⟩ := (A f sp hS).ex
  refine PySem.W.callWith_K (h₀ := X.base) I1.ok.mod.kin hkeep (thn (ha.run pos pins s1 σ H1 _ I1 q) fun us s2 ⟨vs, H2, I2, r, q2⟩ => ⟨I2.kIn, ?_⟩) he hpl
  exact run_fnS F (hr.mono hk) hb (passAt tk σ) I2 r q2
end
theorem rd_callE {S : Addr → Sp → Prop} {E : L2.St → XK} {tf : TE} {t : TA} {σ : L2.St} {H : Hp} {Q : VK} : tCallE S E tf t σ H Q = tf σ H fun y H1 => ∃ f sp, y = V.ref f ∧ S f sp ∧ t σ H1 fun vs H2 => sp vs H2 Q (E σ) := rfl
theorem CalX.held {P : Program} {w : World} {K : PySem.W.Frag} {mg : Str → Option Value} {base : Heap} {x : Str} {k kk : Nat} {ps : List Str} {sp : Sp} (C : CalX P w K mg base x k ps sp) (h : k ≤ kk) : ∃ f, mg x = some (.ref f) ∧ HeldE P w K mg base kk f sp := by
  obtain ⟨f, fd, F, hm, hk, hb⟩ := C.ok
  exact ⟨f, hm, ⟨k, fd, ps, h, F, hk, hb⟩⟩
end CB
/-! dicts with int keys, list.pop: readings unfolded -/
namespace CB
open PySem PySem.Spec PyProof.Rows L2
section
variable {K : PySem.W.Frag} {σ : L2.St} {H : Hp} {Q : VK} {td ty tx tv to : TE} {D : Ends}
theorem rd_pop : tBM0 K "list" rPop to σ H Q = to σ H fun x H1 => tyV K "list" x H1 ∧ ∃ l xs y, x = .ref l ∧ H1 l = some (.lst xs) ∧ xs[xs.length - 1]? = some y ∧ Q y (upd H1 l (.lst xs.dropLast)) := by
  show (to σ H fun x H1 => tyV K "list" x H1 ∧ ∃ l xs y, x = V.ref l ∧ ([] : List V) = [] ∧ _) = _
  congr 1
  funext x H1
  simp
theorem rd_dnew : tDNewK σ H Q = ∀ p, H p = none → Q (.ref p) (upd H p (.dK [])) := rfl
theorem rd_dget : tDGet td ty σ H Q = td σ H fun x H1 => ty σ H1 fun y H2 => ∃ a v, x = .ref a ∧ DGet H2 a y (some v) ∧ Q v H2 := rfl
theorem rd_dget2 : tDGet2 td ty tx σ H Q = td σ H fun x H1 => ∃ a, x = .ref a ∧ IsD H1 a ∧ ty σ H1 fun y H2 => tx σ H2 fun z H3 => ∃ o, DGet H3 a y o ∧ Q (o.getD z) H3 := rfl
theorem rd_dput : sDPut td ty tv D σ H = tv σ H fun v H1 => td σ H1 fun x H2 => ty σ H2 fun y H3 => ∃ a H4, x = .ref a ∧ DPut H3 a y v H4 ∧ D.nx σ H4 := rfl
end
/-- a dict of ints by a list of pairs -/
def dI (l : List (Nat × Nat)) : List (Key × V) := l.map fun q => (Sum.inl (q.1 : Int), V.int (q.2 : Int))
def getC (l : List (Nat × Nat)) (p : Nat) : Option Nat := (l.find? fun q => decide (q.1 = p)).map (·.2)
theorem val_dI (l : List (Nat × Nat)) (p : Nat) : valV (dI l) (Sum.inl (p : Int)) = (getC l p).map fun c : Nat => V.int (c : Int) := by
  unfold valV dI getC
  induction l with
  | nil => rfl
  | cons q l ih =>
    rw [List.map_cons, List.find?_cons, List.find?_cons]
    have e : decide ((Sum.inl (q.1 : Int) : Key) = Sum.inl (p : Int)) = decide (q.1 = p) := by
      by_cases c : q.1 = p
      · rw [decide_eq_true c, decide_eq_true (by rw [c])]
      · rw [decide_eq_false c, decide_eq_false (fun z => c (by have := Sum.inl.inj z; omega))]
    show Option.map _ (match decide ((Sum.inl (q.1 : Int) : Key) = Sum.inl (p : Int)) with | true => _ | false => _) = _
    rw [e]
    cases decide (q.1 = p) with
    | true => rfl
    | false => exact ih
/-- one more of p -/
def bumpC (l : List (Nat × Nat)) (p c : Nat) : List (Nat × Nat) := if (l.any fun q => decide (q.1 = p)) = true then l.map (fun q => if q.1 = p then (q.1, c) else q) else l ++ [(p, c)]
theorem put_dI (l : List (Nat × Nat)) (p c : Nat) : putK (dI l) (Sum.inl (p : Int)) (V.int (c : Int)) = dI (bumpC l p c) := by
  have e : ∀ n : Nat, decide ((Sum.inl (n : Int) : Key) = Sum.inl (p : Int)) = decide (n = p) := fun n => by
    by_cases c : n = p
    · rw [decide_eq_true c, decide_eq_true (by rw [c])]
    · rw [decide_eq_false c, decide_eq_false (fun z => c (by have := Sum.inl.inj z; omega))]
  have ea : (dI l).any (fun kv => decide (kv.1 = (Sum.inl (p : Int) : Key))) = l.any fun q => decide (q.1 = p) := by
    unfold dI
    rw [List.any_map]
    congr 1
    funext q
    exact e q.1
  unfold putK bumpC
  rw [ea]
  by_cases h : (l.any fun q => decide (q.1 = p)) = true
  · rw [if_pos h, if_pos h]
    unfold dI
    rw [List.map_map, List.map_map]
    refine List.map_congr_left fun q _ => ?_
    show (if (Sum.inl (q.1 : Int) : Key) = Sum.inl (p : Int) then _ else _) = _
    by_cases c : q.1 = p
    · rw [if_pos (by rw [c])]
      show _ = (fun q : Nat × Nat => ((Sum.inl (q.1 : Int) : Key), V.int (q.2 : Int))) (if q.1 = p then _ else _)
      rw [if_pos c]
    · rw [if_neg (fun z => c (by have := Sum.inl.inj z; omega))]
      show _ = (fun q : Nat × Nat => ((Sum.inl (q.1 : Int) : Key), V.int (q.2 : Int))) (if q.1 = p then _ else _)
      rw [if_neg c]
  · rw [if_neg h, if_neg h]
    unfold dI
    rw [List.map_append]
    rfl
theorem dget_I {H : Hp} {a : Addr} {l : List (Nat × Nat)} {p : Nat} (e : H a = some (.dK (dI l))) : DGet H a (.int (p : Int)) ((getC l p).map fun c : Nat => V.int (c : Int)) := by
  have := DGet.k (k := Sum.inl (p : Int)) e
  rw [val_dI] at this
  exact this
theorem dput_I {H : Hp} {a : Addr} {l : List (Nat × Nat)} {p c : Nat} (e : H a = some (.dK (dI l))) (hl : l.length < sizeLine) : DPut H a (.int (p : Int)) (.int (c : Int)) (upd H a (.dK (dI (bumpC l p c)))) := by
  have := DPut.k (k := Sum.inl (p : Int)) (v := .int (c : Int)) e (by unfold dI; rw [List.length_map]; exact hl)
  rw [put_dI] at this
  exact this
end CB
/-! any of ints; enumerate of a tuple; a tuple times an int, few times -/
namespace CB
open PySem PySem.Spec PyProof.Rows L2
/-! ### any(ints), a list or a tuple -/
theorem vals_int : ∀ {ns : List Int} {us : List Value}, Vals (ns.map V.int) us → ∃ ts : List Tok, ts.length = ns.length ∧ us = List.zipWith Value.int ns ts
  | [], us, h => by
    rw [List.map_nil] at h
    cases h
    exact ⟨[], rfl, rfl⟩
  | n :: ns, us, h => by
    rw [List.map_cons] at h
    cases h with
    | cons r t =>
      obtain ⟨tk, rfl⟩ := r
      obtain ⟨ts, hl, rfl⟩ := vals_int t
      exact ⟨tk :: ts, by rw [List.length_cons, List.length_cons, hl], rfl⟩
theorem truth_ints {prog : Program} {w : World} {A : Around} {ns : List Int} {us : List Value} (h : Vals (ns.map V.int) us) :
    TruthOf prog w A (fun i v => us.toArray[i]? = some v) (fun i => ns.getD i 0 != 0) := by
  intro i v s Q E hv hq
  obtain ⟨ts, hl, rfl⟩ := vals_int h
  have hv : (List.zipWith Value.int ns ts)[i]? = some v := by simpa using hv
  rw [List.getElem?_zipWith] at hv
  cases hn : ns[i]? with
  | none => rw [hn] at hv; cases ht : ts[i]? <;> rw [ht] at hv <;> cases hv
  | some n =>
    cases ht : ts[i]? with
    | none => rw [hn, ht] at hv; cases hv
    | some t =>
      rw [hn, ht] at hv
      cases hv
      have e : ns.getD i 0 = n := by rw [List.getD_eq_getElem?_getD, hn]; rfl
      have hq : Q (ns.getD i 0 != 0) s := hq
      rw [e] at hq
      exact PySem.P.truthy_int hq
theorem any_ints : ∀ ns : List Int, (List.range ns.length).any (fun i => ns.getD i 0 != 0) = ns.any (· != 0)
  | [] => rfl
  | n :: ns => by
    rw [List.length_cons, List.range_succ_eq_map, List.any_cons, List.any_map, List.any_cons, ← any_ints ns]
    all_goals rfl
section
variable {X : Cx}
def rAnyI (K : PySem.W.Frag) : List V → Hp → VK → Prop := fun vs H Q => ∃ (a : Addr) (ns : List Int), vs = [V.ref a] ∧ (SqL K H a (ns.map V.int) ∨ SqT K H a (ns.map V.int)) ∧ Q (.bl (ns.any (· != 0))) H
theorem iter_tupA {prog : Program} {w : World} {A : Around} {E : Value → Shared → Prop} {s : Shared} {l : Addr} {items : Array Value} {Q : Value → Shared → Prop} (ht : s.heap.IsTuple l items)
    (h : ∀ s2 : Shared, s2 = { s with heap := s.heap.push { cls := .type "tuple_iterator", data := .fields #[.ref l, .int 0 0] } } → (s2.heap.IsTupleIter s.heap.objs.size l 0 ∧ s2.heap.IsTuple l items) → l ≠ s.heap.objs.size → Q (.ref s.heap.objs.size) s2) : wpAny (model prog w) A (pyIter (.ref l)) Q E s := by
  have lt : l < s.heap.objs.size := by
    obtain ⟨_, e, _⟩ := ht
    exact Heap.lt_size e
  exact wpAny_pyIter_tuple ht (h _ rfl ⟨⟨_, Heap.get?_push_size _ rfl, rfl, rfl⟩, ht.at fun o e => Heap.get?_push_of_some _ e⟩ (Nat.ne_of_lt lt))
theorem cr_anyI (hc : X.calm = true) : CallR X (.builtin "any") (rAnyI X.K) := by
  intro pins s σ H vs us Q I r h
  obtain ⟨a, ns, rfl, hs, q⟩ := h
  rw [Vals.ref1 r]
  have fin : ∀ {us : List Value} {h' : Heap} {tk : Nat} {o : Obj}, Vals (ns.map V.int) us → (∀ b ob, b ∉ [s.heap.objs.size] → (s.heap.push o).get? b = some ob → h'.get? b = some ob) →
      (∃ x H', Inv X pins σ H' { s with heap := h', toks := tk } ∧ RelV x (Value.bool ((List.range us.toArray.size).any fun i => ns.getD i 0 != 0)) ∧ Q x H') := fun {us h' tk o} rv hk => by
    refine ⟨.bl _, H, I.kept fun b ob eo => hk b ob (fun hm => ?_) (Heap.get?_push_of_some _ eo), ?_, q⟩
    · have hm := List.mem_singleton.mp hm
      subst hm
      exact absurd (Heap.lt_size eo) (Nat.lt_irrefl _)
    · have e : us.toArray.size = ns.length := by
        rw [List.size_toArray, ← rv.length, List.length_map]
      rw [e, any_ints]
      rfl
  rcases hs with hs | hs
  · obtain ⟨its, rv, hl, _⟩ := I.list hs
    refine call_any_walk (iter_any hl.isList fun s2 e2 st hne => ?_)
    subst e2
    exact ⟨_, _, _, _, _, _, _, rfl, Walks.list (A := X.A.in1) (I.ok.hd hc) _ a hne its.toArray, st, truth_ints rv, fun h' tk hk => fin rv hk⟩
  · obtain ⟨its, rv, hl, _⟩ := I.tuple hs
    refine call_any_walk (iter_tupA (show s.heap.IsTuple a its.toArray from hl) fun s2 e2 st hne => ?_)
    subst e2
    exact ⟨_, _, _, _, _, _, _, rfl, Walks.tuple (A := X.A.in1) (I.ok.hd hc) _ a hne its.toArray, st, truth_ints rv, fun h' tk hk => fin rv hk⟩
theorem rd_anyI {K : PySem.W.Frag} {vs : List V} {H : Hp} {Q : VK} : rAnyI K vs H Q = ∃ (a : Addr) (ns : List Int), vs = [V.ref a] ∧ (SqL K H a (ns.map V.int) ∨ SqT K H a (ns.map V.int)) ∧ Q (.bl (ns.any (· != 0))) H := rfl
end
/-! ### enumerate(t), t a tuple -/
theorem meets_enum1 {v : Value} {o : Obj} {Hh : Heap → Prop} (Bg : Begins v o Hh) : Meets (Builtin.«enumerate.__new__» ⟨[.type "enumerate", v], []⟩)
    (fun _ R s => Hh s.heap ∧ R (.ok (.ret (.ref (s.heap.push o).objs.size))) { s with heap := (s.heap.push o).push { cls := .type "enumerate", data := .fields #[.none, .bool false, .ref s.heap.objs.size, rawInt 0, .none, .none] } }) :=
  .of_wp fun prog w A R s h => by
    obtain ⟨hp, g, d, tk, os⟩ := s
    obtain ⟨hv, h⟩ := h
    have sube := sub_enumerate
    have go : ∀ {A1 : Around} {E1 : Value → Shared → Prop} {Q1 : Value → Shared → Prop}, Q1 (.ref hp.objs.size) ⟨hp.push o, g, d, tk, os⟩ → wpAny (model prog w) A1 (pyIter v) Q1 E1 ⟨hp, g, d, tk, os⟩ := fun q => Bg.iter prog w _ _ ⟨hp, g, d, tk, os⟩ _ hv q
    wp_walk using go
    refine wpAny_stack_any fun st => wpAny_pure ?_
    split
    · rename_i cl _ _ _ _ _
      cases (cl == Value.type "enumerate") <;> (wp_walk using go; exact ⟨_, rfl, h⟩)
    · wp_walk using go
      exact ⟨_, rfl, h⟩
section
variable {prog : Program} {w : World} {A : Around} {E : Value → Shared → Prop} {s : Shared}
theorem enum1_at {v : Value} {o : Obj} {Hh : Heap → Prop} {Q : Value → Shared → Prop} (Bg : Begins v o Hh) (hv : Hh s.heap)
    (h : ∀ h1, IsEnum h1 (s.heap.objs.size + 1) s.heap.objs.size 0 .none → h1.get? s.heap.objs.size = some o → (∀ b ob, s.heap.get? b = some ob → h1.get? b = some ob) → Q (.ref (s.heap.objs.size + 1)) { s with heap := h1 }) :
    wpAny (model prog w) A (call (.type "enumerate") [v]) Q E s := by
  have sz : (s.heap.push o).objs.size = s.heap.objs.size + 1 := Heap.size_push ..
  have en : IsEnum ((s.heap.push o).push { cls := .type "enumerate", data := .fields #[.none, .bool false, .ref s.heap.objs.size, rawInt 0, .none, .none] }) (s.heap.objs.size + 1) s.heap.objs.size 0 .none := by
    have z := Heap.get?_push_size (s.heap.push o) (o := { cls := .type "enumerate", data := .fields #[.none, .bool false, .ref s.heap.objs.size, rawInt 0, .none, .none] }) rfl
    rw [sz] at z
    exact z
  refine callType_new F.called_enumerate (by decide) (F.typeCall_enumerate_1 _) (F.newCall_enumerate_1 _) (fun ob => F.args_object_init_2 ob _) F.entry_enumerate_new (meets_enum1 Bg) ⟨hv, ?_⟩
  show _ ∧ _
  rw [sz]
  exact ⟨⟨_, en, rfl⟩, h _ en (Heap.get?_push_of_some _ (Heap.get?_push_size _ Bg.free)) fun b ob x => Heap.get?_push_of_some _ (Heap.get?_push_of_some _ x)⟩
end
def IteT (K : PySem.W.Frag) (a : Addr) : It :=
  ⟨fun i H => ∃ (xs : List V) (x : V), SqT K H a xs ∧ xs[i]? = some x, fun i H v H1 => ∃ T x, v = .ref T ∧ H T = none ∧ H1 = upd H T (.tup [.int (i : Nat), x]) ∧ ∀ xs, SqT K H a xs → xs[i]? = some x, fun i H => ∃ xs : List V, SqT K H a xs ∧ xs.length = i⟩
theorem turn_enumT {P : Program} {w : World} {K : PySem.W.Frag} {elts : List Expr} {kk : Nat} {tpos : Pos} (a e it : Addr) :
    Turn P w K (.Tuple elts kk tpos) (IteT K a) [e, it] e (fun i h => (∃ old, IsEnum h e it ((i : Nat) : Int) old) ∧ h.IsTupleIter it a i ∧ e ≠ it ∧ e ≠ a ∧ a ≠ it) where
  mem := List.mem_cons_self
  obj := fun i h st b hb => by
    obtain ⟨⟨old, en⟩, ⟨o, ho, _, hd⟩, _⟩ := st
    rcases (by simpa using hb : b = e ∨ b = it) with rfl | rfl
    · exact ⟨_, en, fun v q => nomatch q⟩
    · refine ⟨o, ho, fun v q => ?_⟩
      rw [hd] at q
      cases q
  keep := fun i h h1 st k => by
    obtain ⟨⟨old, en⟩, hi, ne⟩ := st
    exact ⟨⟨old, k e List.mem_cons_self _ en⟩, hi.at fun o q => k it (List.mem_cons_of_mem _ List.mem_cons_self) o q, ne⟩
  item := by
    intro X hP hw hK hc i pins s σ H E I hf st hg
    subst hP hw hK
    obtain ⟨⟨old, en⟩, hit, ne, nea, nai⟩ := st
    obtain ⟨xs, x, hq, hx⟩ := hg
    obtain ⟨its, rv, tp, _⟩ := I.tuple hq
    obtain ⟨u, hu, ru⟩ := rv.get hx
    have lte : e < s.heap.objs.size := Heap.lt_size en
    have lti : it < s.heap.objs.size := by
      obtain ⟨_, q, _⟩ := hit
      exact Heap.lt_size q
    have ilt : i < its.toArray.size := by
      rw [List.size_toArray]
      exact (List.getElem?_eq_some_iff.mp hu).1
    refine wpAny_pyNext_enum_itemD (Draws.tuple (A := X.A.in1) (I.ok.hd hc) it a nai its.toArray) en ⟨hit, show s.heap.IsTuple a its.toArray from tp⟩ ilt ne (by simp [ne, nea]) fun x1 h1 tk hx1 ho st1 hT sz hk => ?_
    have ex1 : x1 = u := by
      have z : its[i]? = some x1 := by simpa using hx1
      rw [hu] at z
      cases z
      rfl
    subst ex1
    refine ⟨_, rfl, wpAny_letOwnedTupleGo_enum (s := { s with heap := h1, toks := tk + 1 }) ho fun h2 en2 sb => ?_⟩
    have hT2 : h2.get? s.heap.objs.size = some { cls := .type "tuple", data := .seq #[.int i tk, x1] } := (sb.2 _ (Nat.ne_of_gt lte)).trans hT
    have fresh : ObjOk X.prog X.w (upd H s.heap.objs.size (.tup [.int (i : Nat), x])) h2 s.heap.objs.size (.tup [.int (i : Nat), x]) :=
      ⟨by show 2 ≤ sizeLine; decide, [.int i tk, x1], .cons ⟨_, rfl⟩ (.cons ru .nil), ⟨_, hT2, rfl, _, rfl⟩⟩
    have I2 : Inv X pins σ (upd H s.heap.objs.size (.tup [.int (i : Nat), x])) { s with heap := h2, toks := tk + 1 } :=
      I.turnedNew (ch := [e, it]) (fun b ob hb q => (sb.2 b (fun z => hb (by simp [z]))).trans (hk b ob (fun z => hb (by simp [z])) (fun z => hb (by simp [z])) q)) hf (Nat.le_refl _) fresh
    refine ⟨.ref s.heap.objs.size, _, I2, rfl, ⟨_, x, rfl, I.hok.fresh (Nat.le_refl _), rfl, fun ys hy => by rw [I.tuple_inj hy hq]; exact hx⟩, ⟨⟨x1, ?_⟩, st1.1.at fun o q => (sb.2 it (Ne.symm ne)).trans q, ne, nea, nai⟩, fun b hb => ?_⟩
    · rw [show ((i + 1 : Nat) : Int) = (i : Int) + 1 by omega]
      exact en2
    · have lt : b < s.heap.objs.size := by
        rcases (by simpa using hb : b = e ∨ b = it) with rfl | rfl
        · exact lte
        · exact lti
      rw [upd_ne (Nat.ne_of_lt lt)]
      exact (hf b hb).1
  done := by
    intro X hP hw hK hc i pins s σ H E I hf st hg
    subst hP hw hK
    obtain ⟨⟨old, en⟩, hit, ne, nea, nai⟩ := st
    obtain ⟨xs, hq, hx⟩ := hg
    obtain ⟨its, rv, tp, _⟩ := I.tuple hq
    obtain ⟨g0, g1, g2, g3, g4, g5⟩ := hf it (List.mem_cons_of_mem _ List.mem_cons_self)
    have sz : its.toArray.size = i := by
      have := rv.length
      rw [List.size_toArray]
      omega
    subst sz
    exact wpAny_pyNext_enum_endD (Draws.tuple (A := X.A.in1) (I.ok.hd hc) it a nai its.toArray) en ⟨hit, show s.heap.IsTuple a its.toArray from tp⟩ fun h1 eb => ⟨rfl, I.turned (t' := s.toks) (fun b o hb q => eb b o hb q) g0 g1 g3 g4 g5⟩
  self := fun A i s Q E st h => let ⟨⟨_, en⟩, _⟩ := st; wpAny_pyIter_enum en h
def iEnumT (K : PySem.W.Frag) (ta : TA) : TI := fun σ H R => ta σ H fun vs H1 => ∃ a xs, vs = [.ref a] ∧ SqT K H1 a xs ∧ R (IteT K a) H1
theorem pi_enumT {X : Cx} {e : Expr} {ta : TA} {p pos tpos : Pos} {elts : List Expr} {kk : Nat} (hg : Gl X "enumerate") (hm : X.mg "enumerate" = none) (ha : PA X [e] ta) (hs : starEach [e] X.env = [(false, eval e X.env)] := by rfl) :
    PI X (.Tuple elts kk tpos) (.Call (.Name "enumerate" p) [e] [] pos) (iEnumT X.K ta) := by
  refine ⟨fun pins s σ H R I h => ?_⟩
  refine Call_ (ld_blt I hg hm boot_enumerate (PyProof.Rows.callWith_type1 (thn (ha.run pos pins s σ H _ I h) fun us s1 ⟨vs, H1, I1, r1, a, xs, ex, hq, q⟩ => ?_) hs rfl))
  subst ex
  rw [Vals.ref1 r1]
  obtain ⟨its, rv, tp, _⟩ := I1.tuple hq
  have tp' : s1.heap.IsTuple a its.toArray := tp
  have lta : a < s1.heap.objs.size := by
    obtain ⟨_, z, _⟩ := tp'
    exact Heap.lt_size z
  refine enum1_at (begins_tuple a its.toArray) tp' fun h1 en hi hk => wpAny_pyIter_enum en ?_
  have I2 : Inv X pins σ H1 { s1 with heap := h1 } := I1.kept (t' := s1.toks) hk
  refine ⟨s1.heap.objs.size + 1, [s1.heap.objs.size + 1, s1.heap.objs.size], _, _, H1, rfl, I2, turn_enumT a (s1.heap.objs.size + 1) s1.heap.objs.size, ⟨⟨.none, en⟩, ⟨_, hi, rfl, rfl⟩, Nat.succ_ne_self _, Nat.ne_of_gt (Nat.lt_succ_of_lt lta), Nat.ne_of_lt lta⟩, fun b hb => ?_, q⟩
  have le : s1.heap.objs.size ≤ b := by
    rcases (by simpa using hb : b = s1.heap.objs.size + 1 ∨ b = s1.heap.objs.size) with rfl | rfl
    · exact Nat.le_succ _
    · exact Nat.le_refl _
  exact I1.fpOk le (I1.hok.fresh le)
/-- a loop over an enumerated tuple, by a word -/
def ForE (K : PySem.W.Frag) (a : Addr) := ForJ (IteT K a)
section
variable {K : PySem.W.Frag} {a : Addr} {xs : List V} {g : TG} {tb : TS} {D : Ends} {σ : L2.St} {H : Hp} {ta : TA} {tt : TT} {te : TE} {vs : List Nat} {Q : VK}
theorem rd_forE : tFor (iEnumT K ta) g tb D σ H = ta σ H fun us H1 => ∃ a xs, us = [.ref a] ∧ SqT K H1 a xs ∧ ForE K a g tb D σ H1 := rfl
theorem ForE.w (Pw : Nat → L2.St → Hp → Prop) (h0 : Pw 0 σ H) (hl : ∀ i σ H, i ≤ xs.length → Pw i σ H → SqT K H a xs)
    (hs : ∀ (i : Nat) (x : V) (T : Addr) σ H, xs[i]? = some x → Pw i σ H → H T = none → ∀ N : L2.St → Hp → Prop, (∀ σ' H', Pw (i + 1) σ' H' → N σ' H') → g (.ref T) σ (upd H T (.tup [.int (i : Nat), x])) fun σ2 H2 => tb { D with nx := N, ct := N, bk := D.nx } σ2 H2)
    (hd : ∀ σ H, Pw xs.length σ H → D.nx σ H) : ForE K a g tb D σ H := by
  refine ⟨fun i m σ H => m = xs.length - i ∧ i ≤ xs.length ∧ Pw i σ H, ⟨_, rfl, Nat.zero_le _, h0⟩, ?_⟩
  rintro i m σ H ⟨rfl, hi, p⟩
  have hq := hl i σ H hi p
  rcases Nat.lt_or_ge i xs.length with c | c
  · have hx : xs[i]? = some xs[i] := List.getElem?_eq_getElem c
    refine .inr ⟨⟨xs, _, hq, hx⟩, Pw (i + 1), fun σ' H' p' => ⟨xs.length - (i + 1), by omega, rfl, c, p'⟩, fun v H' y => ?_⟩
    obtain ⟨T, x, rfl, hT, rfl, f⟩ := y
    exact hs i x T σ H (f xs hq) p hT _ fun _ _ h => h
  · have e : i = xs.length := by omega
    subst e
    exact .inl ⟨⟨xs, hq, rfl⟩, hd σ H p⟩
/-- a comprehension over an enumerated tuple -/
def LcE (K : PySem.W.Frag) (a : Addr) := LcJ (IteT K a)
theorem rd_lcE : tLc (iEnumT K ta) g tt te vs σ H Q = ta σ H fun us H1 => ∃ a xs, us = [.ref a] ∧ SqT K H1 a xs ∧ LcE K a g tt te vs σ H1 Q := rfl
theorem LcE.w (Pw : Nat → Addr → List V → Hp → Prop) (h0 : ∀ D, H D = none → Pw 0 D [] (upd H D (.lst []))) (hl : ∀ D i ys H, i ≤ xs.length → Pw i D ys H → SqT K H a xs)
    (hs : ∀ D (i : Nat) x (T : Addr) ys H, xs[i]? = some x → Pw i D ys H → H T = none → ∀ N : Hp → Prop, (∀ ys' H', Pw (i + 1) D ys' H' → N H') → g (.ref T) (wipe σ vs) (upd H T (.tup [.int (i : Nat), x])) fun σ2 H2 => wipe σ2 vs = wipe σ vs ∧ tt σ2 H2 fun b H3 =>
      if b = true then te σ2 H3 fun y H4 => ∃ acc, H4 D = some (.lst acc) ∧ acc.length < sizeLine ∧ N (upd H4 D (.lst (acc ++ [y]))) else N H3) (hd : ∀ D ys H', H D = none → Pw xs.length D ys H' → Q (.ref D) H') : LcE K a g tt te vs σ H Q := by
  intro D hD
  refine ⟨fun i m H => m = xs.length - i ∧ i ≤ xs.length ∧ ∃ ys, Pw i D ys H, ⟨_, rfl, Nat.zero_le _, _, h0 D hD⟩, ?_⟩
  rintro i m H ⟨rfl, hi, ys, p⟩
  have hq := hl D i ys H hi p
  rcases Nat.lt_or_ge i xs.length with c | c
  · have hx : xs[i]? = some xs[i] := List.getElem?_eq_getElem c
    refine .inr ⟨⟨xs, _, hq, hx⟩, fun H' => ∃ ys, Pw (i + 1) D ys H', fun H' p' => ⟨xs.length - (i + 1), by omega, rfl, c, p'⟩, fun v H' y => ?_⟩
    obtain ⟨T, x, rfl, hT, rfl, f⟩ := y
    exact hs D i x T ys H (f xs hq) p hT _ fun ys' H' h => ⟨ys', h⟩
  · have e : i = xs.length := by omega
    subst e
    exact .inl ⟨⟨xs, hq, rfl⟩, hd D ys H hD p⟩
end
end CB
/-! the least of data alike, a list or a tuple; the place of a datum in a list -/
namespace CB
open PySem PySem.Spec PyProof.Rows L2
section
variable {X : Cx}
theorem un65 {k : Nat} {A : Around} (r : Room k A) : A.units + 65 < cLine := by
  have := r.un
  omega
theorem minD_in (x : PyData) : ∀ xs : List PyData, PySem.W.minD x xs ∈ x :: xs := by
  intro xs
  unfold PySem.W.minD
  induction xs generalizing x with
  | nil => exact List.mem_cons_self
  | cons y r ih =>
    rw [List.foldl_cons]
    have h := ih (if PySem.W.dataLt y x then y else x)
    rcases List.mem_cons.mp h with h | h
    · rw [h]
      split
      · exact List.mem_cons_of_mem _ List.mem_cons_self
      · exact List.mem_cons_self
    · exact List.mem_cons_of_mem _ (List.mem_cons_of_mem _ h)
theorem lay_of {x : PyData} : ∀ {xs : List PyData}, PyData.canLayAll0 xs = true → x ∈ xs → PyData.canLay0 x = true
  | [], _, h => by simp at h
  | y :: r, l, h => by
    have l' : (PyData.canLay0 y && PyData.canLayAll0 r) = true := l
    rw [Bool.and_eq_true] at l'
    rcases List.mem_cons.mp h with h | h
    · rw [h]; exact l'.1
    · exact lay_of l'.2 h
theorem read_one {h : Heap} {v : Value} {d d' : PyData} {as bs : List Addr} (r : Reads h v d as) (r' : Reads h v d' bs) (l : PyData.canLay0 d = true) (l' : PyData.canLay0 d' = true) : d = d' := by
  have e1 := SeqAt.readsAll_map [d] [v] _ (by show (PyData.canLay0 d && true) = true; rw [l]; rfl) (.cons r .nil)
  have e2 := SeqAt.readsAll_map [d'] [v] _ (by show (PyData.canLay0 d' && true) = true; rw [l']; rfl) (.cons r' .nil)
  rw [e1] at e2
  exact (List.cons.inj e2).1
/-- min(xs), xs a list or a tuple of data alike -/
def rMinD (K : PySem.W.Frag) : List V → Hp → VK → Prop := fun vs H Q => ∃ (a : Addr) (ys : List V) (x : PyData) (xs : List PyData), vs = [V.ref a] ∧ (SqL K H a ys ∨ SqT K H a ys) ∧ DpAll K H ys (x :: xs) ∧ PyData.canLayAll0 (x :: xs) = true ∧ PySem.W.AlikeAll (x :: xs) ∧ PyData.depthAll (x :: xs) ≤ 60 ∧
  ∀ (i : Nat) v, ys[i]? = some v → (x :: xs)[i]? = some (PySem.W.minD x xs) → Q v H
theorem cr_minD (hc : X.calm = true) (hu : X.A.units + 65 < cLine) : CallR X (.builtin "min") (rMinD X.K) := by
  intro pins s σ H vs us Q I r h
  obtain ⟨a, ys, x, xs, rfl, hs, hd, lay, al, dp, q⟩ := h
  rw [Vals.ref1 r]
  have fin : ∀ {its : List Value} {as : List Addr} {i : Nat} {v : Value} {h' : Heap} {tk : Nat} {bs : List Addr}, Vals ys its → ReadsAll s.heap its (x :: xs) as → its.toArray[i]? = some v → Reads h' v (PySem.W.minD x xs) bs → (∀ b o, s.heap.get? b = some o → h'.get? b = some o) →
      (∃ y H', Inv X pins σ H' { s with heap := h', toks := tk } ∧ RelV y v ∧ Q y H') := fun {its as i v h' tk bs} rv ra hv rd hk => by
    have hv' : its[i]? = some v := by simpa using hv
    obtain ⟨b2, r2, hi, _, _⟩ := PySem.W.readsAll_at ra i v hv'
    have hx : (x :: xs)[i]? = some ((x :: xs).getD i .none) := by
      rw [List.getD_eq_getElem?_getD, List.getElem?_eq_getElem hi]
      rfl
    have mem := List.mem_of_getElem? hx
    have e := read_one (Reads.keeps hk r2) rd (lay_of lay mem) (lay_of lay (minD_in x xs))
    have hl := rv.length
    have hil : i < its.length := by
      obtain ⟨z, _⟩ := List.getElem?_eq_some_iff.mp hv'
      exact z
    have hy : ys[i]? = some ys[i] := List.getElem?_eq_getElem (by omega)
    obtain ⟨u, hu, ru⟩ := rv.get hy
    rw [hu] at hv'
    cases hv'
    exact ⟨ys[i], H, I.kept hk, ru, q i _ hy (by rw [hx, e])⟩
  have ar : X.A.units + 1 + PyData.depthAll (x :: xs) < cLine := by omega
  rcases hs with hs | hs
  · obtain ⟨its, rv, hl, _⟩ := I.list hs
    obtain ⟨as, ra⟩ := Dp.readsAll I _ _ its hd rv
    exact PySem.W.min_list_data (I.ok.hd hc) hl.isList (by simpa using ra) al ar fun i v h' tk bs hv rd hk => fin rv ra hv rd hk
  · obtain ⟨its, rv, hl, _⟩ := I.tuple hs
    obtain ⟨as, ra⟩ := Dp.readsAll I _ _ its hd rv
    exact PySem.W.min_tuple_data (I.ok.hd hc) (show s.heap.IsTuple a its.toArray from hl) (by simpa using ra) al ar fun i v h' tk bs hv rd hk => fin rv ra hv rd hk
theorem rd_minD {K : PySem.W.Frag} {vs : List V} {H : Hp} {Q : VK} : rMinD K vs H Q = ∃ (a : Addr) (ys : List V) (x : PyData) (xs : List PyData), vs = [V.ref a] ∧ (SqL K H a ys ∨ SqT K H a ys) ∧ DpAll K H ys (x :: xs) ∧ PyData.canLayAll0 (x :: xs) = true ∧ PySem.W.AlikeAll (x :: xs) ∧ PyData.depthAll (x :: xs) ≤ 60 ∧
  ∀ (i : Nat) v, ys[i]? = some v → (x :: xs)[i]? = some (PySem.W.minD x xs) → Q v H := rfl
theorem rd_indexD {K : PySem.W.Frag} {x : V} {xs : List V} {H : Hp} {Q : VK} : rIndexD K x xs H Q = ∃ (a : Addr) (y : V) (d : PyData) (ds : List PyData) (j : Nat) (z : PyData), x = V.ref a ∧ xs = [y] ∧ Dp K H (V.ref a) (.list ds) ∧ Dp K H y d ∧
  SeqAt.shaped (.list ds) = true ∧ SeqAt.shaped d = true ∧ ds[j]? = some z ∧ PyData.eqv z d = true ∧ (∀ (m : Nat) (z' : PyData), m < j → ds[m]? = some z' → PyData.eqv z' d = false) ∧ Q (.int (j : Nat)) H := rfl
end
end CB
/-! divmod; comprehensions by what holds beside the list that is made -/
namespace CB
open PySem PySem.Spec PyProof.Rows L2
/-! ### divmod of any size -/
def rDm : List V → Hp → VK → Prop := fun xs H Q => ∃ i j : Int, xs = [.int i, .int j] ∧ CDivP i j ∧ ∀ p, H p = none → Q (.ref p) (upd H p (.tup [.int (i / j), .int (i % j)]))
theorem cr_dm {X : Cx} : CallR X (.builtin "divmod") rDm := call_divmodW
theorem rd_dm {xs : List V} {H : Hp} {Q : VK} : rDm xs H Q = ∃ i j : Int, xs = [.int i, .int j] ∧ CDivP i j ∧ ∀ p, H p = none → Q (.ref p) (upd H p (.tup [.int (i / j), .int (i % j)])) := rfl
/-! ### a comprehension: what holds beside the list that is made -/
section
variable {K : PySem.W.Frag} {a : Addr} {xs : List V} {g : TG} {tt : TT} {te : TE} {vs : List Nat} {σ : L2.St} {H : Hp} {Q : VK} {lo : Int} {n : Nat}
/-- lists made since H stand as they were -/
def Kn (H H1 H2 : Hp) : Prop := ∀ D l, H D = none → H1 D = some (.lst l) → H2 D = some (.lst l)
theorem Kn.same {H H1 H2 : Hp} (s : Same H1 H2) : Kn H H1 H2 := fun D l _ e => s _ _ e
theorem Kn.refl {H H1 : Hp} : Kn H H1 H1 := fun _ _ _ e => e
theorem Kn.trans {H H1 H2 H3 : Hp} (a : Kn H H1 H2) (b : Kn H H2 H3) : Kn H H1 H3 := fun D l n e => b D l n (a D l n e)
/-- what does not speak of lists made since H -/
def Ind (H : Hp) (I : Hp → Prop) : Prop := ∀ H1 D l l', I H1 → H D = none → H1 D = some (.lst l) → I (upd H1 D (.lst l'))
theorem same_updD {H H1 : Hp} {D : Addr} {o : HO} (s : Same H H1) (n : H D = none) : Same H (upd H1 D o) := fun b x e => by
  rw [upd_ne (ne_of_none e n)]
  exact s _ _ e
theorem Ind.same {H : Hp} : Ind H (Same H) := fun H1 D l l' s n _ => same_updD s n
abbrev Turn1 (H : Hp) (g : TG) (tt : TT) (te : TE) (vs : List Nat) (σ : L2.St) (I : Nat → List V → Hp → Prop) (i : Nat) (x : V) : Prop :=
  ∀ zs H1, I i zs H1 → ∀ (M : VK) (S : Hp → Prop), (∀ v H2, Kn H H1 H2 → I (i + 1) (zs ++ [v]) H2 → M v H2) → (∀ H2, Kn H H1 H2 → I (i + 1) zs H2 → S H2) →
    g x (wipe σ vs) H1 fun σ2 H2 => wipe σ2 vs = wipe σ vs ∧ tt σ2 H2 fun b H3 => if b = true then te σ2 H3 M else S H3
theorem turn1 {I : Nat → List V → Hp → Prop} {i : Nat} {x : V} (hi : ∀ i zs, Ind H (I i zs)) (hz : ∀ i zs H1, I i zs H1 → zs.length < sizeLine) (t : Turn1 H g tt te vs σ I i x) {D : Addr} (nD : H D = none) {zs : List V} {H1 : Hp}
    (p : I i zs H1 ∧ H1 D = some (.lst zs)) {N : Hp → Prop} (hN : ∀ ys' H', I (i + 1) ys' H' ∧ H' D = some (.lst ys') → N H') : g x (wipe σ vs) H1 fun σ2 H2 => wipe σ2 vs = wipe σ vs ∧ tt σ2 H2 fun b H3 =>
      if b = true then te σ2 H3 fun y H4 => ∃ acc, H4 D = some (.lst acc) ∧ acc.length < sizeLine ∧ N (upd H4 D (.lst (acc ++ [y]))) else N H3 :=
  t zs H1 p.1 (fun y H4 => ∃ acc, H4 D = some (.lst acc) ∧ acc.length < sizeLine ∧ N (upd H4 D (.lst (acc ++ [y])))) N
    (fun v H2 k q => ⟨zs, k D zs nD p.2, hz _ _ _ p.1, hN (zs ++ [v]) _ ⟨hi _ _ H2 D zs _ q nD (k D zs nD p.2), upd_same⟩⟩) (fun H2 k q => hN zs _ ⟨q, k D zs nD p.2⟩)
theorem LcT.i (I : Nat → List V → Hp → Prop) (hi : ∀ i zs, Ind H (I i zs)) (h0 : ∀ H1, Same H H1 → I 0 [] H1) (hl : ∀ i zs H1, I i zs H1 → SqT K H1 a xs) (hz : ∀ i zs H1, I i zs H1 → zs.length < sizeLine)
    (hs : ∀ i x, xs[i]? = some x → Turn1 H g tt te vs σ I i x) (hd : ∀ D zs H', H D = none → I xs.length zs H' → H' D = some (.lst zs) → Q (.ref D) H') : LcT K a g tt te vs σ H Q :=
  LcT.w (xs := xs) (fun i D zs H1 => (I i zs H1 ∧ H1 D = some (.lst zs)) ∧ H D = none) (fun D nD => ⟨⟨h0 _ (same_upd nD), upd_same⟩, nD⟩) (fun D i zs H1 _ p => hl i zs H1 p.1.1)
    (fun D i x zs H1 hx p N hN => turn1 hi hz (hs i x hx) p.2 p.1 fun ys' H' q => hN ys' H' ⟨q, p.2⟩) (fun D zs H' _ p => hd D zs H' p.2 p.1.1 p.1.2)
theorem LcL.i (I : Nat → List V → Hp → Prop) (hi : ∀ i zs, Ind H (I i zs)) (h0 : ∀ H1, Same H H1 → I 0 [] H1) (hl : ∀ i zs H1, I i zs H1 → SqL K H1 a xs) (hz : ∀ i zs H1, I i zs H1 → zs.length < sizeLine)
    (hs : ∀ i x, xs[i]? = some x → Turn1 H g tt te vs σ I i x) (hd : ∀ D zs H', H D = none → I xs.length zs H' → H' D = some (.lst zs) → Q (.ref D) H') : LcL K a g tt te vs σ H Q :=
  LcL.w (xs := xs) (fun i D zs H1 => (I i zs H1 ∧ H1 D = some (.lst zs)) ∧ H D = none) (fun D nD => ⟨⟨h0 _ (same_upd nD), upd_same⟩, nD⟩) (fun D i zs H1 _ p => hl i zs H1 p.1.1)
    (fun D i x zs H1 hx p N hN => turn1 hi hz (hs i x hx) p.2 p.1 fun ys' H' q => hN ys' H' ⟨q, p.2⟩) (fun D zs H' _ p => hd D zs H' p.2 p.1.1 p.1.2)
theorem LcR.i (I : Nat → List V → Hp → Prop) (hi : ∀ i zs, Ind H (I i zs)) (h0 : ∀ H1, Same H H1 → I 0 [] H1) (hz : ∀ i zs H1, I i zs H1 → zs.length < sizeLine)
    (hs : ∀ i, i < n → Turn1 H g tt te vs σ I i (.int (lo + i))) (hd : ∀ D zs H', H D = none → I n zs H' → H' D = some (.lst zs) → Q (.ref D) H') : LcR lo n g tt te vs σ H Q :=
  LcR.w (fun i D zs H1 => (I i zs H1 ∧ H1 D = some (.lst zs)) ∧ H D = none) (fun D nD => ⟨⟨h0 _ (same_upd nD), upd_same⟩, nD⟩)
    (fun D i zs H1 hx p N hN => turn1 hi hz (hs i hx) p.2 p.1 fun ys' H' q => hN ys' H' ⟨q, p.2⟩) (fun D zs H' _ p => hd D zs H' p.2 p.1.1 p.1.2)
/-- the items are told: y i is what the turn i adds, if it adds any -/
def pureI (H : Hp) (m : Nat) (y : Nat → Option V) (i : Nat) (zs : List V) (H1 : Hp) : Prop := Same H H1 ∧ zs = (List.range i).filterMap y ∧ i ≤ m
abbrev Turn2 (H : Hp) (g : TG) (tt : TT) (te : TE) (vs : List Nat) (σ : L2.St) (y : Option V) (x : V) : Prop :=
  ∀ H1, Same H H1 → ∀ (M : VK) (S : Hp → Prop), (∀ v H2, y = some v → Same H1 H2 → M v H2) → (∀ H2, y = none → Same H1 H2 → S H2) →
    g x (wipe σ vs) H1 fun σ2 H2 => wipe σ2 vs = wipe σ vs ∧ tt σ2 H2 fun b H3 => if b = true then te σ2 H3 M else S H3
theorem turn2 {m : Nat} {y : Nat → Option V} {i : Nat} {x : V} (hm : i < m) (t : Turn2 H g tt te vs σ (y i) x) : Turn1 H g tt te vs σ (pureI H m y) i x := by
  rintro zs H1 ⟨s1, rfl, _⟩ M S hM hS
  refine t H1 s1 M S (fun v H2 e s2 => hM v H2 (.same s2) ⟨s1.trans s2, ?_, hm⟩) (fun H2 e s2 => hS H2 (.same s2) ⟨s1.trans s2, ?_, hm⟩)
  · rw [List.range_succ, List.filterMap_append, List.filterMap_cons, e]
    rfl
  · rw [List.range_succ, List.filterMap_append, List.filterMap_cons, e, List.filterMap_nil, List.append_nil]
theorem pureI.ind {m : Nat} {y : Nat → Option V} (i : Nat) (zs : List V) : Ind H (pureI H m y i zs) := fun H1 D l l' p n _ => ⟨same_updD p.1 n, p.2⟩
theorem pureI.z {m : Nat} {y : Nat → Option V} (hm : m ≤ 10000000) (i : Nat) (zs : List V) (H1 : Hp) (p : pureI H m y i zs H1) : zs.length < sizeLine := by
  obtain ⟨_, rfl, hi⟩ := p
  have := List.length_filterMap_le y (List.range i)
  rw [List.length_range] at this
  rw [PySem.sizeLine_eq]
  omega
theorem LcT.p (y : Nat → Option V) (hm : xs.length ≤ 10000000) (hx : ∀ H1, Same H H1 → SqT K H1 a xs) (hs : ∀ i x, xs[i]? = some x → Turn2 H g tt te vs σ (y i) x)
    (hd : ∀ D H', H D = none → Same H H' → H' D = some (.lst ((List.range xs.length).filterMap y)) → Q (.ref D) H') : LcT K a g tt te vs σ H Q :=
  LcT.i (pureI H xs.length y) pureI.ind (fun H1 s => ⟨s, rfl, Nat.zero_le _⟩) (fun i zs H1 p => hx H1 p.1) (pureI.z hm) (fun i x h => turn2 (List.getElem?_eq_some_iff.mp h).1 (hs i x h)) (fun D zs H' nD p e => hd D H' nD p.1 (by rw [← p.2.1]; exact e))
theorem LcL.p (y : Nat → Option V) (hm : xs.length ≤ 10000000) (hx : ∀ H1, Same H H1 → SqL K H1 a xs) (hs : ∀ i x, xs[i]? = some x → Turn2 H g tt te vs σ (y i) x)
    (hd : ∀ D H', H D = none → Same H H' → H' D = some (.lst ((List.range xs.length).filterMap y)) → Q (.ref D) H') : LcL K a g tt te vs σ H Q :=
  LcL.i (pureI H xs.length y) pureI.ind (fun H1 s => ⟨s, rfl, Nat.zero_le _⟩) (fun i zs H1 p => hx H1 p.1) (pureI.z hm) (fun i x h => turn2 (List.getElem?_eq_some_iff.mp h).1 (hs i x h)) (fun D zs H' nD p e => hd D H' nD p.1 (by rw [← p.2.1]; exact e))
theorem LcR.p (y : Nat → Option V) (hm : n ≤ 10000000) (hs : ∀ i, i < n → Turn2 H g tt te vs σ (y i) (.int (lo + i)))
    (hd : ∀ D H', H D = none → Same H H' → H' D = some (.lst ((List.range n).filterMap y)) → Q (.ref D) H') : LcR lo n g tt te vs σ H Q :=
  LcR.i (pureI H n y) pureI.ind (fun H1 s => ⟨s, rfl, Nat.zero_le _⟩) (pureI.z hm) (fun i h => turn2 h (hs i h)) (fun D zs H' nD p e => hd D H' nD p.1 (by rw [← p.2.1]; exact e))
end
theorem small_size {n : Nat} (h : n ≤ 10000000) : n < sizeLine := by rw [PySem.sizeLine_eq]; omega
theorem iabs (i : Int) : (if i < 0 then -i else i) = (i.natAbs : Int) := by
  split <;> omega
theorem fm_self {α : Type} : ∀ l : List α, (List.range l.length).filterMap (fun i => l[i]?) = l
  | [] => rfl
  | a :: l => by
    rw [List.length_cons, List.range_succ_eq_map, List.filterMap_cons, List.filterMap_map]
    show a :: _ = _
    congr 1
    exact fm_self l
theorem fm_get {α β : Type} (l : List α) (g : α → Option β) : (List.range l.length).filterMap (fun i => l[i]?.bind g) = l.filterMap g := by
  rw [← List.filterMap_filterMap, fm_self]
theorem fm_ite {α β : Type} (l : List α) (p : α → Bool) (f : α → β) : l.filterMap (fun a => if p a = true then some (f a) else none) = (l.filter p).map f := by
  induction l with
  | nil => rfl
  | cons a l ih =>
    rw [List.filterMap_cons, List.filter_cons]
    by_cases h : p a = true
    · rw [if_pos h, if_pos h, List.map_cons, ← ih]
    · rw [if_neg h, if_neg h, ← ih]
theorem lg_int {n : Int} (h : n.natAbs ≤ 1000000000000000000) : n.natAbs.log2 < 9000 := by
  have := log_lt (n := n.natAbs) (k := 60) (Nat.lt_of_le_of_lt h (by decide))
  omega
/-- a def that is never called so -/
def spNev : Sp := fun _ _ _ _ => False
theorem Dn.never {P : Program} {w : World} {K : PySem.W.Frag} {mg : Str → Option Value} {base : Heap} {x : Str} {st : Stmt} {N ps : List Str} (D : Dn K mg x st ps) (S : FnScope N ps (defScope st)) : Cal P w K mg base x 1 ps spNev :=
  D.cal S (fun _ _ _ _ h => h.elim) (fun _ _ _ _ _ _ _ _ _ _ h => h.elim)
theorem ixNk {n j : Nat} (hj : j < n) : ixN n (j : Int) = some j := by
  have h1 : (0 : Int) ≤ (j : Int) := by omega
  have h2 : (j : Int) < (n : Int) := by omega
  unfold ixN
  rw [if_pos h1, if_pos h2, Int.toNat_natCast]
/-- targets within a comprehension -/
theorem pg_tupK {X : Cx} {K : PySem.W.Frag} {es : List Expr} {k : Nat} {pos : Pos} {t : TGs} {n : Nat} (hK : X.K = K) (hc : X.calm = true) (h : PGs X es t)
    (hn : (assignEach es X.env).length = n) (hst : (assignEach es X.env).findIdx? (·.1) = none) : PG X (.Tuple es k pos) (gTup K n t) := by
  subst hK
  exact pg_tup hc h hn hst
/-! ### tuples of ints -/
section
variable {K : PySem.W.Frag} {H : Hp}
def dIs (ns : List Int) : PyData := .tuple (ns.map PyData.int)
theorem lay_ints : ∀ ts : List Int, PyData.canLayAll0 (ts.map PyData.int) = true
  | [] => rfl
  | t :: ts => by
    show (PyData.canLay0 (.int t) && PyData.canLayAll0 (ts.map PyData.int)) = true
    rw [lay_ints ts]
    rfl
theorem depth_ints : ∀ ts : List Int, PyData.depthAll (ts.map PyData.int) ≤ 1
  | [] => by decide
  | t :: ts => by
    have := depth_ints ts
    show max (PyData.depth (.int t)) (PyData.depthAll (ts.map PyData.int)) ≤ 1
    have e : PyData.depth (.int t) = 0 := rfl
    omega
theorem shaped_ints (ts : List Int) : SeqAt.shaped (dIs ts) = true := by
  unfold SeqAt.shaped dIs
  have a : PyData.canLay0 (.tuple (ts.map PyData.int)) = true := lay_ints ts
  have b : PyData.depth (.tuple (ts.map PyData.int)) ≤ 64 := by
    have := depth_ints ts
    show PyData.depthAll (ts.map PyData.int) + 1 ≤ 64
    omega
  rw [a, decide_eq_true b]
  rfl
theorem eqvAll_ints : ∀ xs ys : List Int, PyData.eqvAll (xs.map PyData.int) (ys.map PyData.int) = decide (xs = ys)
  | [], [] => rfl
  | [], _ :: _ => rfl
  | _ :: _, [] => rfl
  | x :: xs, y :: ys => by
    show ((x == y) && PyData.eqvAll (xs.map PyData.int) (ys.map PyData.int)) = _
    rw [eqvAll_ints xs ys]
    by_cases h1 : x = y
    · by_cases h2 : xs = ys
      · simp [h1, h2]
      · simp [h2]
    · simp [h1]
theorem eqv_ints (xs ys : List Int) : PyData.eqv (dIs xs) (dIs ys) = decide (xs = ys) := eqvAll_ints xs ys
theorem dp_I {p : Addr} {ns : List Int} (h : H p = some (.tup (ns.map V.int))) : Dp K H (.ref p) (dIs ns) := .tup (SqT.of h) (dp_ints ns)
end
/-! ### sums, slices, multiples of tuples of any size; isinstance of several classes -/
theorem rd_catA {K : PySem.W.Frag} {x y : V} {H : Hp} {Q : VK} : rCatA K x y H Q = ∃ a b xs ys, x = .ref a ∧ y = .ref b ∧ SqT K H a xs ∧ SqT K H b ys ∧ xs.length + ys.length ≤ sizeLine ∧
  (xs = [] → Q (.ref b) H) ∧ (xs ≠ [] → ys = [] → Q (.ref a) H) ∧ (xs ≠ [] → ys ≠ [] → ∀ p, H p = none → Q (.ref p) (upd H p (.tup (xs ++ ys)))) := rfl
theorem rd_slA {K : PySem.W.Frag} {x : V} {lo hi : Option Int} {H : Hp} {Q : VK} : rSlA K x lo hi H Q = ∃ a xs, x = .ref a ∧ SqT K H a xs ∧
  (HT.sIx xs.length 0 lo = 0 ∧ HT.sIx xs.length xs.length hi = xs.length → Q (.ref a) H) ∧ (¬ (HT.sIx xs.length 0 lo = 0 ∧ HT.sIx xs.length xs.length hi = xs.length) → ∀ p, H p = none → Q (.ref p) (upd H p (.tup (cutV xs lo hi)))) := rfl
theorem rd_repT {K : PySem.W.Frag} {x y : V} {H : Hp} {Q : VK} : rRepT K x y H Q = ∃ l k xs, x = .ref l ∧ y = .int k ∧ SqT K H l xs ∧ xs ≠ [] ∧ 2 ≤ k ∧ k ≤ 1000 ∧ xs.length ≤ 1000 ∧ ∀ p, H p = none → Q (.ref p) (upd H p (.tup (List.replicate k.toNat xs).flatten)) := rfl
theorem rd_isiT {K : PySem.W.Frag} {xs : List V} {H : Hp} {Q : VK} : rIsiT K xs H Q = ∃ (x : V) (tp : Addr) (cs : List V) (t : Value) (us : List Value) (b : Bool), xs = [x, .ref tp] ∧ H tp = some (.tup cs) ∧ Paired ClsV cs us ∧ TyX K H x t ∧ PySem.W.kitAny K t us = some b ∧ Q (.bl b) H := rfl
theorem isiT_mk {K : PySem.W.Frag} {x : V} {T t1 t2 : String} {b1 b2 : Bool} {H : Hp} {tp : Addr} {Q : VK} (hT : H tp = some (.tup [.ty t1, .ty t2])) (ty : TyX K H x (.type T)) (e1 : kitB T t1 = some b1) (e2 : kitB T t2 = some b2) (q : Q (.bl (b1 || b2)) H) : rIsiT K [x, .ref tp] H Q := by
  refine ⟨x, tp, _, _, [.type t1, .type t2], b1 || b2, rfl, hT, .cons (.ty t1) (.cons (.ty t2) .nil), ty, kitAny_cons (kit_ty e1) (fun h => kitAny_cons (r := b1 || b2) (kit_ty e2) (fun h2 => ?_) (fun h2 => ?_)) (fun h => ?_), q⟩
  · rw [h, h2]; rfl
  · rw [h2, Bool.or_true]
  · rw [h]; rfl
/-! ### rows of ints that stand in a list or a tuple -/
def RowsAt (H : Hp) (xs : List V) (rs : List (List Int)) : Prop := xs.length = rs.length ∧ ∀ (i : Nat) (r : List Int), rs[i]? = some r → ∃ p : Addr, xs[i]? = some (V.ref p) ∧ H p = some (.tup (r.map V.int))
section
variable {K : PySem.W.Frag} {H H' : Hp} {xs : List V} {rs : List (List Int)}
theorem RowsAt.nil : RowsAt H [] [] := ⟨rfl, fun i r e => by simp at e⟩
theorem RowsAt.same (h : RowsAt H xs rs) (s : Same H H') : RowsAt H' xs rs := ⟨h.1, fun i r e => by
  obtain ⟨p, h1, h2⟩ := h.2 i r e
  exact ⟨p, h1, s _ _ h2⟩⟩
theorem RowsAt.snoc {p : Addr} {r : List Int} (h : RowsAt H xs rs) (hp : H p = some (.tup (r.map V.int))) : RowsAt H (xs ++ [V.ref p]) (rs ++ [r]) := by
  refine ⟨by rw [List.length_append, List.length_append, h.1]; rfl, fun i r' e => ?_⟩
  rcases Nat.lt_or_ge i rs.length with c | c
  · rw [List.getElem?_append_left c] at e
    rw [List.getElem?_append_left (by rw [h.1]; exact c)]
    exact h.2 i r' e
  · rw [List.getElem?_append_right c] at e
    rw [List.getElem?_append_right (by rw [h.1]; exact c), h.1]
    cases hi : i - rs.length with
    | zero =>
      rw [hi] at e
      cases e
      exact ⟨p, rfl, hp⟩
    | succ n => rw [hi] at e; simp at e
theorem RowsAt.get (h : RowsAt H xs rs) {i : Nat} {v : V} (e : xs[i]? = some v) : ∃ p r, v = .ref p ∧ rs[i]? = some r ∧ H p = some (.tup (r.map V.int)) := by
  have hi : i < rs.length := by
    rw [← h.1]
    exact (List.getElem?_eq_some_iff.mp e).1
  obtain ⟨p, h1, h2⟩ := h.2 i _ (List.getElem?_eq_getElem hi)
  rw [e] at h1
  cases h1
  exact ⟨p, _, rfl, List.getElem?_eq_getElem hi, h2⟩
theorem RowsAt.updL {D : Addr} {l : List V} {o : HO} (h : RowsAt H xs rs) (hD : H D = some (.lst l)) : RowsAt (upd H D o) xs rs := ⟨h.1, fun i r e => by
  obtain ⟨p, h1, h2⟩ := h.2 i r e
  refine ⟨p, h1, ?_⟩
  rw [upd_ne (ne_of h2 hD (by intro z; cases z))]
  exact h2⟩
end
end CB
namespace L64
open PySem PySem.Spec PyProof.Rows L2 CB
def top (i : Nat) : Stmt := PySem.Challenge.pw_classledger_k64_whole_operators_on_serie.main.body.getD i (.Pass ⟨0, 0, 0, 0⟩)
structure Bl (mg : Str → Option Value) : Prop where
  abs : mg "abs" = none
  int : mg "int" = none
  bool : mg "bool" = none
  str : mg "str" = none
  tuple : mg "tuple" = none
  list : mg "list" = none
  sum : mg "sum" = none
  range : mg "range" = none
  isinstance : mg "isinstance" = none
  len : mg "len" = none
  all : mg "all" = none
  c_GREATEST_WEIGHT : ∃ t, mg "GREATEST_WEIGHT" = some (.int 100 t)
  c_LARGEST_INDEX : ∃ t, mg "LARGEST_INDEX" = some (.int 400 t)
  c_LEAST_WEIGHT : ∃ t, mg "LEAST_WEIGHT" = some (.int 4 t)
  c_LONGEST : ∃ t, mg "LONGEST" = some (.int 400 t)
local macro_rules | `(tactic| walk_at "rd") => `(tactic| simp (maxSteps := 2000000) only [CB.rd_var, CB.rd_C, CB.rd_op, CB.rd_un, CB.rd_I, CB.rd_I0, CB.rd_U, CB.rd_Eq, CB.rd_Ne, CB.rd_test, CB.rd_B, CB.rd_and, CB.rd_or, CB.rd_not, CB.rd_andV, CB.rd_orV, CB.rd_notV, CB.rd_if, CB.rd_chain, CB.rd_chain3,
  CB.rd_next, CB.rd_seq, CB.rd_drop, CB.rd_ret, CB.rd_retN, CB.rd_break, CB.rd_cont, CB.rd_ifS, CB.rd_asg, CB.rd_name, CB.rd_gsub, CB.rd_gtup, CB.rd_gcons, CB.rd_gnil, CB.rd_par, CB.rd_aug, CB.rd_ipI, CB.rd_nil, CB.rd_cons, CB.rd_tup, CB.rd_lst, CB.rd_CB, CB.rd_call, CB.rd_callS, CB.rd_ixL, CB.rd_ixT, CB.rd_setL, CB.rd_isqrt, CB.rd_sum, CB.rd_append, CB.rd_forL, CB.rd_forT, CB.rd_forR1, CB.rd_forR2, CB.rd_forR3, CB.rd_lcL, CB.rd_lcT, CB.rd_lcR1, CB.rd_lcR2, CB.rd_yes, CB.rd_sl, CB.rd_noPart, CB.rd_part, CB.rd_slL, CB.rd_wipe0, CB.rd_rep, CB.rd_tupOf, CB.rd_lenS, CB.rd_gcd, CB.rd_wipe1, CB.rd_sorted3, CB.rd_any, CB.rd_all, CB.rd_ext, CB.rd_glst, CB.rd_sortedM, CB.rd_minD, CB.rd_indexD, CB.rd_pop, CB.rd_dnew, CB.rd_dget, CB.rd_dget2, CB.rd_dput, CB.rd_dm, CB.rd_catA, CB.rd_slA, CB.rd_repT, CB.rd_anyI,
  L2.start, List.map_cons, List.map_nil, List.length_cons, List.length_nil, Nat.reduceAdd, Nat.reduceSub, List.replicate_succ, List.replicate_zero,
  V.int.injEq, V.ref.injEq, V.bl.injEq, V.str.injEq, Option.some.injEq, List.cons.injEq, exists_and_left, exists_eq_left', exists_eq_left, reduceCtorEq, false_and, and_false, or_false, false_or, exists_false, exists_const, and_assoc, true_and, and_true,
  CB.scal_int, CB.scal_str, CB.dec_ii, CB.ite_dec, CB.ite_ndec, List.getElem?_cons_zero, List.getElem?_cons_succ, List.set_cons_zero, List.set_cons_succ, List.append_nil, List.cons_append, List.nil_append, if_true, if_false, Bool.false_eq_true, Bool.not_true, Bool.not_false, CB.K_nox, CB.K_cxOf, eq_self])
local macro_rules | `(tactic| walk_at "rs") => `(tactic| simp (maxSteps := 2000000) only [CB.rd_var, CB.rd_C, CB.rd_op, CB.rd_un, CB.rd_I, CB.rd_I0, CB.rd_U, CB.rd_Eq, CB.rd_Ne, CB.rd_test, CB.rd_B, CB.rd_and, CB.rd_or, CB.rd_not, CB.rd_andV, CB.rd_orV, CB.rd_notV, CB.rd_if, CB.rd_chain, CB.rd_chain3,
  CB.rd_next, CB.rd_drop, CB.rd_ret, CB.rd_retN, CB.rd_break, CB.rd_cont, CB.rd_ifS, CB.rd_asg, CB.rd_name, CB.rd_gsub, CB.rd_gtup, CB.rd_gcons, CB.rd_gnil, CB.rd_par, CB.rd_aug, CB.rd_ipI, CB.rd_nil, CB.rd_cons, CB.rd_tup, CB.rd_lst, CB.rd_CB, CB.rd_call, CB.rd_callS, CB.rd_ixL, CB.rd_ixT, CB.rd_setL, CB.rd_isqrt, CB.rd_sum, CB.rd_append, CB.rd_forL, CB.rd_forT, CB.rd_forR1, CB.rd_forR2, CB.rd_forR3, CB.rd_lcL, CB.rd_lcT, CB.rd_lcR1, CB.rd_lcR2, CB.rd_yes, CB.rd_sl, CB.rd_noPart, CB.rd_part, CB.rd_slL, CB.rd_wipe0, CB.rd_rep, CB.rd_tupOf, CB.rd_lenS, CB.rd_gcd, CB.rd_wipe1, CB.rd_sorted3, CB.rd_any, CB.rd_all, CB.rd_ext, CB.rd_glst, CB.rd_sortedM, CB.rd_minD, CB.rd_indexD, CB.rd_pop, CB.rd_dnew, CB.rd_dget, CB.rd_dget2, CB.rd_dput, CB.rd_dm, CB.rd_catA, CB.rd_slA, CB.rd_repT, CB.rd_anyI,
  L2.start, List.map_cons, List.map_nil, List.length_cons, List.length_nil, Nat.reduceAdd, Nat.reduceSub, List.replicate_succ, List.replicate_zero,
  V.int.injEq, V.ref.injEq, V.bl.injEq, V.str.injEq, Option.some.injEq, List.cons.injEq, exists_and_left, exists_eq_left', exists_eq_left, reduceCtorEq, false_and, and_false, or_false, false_or, exists_false, exists_const, and_assoc, true_and, and_true,
  CB.scal_int, CB.scal_str, CB.dec_ii, CB.ite_dec, CB.ite_ndec, List.getElem?_cons_zero, List.getElem?_cons_succ, List.set_cons_zero, List.set_cons_succ, List.append_nil, List.cons_append, List.nil_append, if_true, if_false, Bool.false_eq_true, Bool.not_true, Bool.not_false, CB.K_nox, CB.K_cxOf, eq_self])

local macro_rules | `(tactic| walk_at "nx") => `(tactic| (show tSeq _ _ _ _ _; rw [CB.rd_seq]; walk_at "rs"))


section
variable {P : Program} {w : World} {K : PySem.W.Frag} {mg : Str → Option Value} {base : Heap}
/-! ### the draws -/
abbrev s__law_take : Stmt := top 28
theorem sc__law_take : FnScope ["state", "m", "value"] ["state", "m"] (defScope s__law_take) := ⟨rfl, rfl, rfl, by decide +kernel, rfl, by decide +kernel, by decide +kernel⟩

def spTake : Sp := fun vs H Q _ => ∃ (a : Addr) (x y m : Int), vs = [.ref a, .int m] ∧ H a = some (.lst [.int x, .int y]) ∧ 0 < m ∧ m.natAbs.log2 < 9000 ∧
  ∀ v x' y' : Int, 0 ≤ v → v < m → Q (.int v) (upd H a (.lst [.int x', .int y']))
theorem cal_take (D : Dn K mg "_law_take" s__law_take ["state", "m"]) (B : Bl mg) : Cal P w K mg base "_law_take" 1 ["state", "m"] spTake := by
  refine D.cal sc__law_take (fun vs H Q E h => ?_) (fun f cdv A outer s H vs Q E hr h => ?_)
  · obtain ⟨a, x, y, m, rfl, _⟩ := h
    rfl
  · obtain ⟨a, x, y, m, rfl, ha, hm, hz, q⟩ := h
    refine ⟨_, (pss_cons (ps_if (pt_cmpR op_gt (pe_ix ix_list (pv 0) pe_int (fun _ _ => rfl)) pe_int (nomark _)) (pss_cons (ps_set (i := 2) sc__law_take.nd rfl (Or.inl rfl) (pe_op op_mod (pe_callTy call_int1 rfl B.int boot_int (pa_cons (pe_ix ix_list (pv 0) pe_int (fun _ _ => rfl)) pa_nil)) (pv 1)))
  (pss_cons (ps_asg (pe_op op_fdivW (pe_ix ix_list (pv 0) pe_int (fun _ _ => rfl)) (pv 1)) (pg_sub (pv 0) pe_int set_list))
  (pss_one (ps_ret (pv 2))))) pss_nil)
  (pss_cons (ps_asg (pe_op op_mod (pe_callTy call_int1 rfl B.int boot_int (pa_cons (pe_op op_add (pe_op op_mulI (pe_ix ix_list (pv 0) pe_int (fun _ _ => rfl)) pe_int) pe_int) pa_nil)) pe_int) (pg_sub (pv 0) pe_int set_list))
  (pss_one (ps_ret (pe_op op_mod (pe_callTy call_int1 rfl B.int boot_int (pa_cons (pe_op op_fdivW (pe_ix ix_list (pv 0) pe_int (fun _ _ => rfl)) pe_int) pa_nil)) (pv 1)))))), ?_⟩
    walk_at "rd"
    refine ⟨_, SqL.of ha, _, rfl, _, rfl, ite2 (fun h => ?_) (fun h => ?_)⟩
    · refine ⟨_, SqL.of ha, _, rfl, .inl ⟨_, rfl, hm, _, SqL.of ha, _, rfl, _, rfl, ⟨hm, hz⟩, _, ha, _, rfl, ?_⟩⟩
      exact q _ _ _ (Int.emod_nonneg _ (by omega)) (Int.emod_lt_of_pos _ hm)
    · refine ⟨_, SqL.of ha, _, rfl, _, rfl, mulR (by decide), by decide, _, ha, _, rfl, _, SqL.of upd_same, _, rfl, _, rfl, ⟨by decide, by decide +kernel⟩, hm, ?_⟩
      exact q _ _ _ (Int.emod_nonneg _ (by omega)) (Int.emod_lt_of_pos _ hm)
abbrev s__law_state : Stmt := top 26
theorem sc__law_state : FnScope ["script", "seed", "total", "cell"] ["script"] (defScope s__law_state) := ⟨rfl, rfl, rfl, by decide +kernel, rfl, by decide +kernel, by decide +kernel⟩

def spState (K : PySem.W.Frag) : Sp := fun vs H Q _ => ∃ (a : Addr) (ns : List Int), vs = [.ref a] ∧ SqL K H a (ns.map V.int) ∧ ns.length ≤ 63 ∧
  ∀ (p : Addr) (x y : Int) (H' : Hp), Same H H' → H p = none → H' p = some (.lst [.int x, .int y]) → Q (.ref p) H'
theorem cutV63 {ns : List Int} (h : ns.length ≤ 63) : cutV (ns.map V.int) none (some 63) = ns.map V.int := by
  unfold cutV
  rw [HT.sIx_none, show HT.sIx (ns.map V.int).length (ns.map V.int).length (some 63) = min 63 (ns.map V.int).length from HT.sIx_nat _ _ 63, List.length_map, List.drop_zero]
  rw [show min 63 ns.length - 0 = (ns.map V.int).length by rw [List.length_map]; omega, List.take_length]
theorem cal_state (D : Dn K mg "_law_state" s__law_state ["script"]) (B : Bl mg) : Cal P w K mg base "_law_state" 1 ["script"] (spState K) := by
  refine D.cal sc__law_state (fun vs H Q E h => ?_) (fun f cdv A outer s H vs Q E hr h => ?_)
  · obtain ⟨a, ns, rfl, _⟩ := h
    rfl
  · obtain ⟨a, ns, rfl, hS, hl, q⟩ := h
    refine ⟨_, (pss_cons (ps_set (i := 1) sc__law_state.nd rfl (Or.inl rfl) pe_int)
  (pss_cons (ps_set (i := 2) sc__law_state.nd rfl (Or.inl rfl) pe_int)
  (pss_cons (ps_for PassesOwn.never rfl (pi_list (pe_slice sl_list (pv 0) po_none (po_some pe_int))) (pg_name (i := 3) sc__law_state.nd rfl (Or.inl rfl)) (pss_cons (ps_set (i := 1) sc__law_state.nd rfl (Or.inl rfl) (pe_op op_add (pe_op op_mulI (pv 1) pe_int) (pe_callB call_abs rfl B.abs (by decide +kernel) (pa_cons (pv 3) pa_nil))))
  (pss_one (ps_set (i := 2) sc__law_state.nd rfl (Or.inl rfl) (pe_op op_mod (pe_callTy call_int1 rfl B.int boot_int (pa_cons (pe_op op_add (pe_op op_mulI (pv 2) pe_int) (pv 3)) pa_nil)) pe_int)))))
  (pss_one (ps_ret (pe_lst (pa_cons (pv 1) (pa_cons (pv 2) pa_nil)))))))), ?_⟩
    walk_at "rd"
    refine ⟨_, hS, fun c nc => ?_⟩
    rw [cutV63 hl]
    have hc : SqL K (upd H c (.lst (ns.map V.int))) c (ns.map V.int) := SqL.of upd_same
    refine ⟨⟨_, hc⟩, ForL.mk (xs := ns.map V.int) (fun _ σ H' => ∃ x y z, σ = [some (.ref a), some (.int x), some (.int y), z] ∧ H' = upd H c (.lst (ns.map V.int))) ⟨_, _, _, rfl, rfl⟩ ?_ ?_ ?_⟩
    · rintro i σ H' _ ⟨x, y, z, rfl, rfl⟩
      exact hc
    · rintro i v σ H' hv ⟨x, y, z, rfl, rfl⟩
      rw [List.getElem?_map] at hv
      obtain ⟨n, _, rfl⟩ := Option.map_eq_some_iff.mp hv
      walk_at "rd"
      exact ⟨mulR (by decide), mulR (by decide), by decide, _, rfl⟩
    · rintro σ H' ⟨x, y, z, rfl, rfl⟩
      walk_at "rd"
      refine ⟨by decide, fun p np => q p x y _ ((same_upd nc).trans (same_upd np)) ((same_upd nc).free np) upd_same⟩
/-! ### kinds of values -/
def kinds : List String := ["int", "bool", "NoneType", "str", "tuple", "list"]
theorem kit_k {T c : String} (hT : T ∈ kinds) (hc : c ∈ ["int", "bool", "str", "tuple"]) : kitB T c = some (T == c || (T == "bool" && c == "int")) := by
  unfold kinds at hT
  simp only [List.mem_cons, List.not_mem_nil, or_false] at hT hc
  rcases hT with rfl | rfl | rfl | rfl | rfl | rfl <;> rcases hc with rfl | rfl | rfl | rfl <;> decide +kernel
abbrev s_is_integer : Stmt := top 4
theorem sc_is_integer : FnScope ["value"] ["value"] (defScope s_is_integer) := ⟨rfl, rfl, rfl, by decide +kernel, rfl, by decide +kernel, by decide +kernel⟩

def spInt (K : PySem.W.Frag) : Sp := fun vs H Q _ => ∃ (v : V) (T : String), vs = [v] ∧ TyX K H v (.type T) ∧ T ∈ kinds ∧ Q (.bl (T == "int")) H
theorem cal_is_integer (D : Dn K mg "is_integer" s_is_integer ["value"]) (B : Bl mg) : Cal P w K mg base "is_integer" 1 ["value"] (spInt K) := by
  refine D.cal sc_is_integer (fun vs H Q E h => ?_) (fun f cdv A outer s H vs Q E hr h => ?_)
  · obtain ⟨v, T, rfl, _⟩ := h
    rfl
  · obtain ⟨v, T, rfl, ty, hT, q⟩ := h
    refine ⟨_, (pss_one (ps_ret (pe_and (pe_callB call_isi rfl B.isinstance (by decide +kernel) (pa_cons (pv 0) (pa_cons (pe_bltn (v := .ty "int") rfl B.int boot_int rfl) pa_nil))) (pe_one (pe_not (pe_callB call_isi rfl B.isinstance (by decide +kernel) (pa_cons (pv 0) (pa_cons (pe_bltn (v := .ty "bool") rfl B.bool boot_bool rfl) pa_nil)))))))), ?_⟩
    walk_at "rd"
    refine isi_mk ty (kit_k hT (by simp)) ⟨_, rfl, ite2 (fun h => ?_) (fun h => ?_)⟩
    · refine isi_mk ty (kit_k hT (by simp)) ⟨_, rfl, ?_⟩
      rw [show (!(T == "bool" || (T == "bool" && "bool" == "int"))) = (T == "int") from ?_]
      · exact q
      · unfold kinds at hT
        simp only [List.mem_cons, List.not_mem_nil, or_false] at hT
        rcases hT with rfl | rfl | rfl | rfl | rfl | rfl <;> revert h <;> decide +kernel
    · rw [show false = (T == "int") from ?_]
      · exact q
      · unfold kinds at hT
        simp only [List.mem_cons, List.not_mem_nil, or_false] at hT
        rcases hT with rfl | rfl | rfl | rfl | rfl | rfl <;> revert h <;> decide +kernel
end

section
variable {P : Program} {w : World} {K : PySem.W.Frag} {mg : Str → Option Value} {base : Heap}
abbrev s__law_is_number : Stmt := top 29
theorem sc__law_is_number : FnScope ["value"] ["value"] (defScope s__law_is_number) := ⟨rfl, rfl, rfl, by decide +kernel, rfl, by decide +kernel, by decide +kernel⟩

theorem cal_num (D : Dn K mg "_law_is_number" s__law_is_number ["value"]) (B : Bl mg) : Cal P w K mg base "_law_is_number" 1 ["value"] (spInt K) := by
  refine D.cal sc__law_is_number (fun vs H Q E h => ?_) (fun f cdv A outer s H vs Q E hr h => ?_)
  · obtain ⟨v, T, rfl, _⟩ := h
    rfl
  · obtain ⟨v, T, rfl, ty, hT, q⟩ := h
    refine ⟨_, (pss_one (ps_ret (pe_and (pe_callB call_isi rfl B.isinstance (by decide +kernel) (pa_cons (pv 0) (pa_cons (pe_bltn (v := .ty "int") rfl B.int boot_int rfl) pa_nil))) (pe_one (pe_not (pe_callB call_isi rfl B.isinstance (by decide +kernel) (pa_cons (pv 0) (pa_cons (pe_bltn (v := .ty "bool") rfl B.bool boot_bool rfl) pa_nil)))))))), ?_⟩
    walk_at "rd"
    refine isi_mk ty (kit_k hT (by simp)) ⟨_, rfl, ite2 (fun h => ?_) (fun h => ?_)⟩
    · refine isi_mk ty (kit_k hT (by simp)) ⟨_, rfl, ?_⟩
      rw [show (!(T == "bool" || (T == "bool" && "bool" == "int"))) = (T == "int") from ?_]
      · exact q
      · unfold kinds at hT
        simp only [List.mem_cons, List.not_mem_nil, or_false] at hT
        rcases hT with rfl | rfl | rfl | rfl | rfl | rfl <;> revert h <;> decide +kernel
    · rw [show false = (T == "int") from ?_]
      · exact q
      · unfold kinds at hT
        simp only [List.mem_cons, List.not_mem_nil, or_false] at hT
        rcases hT with rfl | rfl | rfl | rfl | rfl | rfl <;> revert h <;> decide +kernel
end

/-! ### rows and forms recognized -/
section
variable {P : Program} {w : World} {K : PySem.W.Frag} {mg : Str → Option Value} {base : Heap} {CM CR : Addr}
/-- the kinds of a row's items, now and later -/
def Its (K : PySem.W.Frag) (H : Hp) (xs : List V) (ts : List String) : Prop := ts.length = xs.length ∧ ∀ (i : Nat) (x : V) (t : String), xs[i]? = some x → ts[i]? = some t → (∀ H', Same H H' → TyX K H' x (.type t)) ∧ t ∈ kinds
/-- no tuple -/
def NoTup (K : PySem.W.Frag) (H : Hp) (v : V) : Prop := ∃ T, TyX K H v (.type T) ∧ T ∈ kinds ∧ (T == "tuple") = false
abbrev s_is_row : Stmt := top 7
theorem sc_is_row : FnScope ["value", "n", "item"] ["value", "n"] (defScope s_is_row) := ⟨rfl, rfl, rfl, by decide +kernel, rfl, by decide +kernel, by decide +kernel⟩

def spRow (K : PySem.W.Frag) : Sp := fun vs H Q _ => ∃ (v : V) (n : Nat), vs = [v, .int (n : Int)] ∧
  ((NoTup K H v ∧ Q (.bl false) H) ∨
   ∃ (p : Addr) (xs : List V) (ts : List String), v = .ref p ∧ H p = some (.tup xs) ∧ Its K H xs ts ∧ xs.length < 1000 ∧ ∀ H', Same H H' → Q (.bl (decide (xs.length = n) && ts.all (· == "int"))) H')
theorem cal_row (D : Dn K mg "is_row" s_is_row ["value", "n"]) (B : Bl mg) (c_is_integer : Cal P w K mg base "is_integer" 1 ["value"] (spInt K)) : Cal P w K mg base "is_row" 2 ["value", "n"] (spRow K) := by
  refine D.cal sc_is_row (fun vs H Q E h => ?_) (fun f cdv A outer s H vs Q E hr h => ?_)
  · obtain ⟨v, n, rfl, _⟩ := h
    rfl
  · obtain ⟨v, n, rfl, h⟩ := h
    refine ⟨_, (pss_one (ps_ret (pe_and (pe_callB call_isi rfl B.isinstance (by decide +kernel) (pa_cons (pv 0) (pa_cons (pe_bltn (v := .ty "tuple") rfl B.tuple boot_tuple rfl) pa_nil))) (pe_and (pe_cmpR op_eq (pe_callB cr_lenS rfl B.len (by decide +kernel) (pa_cons (pv 0) pa_nil)) (pv 1) (nomark _)) (pe_one (pe_callB (cr_all rfl) rfl B.all (by decide +kernel) (pa_cons (pe_lc (own := [("item", 2)]) rfl sc_is_row.nd (pi_tup (pv 0)) (blkOk_by (N := ["value", "n", "item"]) (sc := defScope s_is_row) (own := [("item", 2)]) (by decide +kernel)) (fun _ _ _ _ _ => (pg_name (i := 2) sc_is_row.nd rfl (Or.inl rfl))) (fun _ _ _ _ _ => pts_nil) (fun _ _ _ _ _ => (pe_cal c_is_integer (hr.mono (by decide)) rfl (pa_cons (pv 2) pa_nil)))) pa_nil))))))), ?_⟩
    walk_at "rd"
    rcases h with ⟨⟨T, ty, hT, hi⟩, q⟩ | ⟨p, xs, ts, rfl, hp, ⟨hl, hty⟩, hx, q⟩
    · refine isi_mk ty (kit_k hT (by simp)) ⟨false, ?_, ?_⟩
      · rw [hi, show ("tuple" == "int") = false by decide, Bool.and_false, Bool.or_false]
      rw [if_neg Bool.false_ne_true]
      exact q
    · refine isi_mk (.base (.tup hp)) (b := true) (by decide +kernel) ⟨true, rfl, ?_⟩
      rw [if_pos rfl]
      refine ⟨xs.length, .inr ⟨_, SqT.of hp, rfl⟩, ite2 (fun c => ?_) (fun c => ?_)⟩
      · have hc : xs.length = n := Int.ofNat_inj.mp c
        refine ⟨p, rfl, ⟨_, SqT.of hp⟩, LcT.w (xs := xs) (fun i D zs H3 => zs = ((ts.take i).map (· == "int")).map V.bl ∧ i ≤ xs.length ∧ Same H H3 ∧ H3 D = some (.lst zs) ∧ H D = none) (fun D nD => ⟨rfl, Nat.zero_le _, same_upd nD, upd_same, nD⟩) ?_ ?_ ?_⟩
        · rintro D i zs H3 _ ⟨_, _, sm, _, _⟩
          exact SqT.of (sm _ _ hp)
        · rintro D i x zs H3 hv ⟨rfl, hi, sm, hD, nD⟩ N hN
          have hix : i < xs.length := (List.getElem?_eq_some_iff.mp hv).1
          obtain ⟨t, ht⟩ : ∃ t, ts[i]? = some t := ⟨ts[i]'(by omega), List.getElem?_eq_getElem (by omega)⟩
          obtain ⟨ty, hk⟩ := hty i x t hv ht
          walk_at "rd"
          refine ⟨x, t, rfl, ty _ sm, hk, _, hD, ?_, hN _ _ ⟨?_, by omega, same_at sm nD, upd_same, nD⟩⟩
          · rw [List.length_map, List.length_map, List.length_take]
            exact small_size (by omega)
          · rw [List.take_add_one, ht, List.map_append, List.map_append]
            rfl
        · rintro D zs H3 nD ⟨rfl, _, sm, hD, _⟩
          rw [← hl, List.take_length] at hD
          refine ⟨D, rfl, _, SqL.of hD, ?_⟩
          have q' := q _ sm
          rw [decide_eq_true hc, Bool.true_and] at q'
          rw [List.all_map]
          exact q'
      · have q' := q _ (Same.refl H)
        rw [decide_eq_false (fun z => c (by rw [z])), Bool.false_and] at q'
        exact q'
end
section
variable {P : Program} {w : World} {K : PySem.W.Frag} {mg : Str → Option Value} {base : Heap} {CM CR : Addr}
/-! ### powers, least divisors -/
abbrev s_raised : Stmt := top 5
theorem sc_raised : FnScope ["b", "e", "result"] ["b", "e"] (defScope s_raised) := ⟨rfl, rfl, rfl, by decide +kernel, rfl, by decide +kernel, by decide +kernel⟩

def spRaised : Sp := fun vs H Q _ => ∃ (b e : Nat), vs = [.int b, .int e] ∧ 0 < b ∧ b ^ e < 2 ^ 1000 ∧ Q (.int ((b ^ e : Nat) : Int)) H
theorem nz {n : Nat} : ((n : Int) != 0) = decide (n ≠ 0) := by
  by_cases h : n = 0
  · subst h; rfl
  · rw [decide_eq_true h]
    have : (n : Int) ≠ 0 := by omega
    simp [h]
theorem log1000 {n : Nat} (h : n < 2 ^ 1000) : (n : Int).natAbs < 2 ^ 1000 := h
theorem mulN {a b : Nat} (h : a < 2 ^ 1000) (h' : b < 2 ^ 1000) : IntMulOk (a : Int) (b : Int) := (wide_mul (a := 1000) (b := 1000) (log1000 h) (log1000 h') (by decide) (by decide) (by decide)).ok
theorem pow_step {b e : Nat} : b ^ e = (if e % 2 = 1 then b else 1) * (b * b) ^ (e / 2) := by
  have h : (b * b) ^ (e / 2) = b ^ (2 * (e / 2)) := by rw [Nat.pow_mul, Nat.pow_two]
  rw [h]
  split
  · rw [← Nat.pow_succ']
    congr 1; omega
  · rw [Nat.one_mul]
    congr 1; omega
theorem cal_raised (D : Dn K mg "raised" s_raised ["b", "e"]) (B : Bl mg) : Cal P w K mg base "raised" 1 ["b", "e"] spRaised := by
  refine D.cal sc_raised (fun vs H Q E h => ?_) (fun f cdv A outer s H vs Q E hr h => ?_)
  · obtain ⟨b, e, rfl, _⟩ := h
    rfl
  · obtain ⟨b, e, rfl, b0, hz, q⟩ := h
    refine ⟨_, (pss_cons (ps_set (i := 2) sc_raised.nd rfl (Or.inl rfl) pe_int)
  (pss_cons (ps_while PassesOwn.never (pt_truth (pv 1) (by intro _; rfl)) (pss_cons (ps_if (pt_truth (pe_op op_and (pv 1) pe_int) (by intro _; rfl)) (pss_one (ps_aug (i := 2) sc_raised.nd rfl (Or.inl rfl) (pv 0) iop_mulI)) pss_nil)
  (pss_cons (ps_aug (i := 1) sc_raised.nd rfl (Or.inl rfl) pe_int iop_shr)
  (pss_one (ps_if (pt_truth (pv 1) (by intro _; rfl)) (pss_one (ps_aug (i := 0) sc_raised.nd rfl (Or.inl rfl) (pv 0) iop_mulI)) pss_nil)))))
  (pss_one (ps_ret (pv 2))))), ?_⟩
    rw [CB.rd_seq]
    walk_at "rs"
    show tSeq _ _ _ _ _
    rw [CB.rd_seq]
    refine while_w (fun σ H' => ∃ b' e' r : Nat, σ = [some (.int b'), some (.int e'), some (.int r)] ∧ H' = H ∧ 0 < b' ∧ 0 < r ∧ r * b' ^ e' = b ^ e)
      (fun σ _ => match σ with | [_, some (.int e'), _] => e'.toNat | _ => 0) ⟨b, e, 1, rfl, rfl, b0, by omega, Nat.one_mul _⟩ ?_
    rintro σ H' ⟨b', e', r, rfl, rfl, p1, p2, inv⟩ N hN
    refine ⟨decide (e' ≠ 0), fun Q' q' => ?_, fun hb => ?_, fun hb => ?_⟩
    · walk_at "rd"
      refine ⟨_, rfl, ?_⟩
      rw [nz]
      exact q'
    · have he : e' ≠ 0 := of_decide_eq_true hb
      have hp : 0 < b' ^ e' := Nat.pow_pos p1
      have hr2 : r < 2 ^ 1000 := Nat.lt_of_le_of_lt (by rw [← inv]; exact Nat.le_mul_of_pos_right r hp) hz
      have hb2 : b' < 2 ^ 1000 := Nat.lt_of_le_of_lt (by
        rw [← inv]
        exact Nat.le_trans (Nat.le_self_pow he b') (Nat.le_mul_of_pos_left _ p2)) hz
      have fin : ∀ r1 : Nat, 0 < r1 → r1 * (b' * b') ^ (e' / 2) = b ^ e → ∀ b1 : Nat, (e' / 2 = 0 ∨ b1 = b' * b') → (0 < b1) → N [some (V.int b1), some (V.int ((e' / 2 : Nat) : Int)), some (V.int r1)] H' := fun r1 h1 h2 b1 h3 h4 => by
        refine hN _ _ ⟨b1, e' / 2, r1, rfl, rfl, h4, h1, ?_⟩ (by show ((e' / 2 : Nat) : Int).toNat < (e' : Int).toNat; omega)
        rcases h3 with h3 | rfl
        · rw [h3, Nat.pow_zero] at h2 ⊢
          exact h2
        · exact h2
      have fin2 : ∀ r1 : Nat, 0 < r1 → r1 * (b' * b') ^ (e' / 2) = b ^ e → ∃ k, TruV K (V.int ((e' : Int) / 2 ^ Int.toNat 1)) H' k ∧ if k = true then IntMulOk (b' : Int) (b' : Int) ∧ N [some (V.int ((b' : Int) * b')), some (V.int ((e' : Int) / 2 ^ Int.toNat 1)), some (V.int (r1 : Int))] H' else N [some (V.int (b' : Int)), some (V.int ((e' : Int) / 2 ^ Int.toNat 1)), some (V.int (r1 : Int))] H' := fun r1 h1 h2 => by
        have e2 : (e' : Int) / 2 ^ Int.toNat 1 = ((e' / 2 : Nat) : Int) := by
          show (e' : Int) / 2 = _
          omega
        rw [e2]
        refine ⟨_, rfl, ?_⟩
        rw [nz]
        by_cases c : e' / 2 = 0
        · rw [decide_eq_false (fun z => z c), if_neg (by decide)]
          exact fin r1 h1 h2 b' (.inl c) p1
        · rw [decide_eq_true c, if_pos rfl]
          refine ⟨mulN hb2 hb2, ?_⟩
          rw [← Int.natCast_mul]
          exact fin r1 h1 h2 (b' * b') (.inr rfl) (Nat.mul_pos p1 p1)
      rw [pow_step] at inv
      walk_at "rd"
      refine ⟨_, rfl, ?_⟩
      rw [PyProof.Rows.bitAnd_m1]
      have e2 : ((e' : Int) % 2 != 0) = decide (e' % 2 ≠ 0) := by
        have : (e' : Int) % 2 = ((e' % 2 : Nat) : Int) := by omega
        rw [this, nz]
      rw [e2]
      by_cases c : e' % 2 = 0
      · rw [decide_eq_false (fun z => z c), if_neg (by decide)]
        rw [if_neg (by omega), Nat.one_mul] at inv
        exact ⟨by decide, fin2 r p2 inv⟩
      · rw [decide_eq_true c, if_pos rfl]
        rw [if_pos (by omega), ← Nat.mul_assoc] at inv
        refine ⟨mulN hr2 hb2, by decide, ?_⟩
        rw [← Int.natCast_mul]
        exact fin2 (r * b') (Nat.mul_pos p2 p1) inv
    · have he : e' = 0 := by
        have := of_decide_eq_false hb
        omega
      subst he
      rw [Nat.pow_zero, Nat.mul_one] at inv
      walk_at "rd"
      rw [inv]
      exact q
end

section
variable {P : Program} {w : World} {K : PySem.W.Frag} {mg : Str → Option Value} {base : Heap} {CM : Addr}
/-! ### series, weights, indexes recognized -/
abbrev s__is_length : Stmt := top 10
theorem sc__is_length : FnScope ["value"] ["value"] (defScope s__is_length) := ⟨rfl, rfl, rfl, by decide +kernel, rfl, by decide +kernel, by decide +kernel⟩

def spLen : Sp := fun vs H Q _ => ∃ n : Int, vs = [.int n] ∧ Q (.bl (decide (1 ≤ n ∧ n ≤ 400))) H
theorem and2 {p q : Prop} [Decidable p] [Decidable q] : (decide p && decide q) = decide (p ∧ q) := by
  by_cases h : p <;> by_cases h' : q <;> simp [h, h']
theorem cal_len (D : Dn K mg "_is_length" s__is_length ["value"]) (B : Bl mg) (c_is_integer : Cal P w K mg base "is_integer" 1 ["value"] (spInt K)) : Cal P w K mg base "_is_length" 2 ["value"] spLen := by
  refine D.cal sc__is_length (fun vs H Q E h => ?_) (fun f cdv A outer s H vs Q E hr h => ?_)
  · obtain ⟨n, rfl, _⟩ := h
    rfl
  · obtain ⟨n, rfl, q⟩ := h
    refine ⟨_, (pss_one (ps_ret (pe_and (pe_cal c_is_integer (hr.mono (by decide)) rfl (pa_cons (pv 0) pa_nil)) (pe_one (pe_chain op_le op_le pe_int (pv 0) (pe_glob (v := .int 400) rfl B.c_LONGEST.choose_spec ⟨_, rfl⟩)))))), ?_⟩
    walk_at "rd"
    refine ⟨_, "int", rfl, .base (.int n), by decide, true, rfl, ?_⟩
    rw [if_pos rfl]
    rw [← and2] at q
    refine ite2 (fun c => ?_) (fun c => ?_)
    · rw [decide_eq_true c, Bool.true_and] at q
      exact q
    · rw [decide_eq_false c, Bool.false_and] at q
      exact q
abbrev s_is_series : Stmt := top 11
theorem sc_is_series : FnScope ["value"] ["value"] (defScope s_is_series) := ⟨rfl, rfl, rfl, by decide +kernel, rfl, by decide +kernel, by decide +kernel⟩

def serB (n : Nat) (ts : List String) : Bool := decide (1 ≤ n ∧ n ≤ 400) && ts.all (· == "int")
def spIsSer (K : PySem.W.Frag) : Sp := fun vs H Q _ => ∃ v : V, vs = [v] ∧ ((NoTup K H v ∧ Q (.bl false) H) ∨ ∃ (p : Addr) (xs : List V) (ts : List String), v = .ref p ∧ H p = some (.tup xs) ∧ Its K H xs ts ∧ xs.length < 1000 ∧ ∀ H', Same H H' → Q (.bl (serB xs.length ts)) H')
theorem cal_isser (D : Dn K mg "is_series" s_is_series ["value"]) (B : Bl mg) (c_is_row : Cal P w K mg base "is_row" 2 ["value", "n"] (spRow K)) (c__is_length : Cal P w K mg base "_is_length" 2 ["value"] spLen) : Cal P w K mg base "is_series" 3 ["value"] (spIsSer K) := by
  refine D.cal sc_is_series (fun vs H Q E h => ?_) (fun f cdv A outer s H vs Q E hr h => ?_)
  · obtain ⟨v, rfl, _⟩ := h
    rfl
  · obtain ⟨v, rfl, h⟩ := h
    refine ⟨_, (pss_one (ps_ret (pe_and (pe_callB call_isi rfl B.isinstance (by decide +kernel) (pa_cons (pv 0) (pa_cons (pe_bltn (v := .ty "tuple") rfl B.tuple boot_tuple rfl) pa_nil))) (pe_and (pe_cal c__is_length (hr.mono (by decide)) rfl (pa_cons (pe_callB cr_lenS rfl B.len (by decide +kernel) (pa_cons (pv 0) pa_nil)) pa_nil)) (pe_one (pe_cal c_is_row (hr.mono (by decide)) rfl (pa_cons (pv 0) (pa_cons (pe_callB cr_lenS rfl B.len (by decide +kernel) (pa_cons (pv 0) pa_nil)) pa_nil)))))))), ?_⟩
    walk_at "rd"
    rcases h with ⟨⟨T, ty, hT, hi⟩, q⟩ | ⟨p, xs, ts, rfl, hp, hI, hx, q⟩
    · refine isi_mk ty (kit_k hT (by simp)) ⟨false, ?_, ?_⟩
      · rw [hi, show ("tuple" == "int") = false by decide, Bool.and_false, Bool.or_false]
      rw [if_neg Bool.false_ne_true]
      exact q
    · refine isi_mk (.base (.tup hp)) (b := true) (by decide +kernel) ⟨true, rfl, ?_⟩
      rw [if_pos rfl]
      refine ⟨xs.length, .inr ⟨_, SqT.of hp, rfl⟩, ⟨_, rfl, ?_⟩⟩
      have q := q
      unfold serB at q
      refine ⟨_, rfl, ?_⟩
      have e0 : (decide (1 ≤ (xs.length : Int) ∧ (xs.length : Int) ≤ 400)) = decide (1 ≤ xs.length ∧ xs.length ≤ 400) := decide_eq_decide.mpr (by omega)
      rw [e0]
      refine ite2 (fun c => ?_) (fun c => ?_)
      · rw [c] at q
        refine ⟨xs.length, .inr ⟨_, SqT.of hp, rfl⟩, _, _, rfl, .inr ⟨p, xs, ts, rfl, hp, hI, hx, fun H' s => ?_⟩⟩
        rw [decide_eq_true rfl, Bool.true_and]
        have q' := q H' s
        rw [Bool.true_and] at q'
        exact q'
      · have c : decide (1 ≤ xs.length ∧ xs.length ≤ 400) = false := by simpa using c
        rw [c] at q
        exact q H (Same.refl H)
abbrev s_check_series : Stmt := top 12
theorem sc_check_series : FnScope ["f"] ["f"] (defScope s_check_series) := ⟨rfl, rfl, rfl, by decide +kernel, rfl, by decide +kernel, by decide +kernel⟩

/-- no series, or a series of ints -/
def BadS (K : PySem.W.Frag) (H : Hp) (v : V) : Prop := NoTup K H v ∨ ∃ (p : Addr) (xs : List V) (ts : List String), v = .ref p ∧ H p = some (.tup xs) ∧ Its K H xs ts ∧ xs.length < 1000 ∧ serB xs.length ts = false
def spChkS (K : PySem.W.Frag) (CM : Addr) : Sp := fun vs H Q E => ∃ v : V, vs = [v] ∧ ((BadS K H v ∧ ∀ H', Same H H' → E (.ref CM) none H') ∨ ∃ (p : Addr) (ns : List Int), v = .ref p ∧ H p = some (.tup (ns.map V.int)) ∧ 1 ≤ ns.length ∧ ns.length ≤ 400 ∧ ∀ H', Same H H' → Q .non H')
theorem its_ints {H : Hp} (ns : List Int) : Its K H (ns.map V.int) (ns.map fun _ => "int") := by
  refine ⟨by rw [List.length_map, List.length_map], fun i x t hx ht => ?_⟩
  rw [List.getElem?_map] at hx ht
  obtain ⟨n, hn, rfl⟩ := Option.map_eq_some_iff.mp hx
  rw [hn] at ht
  cases ht
  exact ⟨fun H' _ => .base (.int n), show "int" ∈ kinds by decide⟩
theorem all_ints (ns : List Int) : (ns.map fun _ => "int").all (· == "int") = true := by
  rw [List.all_map, List.all_eq_true]
  intro x _
  rfl
theorem cal_chks (D : Dn K mg "check_series" s_check_series ["f"]) (B : Bl mg) (c_is_series : Cal P w K mg base "is_series" 3 ["value"] (spIsSer K)) (e_E : ErrO K mg CM) : CalX P w K mg base "check_series" 4 ["f"] (spChkS K CM) := by
  refine D.calX sc_check_series (fun vs H Q E h => ?_) (fun f cdv A outer s H vs Q E hr h => ?_)
  · obtain ⟨v, rfl, _⟩ := h
    rfl
  · obtain ⟨v, rfl, h⟩ := h
    refine ⟨_, (pss_one (ps_if (pt_not (pt_val (pe_cal c_is_series (hr.mono (by decide)) rfl (pa_cons (pv 0) pa_nil)))) (pss_one (ps_mal e_E.m rfl (takes_of rfl rfl rfl rfl) rfl)) pss_nil)), ?_⟩
    walk_at "rd"
    rcases h with ⟨hn | ⟨p, xs, ts, rfl, hp, hI, hx, hb⟩, e⟩ | ⟨p, ns, rfl, hp, h1, h4, q⟩
    · exact ⟨v, rfl, .inl ⟨hn, _, rfl, e _ (Same.refl H)⟩⟩
    · refine ⟨_, rfl, .inr ⟨p, xs, ts, rfl, hp, hI, hx, fun H' s => ⟨_, rfl, ?_⟩⟩⟩
      rw [hb]
      exact e _ s
    · refine ⟨_, rfl, .inr ⟨p, _, _, rfl, hp, its_ints ns, by rw [List.length_map]; omega, fun H' s => ⟨_, rfl, ?_⟩⟩⟩
      have e1 : serB (ns.map V.int).length (ns.map fun _ => "int") = true := by
        unfold serB
        rw [all_ints, List.length_map, decide_eq_true ⟨h1, h4⟩]
        rfl
      rw [e1]
      exact q _ s
/-- no int with the property -/
def BadI (K : PySem.W.Frag) (ok : Int → Bool) (H : Hp) (v : V) : Prop := (∃ T, TyX K H v (.type T) ∧ T ∈ kinds ∧ (T == "int") = false) ∨ ∃ n : Int, v = .int n ∧ ok n = false
def spChkI (K : PySem.W.Frag) (CM : Addr) (ok : Int → Bool) : Sp := fun vs H Q E => ∃ v : V, vs = [v] ∧ ((BadI K ok H v ∧ E (.ref CM) none H) ∨ ∃ n : Int, v = .int n ∧ ok n = true ∧ Q .non H)
abbrev s_check_weight : Stmt := top 16
theorem sc_check_weight : FnScope ["k"] ["k"] (defScope s_check_weight) := ⟨rfl, rfl, rfl, by decide +kernel, rfl, by decide +kernel, by decide +kernel⟩

def okW (k : Int) : Bool := decide (k % 2 = 0 ∧ 4 ≤ k ∧ k ≤ 100)
theorem cal_chkw (D : Dn K mg "check_weight" s_check_weight ["k"]) (B : Bl mg) (c_is_integer : Cal P w K mg base "is_integer" 1 ["value"] (spInt K)) (e_E : ErrO K mg CM) : CalX P w K mg base "check_weight" 2 ["k"] (spChkI K CM okW) := by
  refine D.calX sc_check_weight (fun vs H Q E h => ?_) (fun f cdv A outer s H vs Q E hr h => ?_)
  · obtain ⟨v, rfl, _⟩ := h
    rfl
  · obtain ⟨v, rfl, h⟩ := h
    refine ⟨_, (pss_one (ps_if (PW.pt (pw_or (pt_not (pt_val (pe_cal c_is_integer (hr.mono (by decide)) rfl (pa_cons (pv 0) pa_nil)))) (pw_or (pt_truth (pe_op op_mod (pv 0) pe_int) (by intro _; rfl)) (pw_or1 (pt_not (pt_chain op_le op_le (pe_glob (v := .int 4) rfl B.c_LEAST_WEIGHT.choose_spec ⟨_, rfl⟩) (pv 0) (pe_glob (v := .int 100) rfl B.c_GREATEST_WEIGHT.choose_spec ⟨_, rfl⟩))))))) (pss_one (ps_mal e_E.m rfl (takes_of rfl rfl rfl rfl) rfl)) pss_nil)), ?_⟩
    walk_at "rd"
    rcases h with ⟨⟨T, ty, hT, hi⟩ | ⟨n, rfl, ho⟩, e⟩ | ⟨n, rfl, ho, q⟩
    · exact ⟨v, T, rfl, ty, hT, _, rfl, by rw [hi]; exact e⟩
    · unfold okW at ho
      have ho := of_decide_eq_false ho
      refine ⟨_, "int", rfl, .base (.int n), by decide, true, rfl, ?_⟩
      rw [if_neg (by decide)]
      refine ⟨n, rfl, by decide, _, rfl, ite2 (fun c => e) (fun c => ⟨n, rfl, ite2 (fun c4 => ⟨n, rfl, ite2 (fun c5 => absurd ⟨?_, c4, c5⟩ ho) (fun _ => e)⟩) (fun _ => e)⟩)⟩
      simpa using c
    · unfold okW at ho
      obtain ⟨h1, h2, h3⟩ := of_decide_eq_true ho
      refine ⟨_, "int", rfl, .base (.int n), by decide, true, rfl, ?_⟩
      rw [if_neg (by decide)]
      refine ⟨n, rfl, by decide, _, rfl, ?_⟩
      rw [h1, if_neg (by decide)]
      refine ⟨n, rfl, ?_⟩
      rw [if_pos h2]
      refine ⟨n, rfl, ?_⟩
      rw [if_pos h3]
      exact q
abbrev s_check_index : Stmt := top 19
theorem sc_check_index : FnScope ["n"] ["n"] (defScope s_check_index) := ⟨rfl, rfl, rfl, by decide +kernel, rfl, by decide +kernel, by decide +kernel⟩

def okN (n : Int) : Bool := decide (1 ≤ n ∧ n ≤ 400)
theorem cal_chkn (D : Dn K mg "check_index" s_check_index ["n"]) (B : Bl mg) (c_is_integer : Cal P w K mg base "is_integer" 1 ["value"] (spInt K)) (e_E : ErrO K mg CM) : CalX P w K mg base "check_index" 2 ["n"] (spChkI K CM okN) := by
  refine D.calX sc_check_index (fun vs H Q E h => ?_) (fun f cdv A outer s H vs Q E hr h => ?_)
  · obtain ⟨v, rfl, _⟩ := h
    rfl
  · obtain ⟨v, rfl, h⟩ := h
    refine ⟨_, (pss_one (ps_if (PW.pt (pw_or (pt_not (pt_val (pe_cal c_is_integer (hr.mono (by decide)) rfl (pa_cons (pv 0) pa_nil)))) (pw_or1 (pt_not (pt_chain op_le op_le pe_int (pv 0) (pe_glob (v := .int 400) rfl B.c_LARGEST_INDEX.choose_spec ⟨_, rfl⟩)))))) (pss_one (ps_mal e_E.m rfl (takes_of rfl rfl rfl rfl) rfl)) pss_nil)), ?_⟩
    walk_at "rd"
    rcases h with ⟨⟨T, ty, hT, hi⟩ | ⟨n, rfl, ho⟩, e⟩ | ⟨n, rfl, ho, q⟩
    · exact ⟨v, T, rfl, ty, hT, _, rfl, by rw [hi]; exact e⟩
    · unfold okN at ho
      have ho := of_decide_eq_false ho
      refine ⟨_, "int", rfl, .base (.int n), by decide, true, rfl, ?_⟩
      rw [if_neg (by decide)]
      exact ⟨n, rfl, ite2 (fun c4 => ⟨n, rfl, ite2 (fun c5 => absurd ⟨c4, c5⟩ ho) (fun _ => e)⟩) (fun _ => e)⟩
    · unfold okN at ho
      obtain ⟨h2, h3⟩ := of_decide_eq_true ho
      refine ⟨_, "int", rfl, .base (.int n), by decide, true, rfl, ?_⟩
      rw [if_neg (by decide)]
      refine ⟨n, rfl, ?_⟩
      rw [if_pos h2]
      refine ⟨n, rfl, ?_⟩
      rw [if_pos h3]
      exact q
end

section
variable {P : Program} {w : World} {K : PySem.W.Frag} {mg : Str → Option Value} {base : Heap} {CM : Addr}
/-! ### T_n of a series -/
/-- the divisors of n, ascending -/
def dv (n : Nat) : List Nat := ((List.range n).map (· + 1)).filter fun c => n % c = 0
abbrev pw (c e : Nat) : Int := ((c ^ e : Nat) : Int)
/-- the item m of T_n, of the items F, with the exponent e -/
def opI (F : Nat → Int) (n e m : Nat) : Int := (((dv n).filter fun c => m % c = 0).map fun c => pw c e * F (m * n / (c * c))).sum
def opL (F : Nat → Int) (n e size : Nat) : List Int := (List.range size).map (opI F n e)
def Sz (n : Nat) (x : Int) : Prop := x.natAbs < 2 ^ n
theorem Sz.mul {m n : Nat} {x y : Int} (h : Sz m x) (h' : Sz n y) : Sz (m + n) (x * y) := by
  unfold Sz at *
  rw [Int.natAbs_mul, Nat.pow_add]
  exact Nat.mul_lt_mul'' h h'
theorem Sz.add {m : Nat} {x y : Int} (h : Sz m x) (h' : Sz m y) : Sz (m + 1) (x + y) := by
  unfold Sz at *
  rw [Nat.pow_succ]
  omega
theorem Sz.le {m n : Nat} {x : Int} (h : Sz m x) (hmn : m ≤ n) : Sz n x := Nat.lt_of_lt_of_le h (Nat.pow_le_pow_right (by decide) hmn)
theorem Sz.ok {m n : Nat} {x y : Int} (h : Sz m x) (h' : Sz n y) (hm : m ≤ 9000) (hn : n ≤ 9000) : IntMulOk x y :=
  (wide_mul (a := 9000) (b := 9000) (h.le hm) (h'.le hn) (by decide) (by decide) (by decide)).ok
theorem mem_dv {n c : Nat} : c ∈ dv n ↔ 0 < c ∧ c ≤ n ∧ n % c = 0 := by
  unfold dv
  rw [List.mem_filter, List.mem_map]
  simp only [List.mem_range, decide_eq_true_eq]
  constructor
  · rintro ⟨⟨k, hk, rfl⟩, h⟩
    exact ⟨by omega, by omega, h⟩
  · rintro ⟨h0, h1, h2⟩
    exact ⟨⟨c - 1, by omega, by omega⟩, h2⟩
theorem pow_sz {c e : Nat} (hc : c ≤ 400) (he : e ≤ 99) : c ^ e < 2 ^ 900 := by
  have a : c ^ e ≤ 512 ^ e := Nat.pow_le_pow_left (by omega) e
  have b : 512 ^ e ≤ 512 ^ 99 := Nat.pow_le_pow_right (by decide) he
  have d : 512 ^ 99 < 2 ^ 900 := by decide +kernel
  omega
/-- the index is within -/
theorem ix_le {m n c l : Nat} (hm : m ≤ (l - 1) / n) (hc : 0 < c) (hl : 0 < l) : m * n / (c * c) < l := by
  have h : m * n ≤ l - 1 := Nat.le_trans (Nat.mul_le_mul_right n hm) (Nat.div_mul_le_self _ _)
  have := Nat.div_le_self (m * n) (c * c)
  omega
def dvi (n i : Nat) : List Nat := ((List.range i).map (· + 1)).filter fun c => n % c = 0
theorem dvi_succ (n i : Nat) : dvi n (i + 1) = if n % (i + 1) = 0 then dvi n i ++ [i + 1] else dvi n i := by
  unfold dvi
  rw [List.range_succ, List.map_append, List.filter_append]
  show _ ++ List.filter _ [i + 1] = _
  rw [List.filter_cons, List.filter_nil]
  by_cases h : n % (i + 1) = 0
  · rw [if_pos h, if_pos (decide_eq_true h)]
  · rw [if_neg h, if_neg (fun z => h (of_decide_eq_true z)), List.append_nil]
theorem dvi_len (n i : Nat) : (dvi n i).length ≤ i := by
  unfold dvi
  have := List.length_filter_le (fun c => decide (n % c = 0)) ((List.range i).map (· + 1))
  rw [List.length_map, List.length_range] at this
  exact this
def prs (e : Nat) (l : List Nat) : List (List Int) := l.map fun c : Nat => [(c : Int), pw c e]
theorem prs_snoc (e : Nat) (l : List Nat) (c : Nat) : prs e (l ++ [c]) = prs e l ++ [[(c : Int), pw c e]] := by
  unfold prs
  rw [List.map_append]
  rfl
abbrev s__told_items : Stmt := top 20
theorem sc__told_items : FnScope ["f", "n", "k", "size", "parts", "items", "m", "c", "factor"] ["f", "n", "k", "size"] (defScope s__told_items) := ⟨rfl, rfl, rfl, by decide +kernel, rfl, by decide +kernel, by decide +kernel⟩

def spTI : Sp := fun vs H Q _ => ∃ (p : Addr) (ns : List Int) (n k size : Nat), vs = [.ref p, .int n, .int k, .int size] ∧ H p = some (.tup (ns.map V.int)) ∧ 1 ≤ n ∧ n ≤ 400 ∧ 1 ≤ k ∧ k ≤ 100 ∧ size ≤ 400 ∧ 0 < ns.length ∧ size ≤ (ns.length - 1) / n + 1 ∧ (∀ x ∈ ns, Sz 3000 x) ∧
  ∀ p' H', Same H H' → H p' = none → H' p' = some (.tup ((opL (ns.getD · 0) n (k - 1) size).map V.int)) → Q (.ref p') H'
theorem cal_ti (D : Dn K mg "_told_items" s__told_items ["f", "n", "k", "size"]) (B : Bl mg) (c_raised : Cal P w K mg base "raised" 1 ["b", "e"] spRaised) : Cal P w K mg base "_told_items" 2 ["f", "n", "k", "size"] spTI := by
  refine D.cal sc__told_items (fun vs H Q E h => ?_) (fun f cdv A outer s H vs Q E hr h => ?_)
  · obtain ⟨p, ns, n, k, size, rfl, _⟩ := h
    rfl
  · obtain ⟨p, ns, n, k, size, rfl, hp, n1, n4, k1, k4, z4, l0, zl, sz, q⟩ := h
    refine ⟨_, (pss_cons (ps_setLc (i := 4) (own := [("c", 7)]) rfl sc__told_items.nd rfl rfl (sw_true rfl rfl rfl (by decide +kernel)) (pi_range2 rfl B.range (pa_cons pe_int (pa_cons (pe_op op_add (pv 1) pe_int) pa_nil))) (blkOk_by (N := ["f", "n", "k", "size", "parts", "items", "m", "c", "factor"]) (sc := defScope s__told_items) (own := [("c", 7)]) (by decide +kernel)) (fun _ _ _ _ _ => (pg_name (i := 7) sc__told_items.nd rfl (Or.inl rfl))) (fun _ _ _ _ _ => (pts_one (pt_cmpR op_eq (pe_op op_mod (pv 1) (pv 7)) pe_int (nomark _)))) (fun _ _ _ _ _ => (pe_tup (pa_cons (pv 7) (pa_cons (pe_cal c_raised (hr.mono (by decide)) rfl (pa_cons (pv 7) (pa_cons (pe_op op_sub (pv 2) pe_int) pa_nil))) pa_nil)))))
  (pss_cons (ps_set (i := 5) sc__told_items.nd rfl (Or.inl rfl) (pe_lst pa_nil))
  (pss_cons (ps_for PassesOwn.never rfl (pi_range1 rfl B.range (pa_cons (pv 3) pa_nil)) (pg_name (i := 6) sc__told_items.nd rfl (Or.inr rfl)) (pss_one (ps_expr (pe_bm PySem.F.plainAttrs_list PySem.F.slot_list_append PySem.F.type_list_append mt_append (pv 5) (pa_cons (pe_callB (cr_sum rfl) rfl B.sum (by decide +kernel) (pa_cons (pe_lc (own := [("c", 7), ("factor", 8)]) rfl sc__told_items.nd (pi_list (pv 4)) (blkOk_by (N := ["f", "n", "k", "size", "parts", "items", "m", "c", "factor"]) (sc := defScope s__told_items) (own := [("c", 7), ("factor", 8)]) (by decide +kernel)) (fun _ _ _ _ _ => (pg_tupK (K := K) (n := 2) rfl rfl (pgs_cons (pg_name (i := 7) sc__told_items.nd rfl (Or.inl rfl)) (pgs_cons (pg_name (i := 8) sc__told_items.nd rfl (Or.inl rfl)) pgs_nil)) rfl rfl)) (fun _ _ _ _ _ => (pts_one (pt_cmpR op_eq (pe_op op_mod (pv 6) (pv 7)) pe_int (nomark _)))) (fun _ _ _ _ _ => (pe_op op_mulI (pv 8) (pe_ix (ix_tupK (K := K) rfl) (pv 0) (pe_op op_fdivW (pe_op op_mulI (pv 6) (pv 1)) (pe_op op_mulI (pv 7) (pv 7))) (fun _ _ => rfl))))) pa_nil)) pa_nil)))))
  (pss_one (ps_ret (pe_callTy cr_tupOf rfl B.tuple boot_tuple (pa_cons (pv 5) pa_nil))))))), ?_⟩
    rw [CB.rd_seq]
    walk_at "rs"
    refine ⟨by decide, by decide, by omega, by omega, ?_⟩
    rw [show ((n : Int) + 1 - 1).toNat = n by omega]
    refine LcR.i (fun i zs H1 => Same H H1 ∧ RowsAt H1 zs (prs (k - 1) (dvi n i)) ∧ i ≤ n) (fun i zs H1 D l l' h nD hD => ⟨same_updD h.1 nD, h.2.1.updL hD, h.2.2⟩) (fun H1 s => ⟨s, RowsAt.nil, Nat.zero_le _⟩) (fun i zs H1 h => ?_) (fun i hi zs H1 h M S hM hS => ?_) (fun D zs H1 nD h hD => ?_)
    · have := h.2.1.1
      rw [this, prs, List.length_map]
      have := dvi_len n i
      exact small_size (by omega)
    · obtain ⟨s1, hr1, _⟩ := h
      walk_at "rs"
      have e1 : (1 + (i : Int)) = ((i + 1 : Nat) : Int) := by omega
      rw [e1]
      refine ⟨by omega, ite2 (fun c => ?_) (fun c => ?_)⟩
      · have c' : n % (i + 1) = 0 := by exact_mod_cast c
        refine ⟨i + 1, k - 1, ?_, by omega, ?_, by decide, fun p1 np1 => hM _ _ (.same (same_upd np1)) ⟨s1.trans (same_upd np1), ?_, by omega⟩⟩
        · rw [show (((k - 1 : Nat) : Int)) = (k : Int) - 1 by omega]
        · have := pow_sz (c := i + 1) (e := k - 1) (by omega) (by omega)
          exact Nat.lt_of_lt_of_le this (Nat.pow_le_pow_right (by decide) (by decide))
        · rw [dvi_succ, if_pos c', prs_snoc]
          exact (hr1.same (same_upd np1)).snoc upd_same
      · have c' : ¬ n % (i + 1) = 0 := fun z => c (by exact_mod_cast z)
        exact hS _ Kn.refl ⟨s1, by rw [dvi_succ, if_neg c']; exact hr1, by omega⟩
    · obtain ⟨s1, hr1, _⟩ := h
      rw [show dvi n n = dv n from rfl] at hr1
      show tSeq _ _ _ _ _
      rw [CB.rd_seq]
      walk_at "rs"
      refine ⟨by decide, fun it nit => ?_⟩
      have dit : D ≠ it := ne_of_none hD nit
      have s2 := same_upd (o := HO.lst []) nit
      have hit : (upd H1 it (.lst [])) it = some (.lst []) := upd_same
      have hD := s2 _ _ hD
      have hr1 := hr1.same s2
      have nitH : H it = none := s1.free nit
      have s3 := s1.trans s2
      generalize upd H1 it (.lst []) = H2 at *
      rw [CB.rd_seq]
      walk_at "rs"
      refine ⟨by omega, by omega, ?_⟩
      rw [Int.toNat_natCast]
      refine ForR.w (fun i σ H3 => ∃ s6 s7 s8, σ = [some (.ref p), some (.int n), some (.int k), some (.int size), some (.ref D), some (.ref it), s6, s7, s8] ∧ Same H H3 ∧ H3 it = some (.lst ((opL (ns.getD · 0) n (k - 1) i).map V.int)) ∧ H3 D = some (.lst zs) ∧ RowsAt H3 zs (prs (k - 1) (dv n)) ∧ i ≤ size)
        ⟨_, _, _, rfl, s3, hit, hD, hr1, Nat.zero_le _⟩ ?_ ?_
      · rintro m σ H3 hm ⟨s6, s7, s8, rfl, sm, h3, hD3, hr3, _⟩ N hN
        walk_at "rs"
        refine ⟨tyL h3, ⟨_, SqL.of hD3⟩, LcL.p (xs := zs) (fun j => (dv n)[j]?.bind fun c => if decide (m % c = 0) = true then some (V.int (pw c (k - 1) * ns.getD (m * n / (c * c)) 0)) else none) ?_ (fun H4 s4 => SqL.of (s4 _ _ hD3)) ?_ ?_⟩
        · have e1 := hr3.1
          rw [prs, List.length_map] at e1
          have := dvi_len n n
          rw [show dvi n n = dv n from rfl] at this
          omega
        · intro j x hx H4 s4 M S hM hS
          obtain ⟨pr, row, rfl, hrow, hpr⟩ := hr3.get hx
          rw [prs, List.getElem?_map] at hrow
          obtain ⟨c, hc, rfl⟩ := Option.map_eq_some_iff.mp hrow
          rw [hc] at hM hS
          have hcm := mem_dv.mp (List.mem_of_getElem? hc)
          walk_at "rs"
          have e1 : (0 + (m : Int)) = (m : Int) := by omega
          rw [e1]
          have ixl : m * n / (c * c) < ns.length := ix_le (by omega) hcm.1 l0
          have zc : Sz 900 (pw c (k - 1)) := by
            have := pow_sz (c := c) (e := k - 1) (by omega) (by omega)
            unfold Sz pw
            rw [Int.natAbs_natCast]
            exact this
          have sm9 : ∀ x : Nat, x ≤ 400 → Sz 20 (x : Int) := fun x hx => by
            unfold Sz
            rw [Int.natAbs_natCast]
            exact Nat.lt_of_le_of_lt hx (by decide)
          refine ⟨_, SqT.of (s4 _ _ hpr), rfl, _, _, rfl, _, _, rfl, rfl, ?_⟩
          walk_at "rs"
          refine ⟨by omega, ite2 (fun c1 => ?_) (fun c1 => ?_)⟩
          · have c' : m % c = 0 := by exact_mod_cast c1
            have c0 : (0 : Int) < (c : Int) * c := Int.mul_pos (by omega) (by omega)
            refine ⟨(sm9 m (by omega)).ok (sm9 n (by omega)) (by decide) (by decide), (sm9 c (by omega)).ok (sm9 c (by omega)) (by decide) (by decide), ⟨c0, ?_⟩, _, SqT.of (s4 _ _ (sm _ _ hp)), V.int (ns.getD (m * n / (c * c)) 0), ?_, _, rfl, zc.ok (sz _ ?_) (by decide) (by decide), hM _ _ ?_ (Same.refl _)⟩
            · exact Nat.lt_of_lt_of_le (Nat.log2_lt (by omega) |>.mpr (show ((c : Int) * c).natAbs < 2 ^ 40 from ((sm9 c (by omega)).mul (sm9 c (by omega))))) (by decide)
            · rw [show ((m : Int) * n / ((c : Int) * c)) = ((m * n / (c * c) : Nat) : Int) by simp]
              refine atI_nat ?_
              rw [List.getElem?_map, List.getElem?_eq_getElem ixl, List.getD_eq_getElem?_getD, List.getElem?_eq_getElem ixl]
              rfl
            · rw [List.getD_eq_getElem?_getD, List.getElem?_eq_getElem ixl]
              exact List.getElem_mem ixl
            · show (if decide (m % c = 0) = true then _ else _) = _
              rw [if_pos (decide_eq_true c')]
          · have c' : ¬ m % c = 0 := fun z => c1 (by exact_mod_cast z)
            refine hS _ ?_ (Same.refl _)
            show (if decide (m % c = 0) = true then _ else _) = _
            rw [if_neg (fun z => c' (of_decide_eq_true z))]
        · intro D2 H4 nD2 s4 h4
          refine ⟨D2, rfl, ((dv n).filter fun c => decide (m % c = 0)).map (fun c => pw c (k - 1) * ns.getD (m * n / (c * c)) 0), ?_, _, s4 _ _ h3, ?_, hN _ _ ⟨_, _, _, rfl, ?_, ?_, ?_, ?_, by omega⟩⟩
          · have e1 : zs.length = (dv n).length := by rw [hr3.1, prs, List.length_map]
            rw [e1, fm_get, fm_ite] at h4
            rw [List.map_map]
            exact SqL.of h4
          · rw [List.length_map, opL, List.length_map, List.length_range]
            exact small_size (by omega)
          · exact same_updD (sm.trans s4) nitH
          · rw [upd_same, opL, opL, List.range_succ, List.map_append, List.map_append]
            rfl
          · rw [upd_ne dit]
            exact s4 _ _ hD3
          · exact (hr3.same s4).updL (s4 _ _ h3)
      · rintro σ H3 ⟨s6, s7, s8, rfl, sm, h3, _, _, _⟩
        walk_at "rs"
        refine ⟨_, .inl ⟨SqL.of h3, fun p' np' => q p' _ (sm.trans (same_upd np')) (sm.free np') upd_same⟩⟩
end

section
variable {P : Program} {w : World} {K : PySem.W.Frag} {mg : Str → Option Value} {base : Heap} {CM : Addr}
def KdS (K : PySem.W.Frag) (H : Hp) (v : V) (T : String) : Prop := (∀ H', Same H H' → TyX K H' v (.type T)) ∧ T ∈ kinds
def BadIs (K : PySem.W.Frag) (ok : Int → Bool) (H : Hp) (v : V) : Prop := (∃ T, KdS K H v T ∧ (T == "int") = false) ∨ ∃ n : Int, v = .int n ∧ ok n = false
theorem BadIs.at {ok : Int → Bool} {H H' : Hp} {v : V} (h : BadIs K ok H v) (s : Same H H') : BadI K ok H' v := by
  rcases h with ⟨T, ⟨h1, h2⟩, h3⟩ | h
  · exact .inl ⟨T, h1 _ s, h2, h3⟩
  · exact .inr h
abbrev s_operated : Stmt := top 21
theorem sc_operated : FnScope ["f", "n", "k"] ["f", "n", "k"] (defScope s_operated) := ⟨rfl, rfl, rfl, by decide +kernel, rfl, by decide +kernel, by decide +kernel⟩

def opF (ns : List Int) (n k : Nat) : List Int := opL (ns.getD · 0) n (k - 1) ((ns.length - 1) / n + 1)
def spOper (K : PySem.W.Frag) (CM : Addr) : Sp := fun vs H Q E => ∃ v x u : V, vs = [v, x, u] ∧ ((BadS K H v ∧ ∀ H', Same H H' → E (.ref CM) none H') ∨ ∃ (p : Addr) (ns : List Int), v = .ref p ∧ H p = some (.tup (ns.map V.int)) ∧ 1 ≤ ns.length ∧ ns.length ≤ 400 ∧
  ((BadIs K okN H x ∧ ∀ H', Same H H' → E (.ref CM) none H') ∨ ∃ n : Nat, x = .int n ∧ 1 ≤ n ∧ n ≤ 400 ∧ ((BadIs K okW H u ∧ ∀ H', Same H H' → E (.ref CM) none H') ∨ ∃ k : Nat, u = .int k ∧ okW k = true ∧ (∀ y ∈ ns, Sz 3000 y) ∧
  ∀ p' H', Same H H' → H p' = none → H' p' = some (.tup ((opF ns n k).map V.int)) → Q (.ref p') H')))
theorem cal_oper (D : Dn K mg "operated" s_operated ["f", "n", "k"]) (B : Bl mg) (c_check_series : CalX P w K mg base "check_series" 4 ["f"] (spChkS K CM)) (c_check_index : CalX P w K mg base "check_index" 2 ["n"] (spChkI K CM okN)) (c_check_weight : CalX P w K mg base "check_weight" 2 ["k"] (spChkI K CM okW))
    (c__told_items : Cal P w K mg base "_told_items" 2 ["f", "n", "k", "size"] spTI) : CalX P w K mg base "operated" 5 ["f", "n", "k"] (spOper K CM) := by
  refine D.calX sc_operated (fun vs H Q E h => ?_) (fun f cdv A outer s H vs Q E hr h => ?_)
  · obtain ⟨v, x, u, rfl, _⟩ := h
    rfl
  · obtain ⟨v, x, u, rfl, h⟩ := h
    refine ⟨_, (pss_cons (ps_expr (pe_calS c_check_series (takes_of rfl rfl rfl rfl) (hr.mono (by decide)) rfl (pa_cons (pv 0) pa_nil)))
  (pss_cons (ps_expr (pe_calS c_check_index (takes_of rfl rfl rfl rfl) (hr.mono (by decide)) rfl (pa_cons (pv 1) pa_nil)))
  (pss_cons (ps_expr (pe_calS c_check_weight (takes_of rfl rfl rfl rfl) (hr.mono (by decide)) rfl (pa_cons (pv 2) pa_nil)))
  (pss_one (ps_ret (pe_cal c__told_items (hr.mono (by decide)) rfl (pa_cons (pv 0) (pa_cons (pv 1) (pa_cons (pv 2) (pa_cons (pe_op op_add (pe_op op_fdivW (pe_op op_sub (pe_callB cr_lenS rfl B.len (by decide +kernel) (pa_cons (pv 0) pa_nil)) pe_int) (pv 1)) pe_int) pa_nil)))))))))), ?_⟩
    walk_at "nx"
    rcases h with ⟨hb, e⟩ | ⟨p, ns, rfl, hp, l1, l4, h⟩
    · exact ⟨v, rfl, .inl ⟨hb, e⟩⟩
    refine ⟨_, rfl, .inr ⟨p, ns, rfl, hp, l1, l4, fun H1 s1 => ?_⟩⟩
    walk_at "nx"
    rcases h with ⟨hb, e⟩ | ⟨n, rfl, n1, n4, h⟩
    · exact ⟨x, rfl, .inl ⟨hb.at s1, e _ s1⟩⟩
    refine ⟨_, rfl, .inr ⟨n, rfl, decide_eq_true (by omega), ?_⟩⟩
    walk_at "nx"
    rcases h with ⟨hb, e⟩ | ⟨k, rfl, hk, sz, q⟩
    · exact ⟨u, rfl, .inl ⟨hb.at s1, e _ s1⟩⟩
    refine ⟨_, rfl, .inr ⟨k, rfl, hk, ?_⟩⟩
    have hk := of_decide_eq_true hk
    have hp1 := s1 _ _ hp
    have hz : (ns.length - 1) / n ≤ ns.length - 1 := Nat.div_le_self _ _
    refine ⟨ns.length, .inr ⟨_, SqT.of hp1, by rw [List.length_map]⟩, ⟨by omega, lg_int (by omega)⟩, p, ns, n, k, (ns.length - 1) / n + 1, ?_, hp1, n1, n4, by omega, by omega, by omega, by omega, Nat.le_refl _, sz, fun p' H' s np h' => q p' H' (s1.trans s) (s1.free np) h'⟩
    rw [show (((ns.length - 1) / n + 1 : Nat) : Int) = ((ns.length : Int) - 1) / n + 1 by rw [Int.natCast_add, Int.natCast_ediv, Int.natCast_sub l1]; rfl]
end

section
variable {P : Program} {w : World} {K : PySem.W.Frag} {mg : Str → Option Value} {base : Heap} {CM CR : Addr}
abbrev s__law_no_word : Stmt := top 23
theorem sc__law_no_word : FnScope ["value"] ["value"] (defScope s__law_no_word) := ⟨rfl, rfl, rfl, by decide +kernel, rfl, by decide +kernel, by decide +kernel⟩

def spNoWord (K : PySem.W.Frag) : Sp := fun vs H Q _ => ∃ (v : V) (T : String), vs = [v] ∧ TyX K H v (.type T) ∧ T ∈ kinds ∧ (T == "str") = false ∧ Q v H
theorem cal_no_word (D : Dn K mg "_law_no_word" s__law_no_word ["value"]) (B : Bl mg) : Cal P w K mg base "_law_no_word" 1 ["value"] (spNoWord K) := by
  refine D.cal sc__law_no_word (fun vs H Q E h => ?_) (fun f cdv A outer s H vs Q E hr h => ?_)
  · obtain ⟨v, T, rfl, _⟩ := h
    rfl
  · obtain ⟨v, T, rfl, ty, hT, hs, q⟩ := h
    refine ⟨_, (pss_one (ps_ret (pe_ifExp (pt_val (pe_callB call_isi rfl B.isinstance (by decide +kernel) (pa_cons (pv 0) (pa_cons (pe_bltn (v := .ty "str") rfl B.str boot_str rfl) pa_nil)))) pe_str (pv 0)))), ?_⟩
    walk_at "rd"
    refine isi_mk ty (kit_k hT (by simp)) ⟨false, ?_, ?_⟩
    · rw [hs, show ("str" == "int") = false by decide, Bool.and_false, Bool.or_false]
    rw [if_neg Bool.false_ne_true]
    exact q
end
section
variable {P : Program} {w : World} {K : PySem.W.Frag} {mg : Str → Option Value} {base : Heap} {CM CR : Addr}
/-! ### the law's divisors, contents, discriminants -/
end
section
variable {P : Program} {w : World} {K : PySem.W.Frag} {mg : Str → Option Value} {base : Heap} {CM CR : Addr}
end

section
variable {P : Program} {w : World} {K : PySem.W.Frag} {mg : Str → Option Value} {base : Heap} {CM : Addr}
abbrev s__law_odd : Stmt := top 24
theorem sc__law_odd : FnScope ["value", "item"] ["value"] (defScope s__law_odd) := ⟨rfl, rfl, rfl, by decide +kernel, rfl, by decide +kernel, by decide +kernel⟩

theorem kit_tl {T : String} (hT : T ∈ kinds) : kitB T "tuple" = some (T == "tuple") ∧ kitB T "list" = some (T == "list") := by
  unfold kinds at hT
  simp only [List.mem_cons, List.not_mem_nil, or_false] at hT
  rcases hT with rfl | rfl | rfl | rfl | rfl | rfl <;> decide +kernel
theorem cal_oddN (D : Dn K mg "_law_odd" s__law_odd ["value"]) : Cal P w K mg base "_law_odd" 1 ["value"] spNev := by
  exact D.never sc__law_odd
def spOdd0 : Sp := fun vs H Q _ => ∃ n : Int, vs = [.int n] ∧ ∀ H', Same H H' → Q (.bl false) H'
theorem cal_odd0 (D : Dn K mg "_law_odd" s__law_odd ["value"]) (B : Bl mg) (c__law_odd : Cal P w K mg base "_law_odd" 1 ["value"] spNev) : Cal P w K mg base "_law_odd" 2 ["value"] spOdd0 := by
  refine D.cal sc__law_odd (fun vs H Q E h => ?_) (fun f cdv A outer s H vs Q E hr h => ?_)
  · obtain ⟨n, rfl, _⟩ := h
    rfl
  · obtain ⟨n, rfl, q⟩ := h
    refine ⟨_, (pss_cons (ps_if (pt_cmpR (op_eqD hr.units) (pv 0) pe_str (nomark _)) (pss_one (ps_ret pe_bl)) pss_nil)
  (pss_one (ps_ret (pe_and (pe_callB call_isiT rfl B.isinstance (by decide +kernel) (pa_cons (pv 0) (pa_cons (pe_tup (pa_cons (pe_bltn (v := .ty "tuple") rfl B.tuple boot_tuple rfl) (pa_cons (pe_bltn (v := .ty "list") rfl B.list boot_list rfl) pa_nil))) pa_nil))) (pe_one (pe_cmpR op_gt (pe_callB cr_lenS rfl B.len (by decide +kernel) (pa_cons (pe_lc (own := [("item", 1)]) rfl sc__law_odd.nd (pi_tup (pv 0)) (blkOk_by (N := ["value", "item"]) (sc := defScope s__law_odd) (own := [("item", 1)]) (by decide +kernel)) (fun _ _ _ _ _ => (pg_name (i := 1) sc__law_odd.nd rfl (Or.inl rfl))) (fun _ _ _ _ _ => (pts_one (pt_val (pe_cal c__law_odd (hr.mono (by decide)) rfl (pa_cons (pv 1) pa_nil))))) (fun _ _ _ _ _ => (pv 1))) pa_nil)) pe_int (nomark _))))))), ?_⟩
    walk_at "nx"
    refine ⟨.int n, .str _, .int n, .str _, rfl, by decide +kernel, ?_⟩
    rw [show PyData.eqv (.int n) (.str _) = false from rfl]
    refine ⟨_, rfl, ?_⟩
    rw [if_neg (by decide)]
    refine ⟨by decide, fun p np => isiT_mk upd_same (.base (.int n)) (b1 := false) (b2 := false) (by decide +kernel) (by decide +kernel) ⟨_, rfl, ?_⟩⟩
    exact q _ (same_upd np)
def spOdd1 : Sp := fun vs H Q _ => ∃ (p : Addr) (ns : List Int), vs = [.ref p] ∧ H p = some (.tup (ns.map V.int)) ∧ ns.length ≤ 10000000 ∧ ∀ H', Same H H' → Q (.bl false) H'
theorem cal_odd1 (D : Dn K mg "_law_odd" s__law_odd ["value"]) (B : Bl mg) (c__law_odd : Cal P w K mg base "_law_odd" 2 ["value"] spOdd0) : Cal P w K mg base "_law_odd" 3 ["value"] spOdd1 := by
  refine D.cal sc__law_odd (fun vs H Q E h => ?_) (fun f cdv A outer s H vs Q E hr h => ?_)
  · obtain ⟨p, ns, rfl, _⟩ := h
    rfl
  · obtain ⟨p, ns, rfl, hp, hl, q⟩ := h
    refine ⟨_, (pss_cons (ps_if (pt_cmpR (op_eqD hr.units) (pv 0) pe_str (nomark _)) (pss_one (ps_ret pe_bl)) pss_nil)
  (pss_one (ps_ret (pe_and (pe_callB call_isiT rfl B.isinstance (by decide +kernel) (pa_cons (pv 0) (pa_cons (pe_tup (pa_cons (pe_bltn (v := .ty "tuple") rfl B.tuple boot_tuple rfl) (pa_cons (pe_bltn (v := .ty "list") rfl B.list boot_list rfl) pa_nil))) pa_nil))) (pe_one (pe_cmpR op_gt (pe_callB cr_lenS rfl B.len (by decide +kernel) (pa_cons (pe_lc (own := [("item", 1)]) rfl sc__law_odd.nd (pi_tup (pv 0)) (blkOk_by (N := ["value", "item"]) (sc := defScope s__law_odd) (own := [("item", 1)]) (by decide +kernel)) (fun _ _ _ _ _ => (pg_name (i := 1) sc__law_odd.nd rfl (Or.inl rfl))) (fun _ _ _ _ _ => (pts_one (pt_val (pe_cal c__law_odd (hr.mono (by decide)) rfl (pa_cons (pv 1) pa_nil))))) (fun _ _ _ _ _ => (pv 1))) pa_nil)) pe_int (nomark _))))))), ?_⟩
    walk_at "nx"
    refine ⟨_, .str _, dp_I hp, .str _, shaped_ints _, by decide +kernel, ?_⟩
    rw [show PyData.eqv (dIs ns) (.str _) = false from rfl]
    refine ⟨_, rfl, ?_⟩
    rw [if_neg (by decide)]
    refine ⟨by decide, fun tp ntp => isiT_mk upd_same (.base (.tup (same_upd ntp _ _ hp))) (b1 := true) (b2 := false) (by decide +kernel) (by decide +kernel) ⟨_, rfl, ?_⟩⟩
    have s1 := same_upd (o := HO.tup [.ty "tuple", .ty "list"]) ntp
    have hp1 := s1 _ _ hp
    rw [if_pos (by decide)]
    refine ⟨⟨_, SqT.of hp1⟩, LcT.p (xs := ns.map V.int) (fun _ => none) (by rw [List.length_map]; exact hl) (fun H2 s2 => SqT.of (s2 _ _ hp1)) (fun i x hx H2 s2 M S hM hS => ?_) (fun D2 H2 nD s2 h2 => ?_)⟩
    · rw [List.getElem?_map] at hx
      obtain ⟨n, _, rfl⟩ := Option.map_eq_some_iff.mp hx
      walk_at "rs"
      exact ⟨n, rfl, fun H3 s3 => ⟨false, rfl, hS _ rfl s3⟩⟩
    · rw [show (List.range (ns.map V.int).length).filterMap (fun _ => (none : Option V)) = [] from List.filterMap_eq_nil_iff.mpr fun _ _ => rfl] at h2
      exact ⟨0, .inl ⟨_, SqL.of h2, rfl⟩, q _ (s1.trans s2)⟩
abbrev s__law_plain : Stmt := top 25
theorem sc__law_plain : FnScope ["value"] ["value"] (defScope s__law_plain) := ⟨rfl, rfl, rfl, by decide +kernel, rfl, by decide +kernel, by decide +kernel⟩

def spPl1 : Sp := fun vs H Q _ => ∃ (p : Addr) (ns : List Int), vs = [.ref p] ∧ H p = some (.tup (ns.map V.int)) ∧ ns.length ≤ 10000000 ∧ ∀ H', Same H H' → Q (.ref p) H'
theorem cal_pl1 (D : Dn K mg "_law_plain" s__law_plain ["value"]) (B : Bl mg) (c__law_odd : Cal P w K mg base "_law_odd" 3 ["value"] spOdd1) : Cal P w K mg base "_law_plain" 4 ["value"] spPl1 := by
  refine D.cal sc__law_plain (fun vs H Q E h => ?_) (fun f cdv A outer s H vs Q E hr h => ?_)
  · obtain ⟨p, ns, rfl, _⟩ := h
    rfl
  · obtain ⟨p, ns, rfl, hp, hl, q⟩ := h
    refine ⟨_, (pss_one (ps_ret (pe_ifExp (pt_val (pe_cal c__law_odd (hr.mono (by decide)) rfl (pa_cons (pv 0) pa_nil))) pe_str (pv 0)))), ?_⟩
    walk_at "rs"
    refine ⟨p, ns, rfl, hp, hl, fun H1 s1 => ⟨false, rfl, ?_⟩⟩
    rw [if_neg (by decide)]
    exact q _ s1
end

section
variable {P : Program} {w : World} {K : PySem.W.Frag} {mg : Str → Option Value} {base : Heap} {CM : Addr}
abbrev s__law_is_equal : Stmt := top 30
theorem sc__law_is_equal : FnScope ["value", "due", "k"] ["value", "due"] (defScope s__law_is_equal) := ⟨rfl, rfl, rfl, by decide +kernel, rfl, by decide +kernel, by decide +kernel⟩

theorem cal_eqN (D : Dn K mg "_law_is_equal" s__law_is_equal ["value", "due"]) : Cal P w K mg base "_law_is_equal" 1 ["value", "due"] spNev := by
  exact D.never sc__law_is_equal
def spEq0 : Sp := fun vs H Q _ => ∃ x y : Int, vs = [.int x, .int y] ∧ Q (.bl (decide (x = y))) H
theorem cal_eq0 (D : Dn K mg "_law_is_equal" s__law_is_equal ["value", "due"]) (B : Bl mg) (c__law_is_equal : Cal P w K mg base "_law_is_equal" 1 ["value", "due"] spNev) (c__law_is_number : Cal P w K mg base "_law_is_number" 1 ["value"] (spInt K)) : Cal P w K mg base "_law_is_equal" 2 ["value", "due"] spEq0 := by
  refine D.cal sc__law_is_equal (fun vs H Q E h => ?_) (fun f cdv A outer s H vs Q E hr h => ?_)
  · obtain ⟨x, y, rfl, _⟩ := h
    rfl
  · obtain ⟨x, y, rfl, q⟩ := h
    refine ⟨_, (pss_cons (ps_if (pt_val (pe_callB call_isi rfl B.isinstance (by decide +kernel) (pa_cons (pv 1) (pa_cons (pe_bltn (v := .ty "tuple") rfl B.tuple boot_tuple rfl) pa_nil)))) (pss_cons (ps_if (PW.pt (pw_or (pt_not (pt_val (pe_callB call_isi rfl B.isinstance (by decide +kernel) (pa_cons (pv 0) (pa_cons (pe_bltn (v := .ty "tuple") rfl B.tuple boot_tuple rfl) pa_nil))))) (pw_or1 (pt_cmpR op_ne (pe_callB cr_lenS rfl B.len (by decide +kernel) (pa_cons (pv 0) pa_nil)) (pe_callB cr_lenS rfl B.len (by decide +kernel) (pa_cons (pv 1) pa_nil)) (nomark _))))) (pss_one (ps_ret pe_bl)) pss_nil)
  (pss_one (ps_ret (pe_cmpR op_eq (pe_callB cr_lenS rfl B.len (by decide +kernel) (pa_cons (pe_lc (own := [("k", 2)]) rfl sc__law_is_equal.nd (pi_range1 rfl B.range (pa_cons (pe_callB cr_lenS rfl B.len (by decide +kernel) (pa_cons (pv 1) pa_nil)) pa_nil)) (blkOk_by (N := ["value", "due", "k"]) (sc := defScope s__law_is_equal) (own := [("k", 2)]) (by decide +kernel)) (fun _ _ _ _ _ => (pg_name (i := 2) sc__law_is_equal.nd rfl (Or.inl rfl))) (fun _ _ _ _ _ => (pts_one (pt_not (pt_val (pe_cal c__law_is_equal (hr.mono (by decide)) rfl (pa_cons (pe_ix (ix_tupK (K := K) rfl) (pv 0) (pv 2) (fun _ _ => rfl)) (pa_cons (pe_ix (ix_tupK (K := K) rfl) (pv 1) (pv 2) (fun _ _ => rfl)) pa_nil))))))) (fun _ _ _ _ _ => (pv 2))) pa_nil)) pe_int (nomark _))))) pss_nil)
  (pss_one (ps_ret (pe_and (pe_cal c__law_is_number (hr.mono (by decide)) rfl (pa_cons (pv 0) pa_nil)) (pe_one (pe_cmpR op_eq (pv 0) (pv 1) (nomark _))))))), ?_⟩
    walk_at "nx"
    refine isi_mk (.base (.int y)) (b := false) (by decide +kernel) ⟨_, rfl, ?_⟩
    rw [if_neg (by decide)]
    try walk_at "rs"
    exact ⟨_, "int", rfl, .base (.int x), by decide, _, rfl, by rw [if_pos (by decide)]; exact q⟩
theorem fm_nil {α β : Type} {l : List α} {y : α → Option β} : (l.filterMap y).length = 0 ↔ ∀ a ∈ l, y a = none := by
  rw [List.length_eq_zero_iff, List.filterMap_eq_nil_iff]
def spEq1 : Sp := fun vs H Q _ => ∃ (p d : Addr) (xs ys : List Int), vs = [.ref p, .ref d] ∧ H p = some (.tup (xs.map V.int)) ∧ H d = some (.tup (ys.map V.int)) ∧ ys.length ≤ 10000000 ∧ ∀ H', Same H H' → Q (.bl (decide (xs = ys))) H'
theorem cal_eq1 (D : Dn K mg "_law_is_equal" s__law_is_equal ["value", "due"]) (B : Bl mg) (c__law_is_equal : Cal P w K mg base "_law_is_equal" 2 ["value", "due"] spEq0) (c__law_is_number : Cal P w K mg base "_law_is_number" 1 ["value"] (spInt K)) : Cal P w K mg base "_law_is_equal" 3 ["value", "due"] spEq1 := by
  refine D.cal sc__law_is_equal (fun vs H Q E h => ?_) (fun f cdv A outer s H vs Q E hr h => ?_)
  · obtain ⟨p, d, xs, ys, rfl, _⟩ := h
    rfl
  · obtain ⟨p, d, xs, ys, rfl, hp, hd, hl, q⟩ := h
    refine ⟨_, (pss_cons (ps_if (pt_val (pe_callB call_isi rfl B.isinstance (by decide +kernel) (pa_cons (pv 1) (pa_cons (pe_bltn (v := .ty "tuple") rfl B.tuple boot_tuple rfl) pa_nil)))) (pss_cons (ps_if (PW.pt (pw_or (pt_not (pt_val (pe_callB call_isi rfl B.isinstance (by decide +kernel) (pa_cons (pv 0) (pa_cons (pe_bltn (v := .ty "tuple") rfl B.tuple boot_tuple rfl) pa_nil))))) (pw_or1 (pt_cmpR op_ne (pe_callB cr_lenS rfl B.len (by decide +kernel) (pa_cons (pv 0) pa_nil)) (pe_callB cr_lenS rfl B.len (by decide +kernel) (pa_cons (pv 1) pa_nil)) (nomark _))))) (pss_one (ps_ret pe_bl)) pss_nil)
  (pss_one (ps_ret (pe_cmpR op_eq (pe_callB cr_lenS rfl B.len (by decide +kernel) (pa_cons (pe_lc (own := [("k", 2)]) rfl sc__law_is_equal.nd (pi_range1 rfl B.range (pa_cons (pe_callB cr_lenS rfl B.len (by decide +kernel) (pa_cons (pv 1) pa_nil)) pa_nil)) (blkOk_by (N := ["value", "due", "k"]) (sc := defScope s__law_is_equal) (own := [("k", 2)]) (by decide +kernel)) (fun _ _ _ _ _ => (pg_name (i := 2) sc__law_is_equal.nd rfl (Or.inl rfl))) (fun _ _ _ _ _ => (pts_one (pt_not (pt_val (pe_cal c__law_is_equal (hr.mono (by decide)) rfl (pa_cons (pe_ix (ix_tupK (K := K) rfl) (pv 0) (pv 2) (fun _ _ => rfl)) (pa_cons (pe_ix (ix_tupK (K := K) rfl) (pv 1) (pv 2) (fun _ _ => rfl)) pa_nil))))))) (fun _ _ _ _ _ => (pv 2))) pa_nil)) pe_int (nomark _))))) pss_nil)
  (pss_one (ps_ret (pe_and (pe_cal c__law_is_number (hr.mono (by decide)) rfl (pa_cons (pv 0) pa_nil)) (pe_one (pe_cmpR op_eq (pv 0) (pv 1) (nomark _))))))), ?_⟩
    walk_at "nx"
    refine isi_mk (.base (.tup hd)) (b := true) (by decide +kernel) ⟨_, rfl, ?_⟩
    rw [if_pos rfl]
    walk_at "nx"
    refine isi_mk (.base (.tup hp)) (b := true) (by decide +kernel) ⟨_, rfl, ?_⟩
    rw [if_neg (by decide)]
    refine ⟨xs.length, .inr ⟨_, SqT.of hp, by rw [List.length_map]⟩, ys.length, .inr ⟨_, SqT.of hd, by rw [List.length_map]⟩, ite2 (fun c => ?_) (fun c => ?_)⟩
    · have : xs.length = ys.length := by omega
      refine ⟨ys.length, .inr ⟨_, SqT.of hd, by rw [List.length_map]⟩, by omega, by omega, ?_⟩
      rw [Int.toNat_natCast]
      refine LcR.p (fun k => if decide (xs.getD k 0 = ys.getD k 0) = true then none else some (V.int (0 + (k : Int)))) hl (fun k hk H1 s1 M S hM hS => ?_) (fun D2 H1 nD s1 h1 => ?_)
      · walk_at "rs"
        have e1 : (0 + (k : Int)) = (k : Int) := by omega
        rw [e1] at *
        refine ⟨_, SqT.of (s1 _ _ hp), .int (xs.getD k 0), ?_, _, SqT.of (s1 _ _ hd), .int (ys.getD k 0), ?_, _, _, rfl, _, rfl, ?_⟩
        · refine atI_nat ?_
          rw [List.getElem?_map, List.getElem?_eq_getElem (by omega), List.getD_eq_getElem?_getD, List.getElem?_eq_getElem (by omega)]
          rfl
        · refine atI_nat ?_
          rw [List.getElem?_map, List.getElem?_eq_getElem (by omega), List.getD_eq_getElem?_getD, List.getElem?_eq_getElem (by omega)]
          rfl
        · by_cases e : xs.getD k 0 = ys.getD k 0
          · rw [decide_eq_true e, if_neg (by decide)]
            exact hS _ (by rw [if_pos (decide_eq_true e)]) (Same.refl _)
          · rw [decide_eq_false e, if_pos (by decide)]
            exact hM _ _ (by rw [if_neg (by simpa using e), Int.zero_add]) (Same.refl _)
      · refine ⟨_, .inl ⟨_, SqL.of h1, rfl⟩, ?_⟩
        have e : decide ((((List.range ys.length).filterMap (fun k => if decide (xs.getD k 0 = ys.getD k 0) = true then none else some (V.int (0 + (k : Int))))).length : Int) = 0) = decide (xs = ys) := by
          refine decide_eq_decide.mpr ?_
          rw [show ∀ n : Nat, ((n : Int) = 0) = (n = 0) from fun n => propext (by omega), fm_nil]
          constructor
          · intro h
            refine List.ext_getElem this fun i h1 h2 => ?_
            have := h i (List.mem_range.mpr h2)
            by_cases c : xs.getD i 0 = ys.getD i 0
            · rw [List.getD_eq_getElem?_getD, List.getD_eq_getElem?_getD, List.getElem?_eq_getElem h1, List.getElem?_eq_getElem h2] at c
              exact c
            · rw [if_neg (by simpa using c)] at this
              cases this
          · rintro rfl
            intro a _
            rw [if_pos (by simp)]
        rw [e]
        exact q _ s1
    · have : xs ≠ ys := fun z => c (by rw [z])
      have q' := q H (Same.refl H)
      rw [decide_eq_false this] at q'
      exact q'
abbrev s__law_pow : Stmt := top 27
theorem sc__law_pow : FnScope ["x", "n", "total", "turn"] ["x", "n"] (defScope s__law_pow) := ⟨rfl, rfl, rfl, by decide +kernel, rfl, by decide +kernel, by decide +kernel⟩

def spPow : Sp := fun vs H Q _ => ∃ b e : Nat, vs = [.int b, .int e] ∧ b ≤ 400 ∧ e ≤ 99 ∧ Q (.int (pw b e)) H
theorem cal_pow (D : Dn K mg "_law_pow" s__law_pow ["x", "n"]) (B : Bl mg) : Cal P w K mg base "_law_pow" 1 ["x", "n"] spPow := by
  refine D.cal sc__law_pow (fun vs H Q E h => ?_) (fun f cdv A outer s H vs Q E hr h => ?_)
  · obtain ⟨b, e, rfl, _⟩ := h
    rfl
  · obtain ⟨b, e, rfl, hb, he, q⟩ := h
    refine ⟨_, (pss_cons (ps_set (i := 2) sc__law_pow.nd rfl (Or.inl rfl) pe_int)
  (pss_cons (ps_for PassesOwn.never rfl (pi_range1 rfl B.range (pa_cons (pv 1) pa_nil)) (pg_name (i := 3) sc__law_pow.nd rfl (Or.inl rfl)) (pss_one (ps_set (i := 2) sc__law_pow.nd rfl (Or.inl rfl) (pe_op op_mulI (pv 2) (pv 0)))))
  (pss_one (ps_ret (pv 2))))), ?_⟩
    walk_at "nx"
    walk_at "nx"
    refine ⟨by omega, by omega, ?_⟩
    rw [Int.toNat_natCast]
    refine ForR.w (fun i σ H3 => ∃ s3, σ = [some (.int b), some (.int e), some (.int (pw b i)), s3] ∧ H3 = H ∧ i ≤ e) ⟨_, rfl, rfl, Nat.zero_le _⟩ ?_ ?_
    · rintro i σ H3 hi ⟨s3, rfl, rfl, _⟩ N hN
      walk_at "rs"
      have z1 : Sz 900 (pw b i) := by
        have := pow_sz (c := b) (e := i) hb (by omega)
        unfold Sz pw
        rw [Int.natAbs_natCast]
        exact this
      have z2 : Sz 20 (b : Int) := by
        unfold Sz
        rw [Int.natAbs_natCast]
        exact Nat.lt_of_le_of_lt hb (by decide)
      exact ⟨z1.ok z2 (by decide) (by decide), hN _ _ ⟨_, by rw [show pw b i * (b : Int) = pw b (i + 1) by unfold pw; rw [Nat.pow_succ, Int.natCast_mul]], rfl, by omega⟩⟩
    · rintro σ H3 ⟨s3, rfl, rfl, _⟩
      walk_at "rs"
      exact q
end

section
variable {P : Program} {w : World} {K : PySem.W.Frag} {mg : Str → Option Value} {base : Heap} {CM : Addr}
abbrev s__law_operated : Stmt := top 31
theorem sc__law_operated : FnScope ["f", "n", "k", "found", "m", "total", "c"] ["f", "n", "k"] (defScope s__law_operated) := ⟨rfl, rfl, rfl, by decide +kernel, rfl, by decide +kernel, by decide +kernel⟩

def opS (F : Nat → Int) (n e m i : Nat) : Int := (((dvi n i).filter fun c => m % c = 0).map fun c => pw c e * F (m * n / (c * c))).sum
theorem opS_succ (F : Nat → Int) (n e m i : Nat) : opS F n e m (i + 1) = if n % (i + 1) = 0 ∧ m % (i + 1) = 0 then opS F n e m i + pw (i + 1) e * F (m * n / ((i + 1) * (i + 1))) else opS F n e m i := by
  unfold opS
  rw [dvi_succ]
  by_cases h : n % (i + 1) = 0
  · rw [if_pos h, List.filter_append, List.filter_cons, List.filter_nil]
    by_cases h2 : m % (i + 1) = 0
    · rw [if_pos (decide_eq_true h2), if_pos ⟨h, h2⟩, List.map_append, List.sum_append]
      simp
    · rw [if_neg (fun z => h2 (of_decide_eq_true z)), if_neg (fun z => h2 z.2), List.append_nil]
  · rw [if_neg h, if_neg (fun z => h z.1)]
def spLOp : Sp := fun vs H Q _ => ∃ (p : Addr) (ns : List Int) (n k : Nat), vs = [.ref p, .int n, .int k] ∧ H p = some (.tup (ns.map V.int)) ∧ 1 ≤ ns.length ∧ ns.length ≤ 400 ∧ 1 ≤ n ∧ n ≤ 400 ∧ 1 ≤ k ∧ k ≤ 100 ∧ (∀ x ∈ ns, Sz 3000 x) ∧
  ∀ p' H', Same H H' → H p' = none → H' p' = some (.tup ((opF ns n k).map V.int)) → Q (.ref p') H'
theorem cal_lop (D : Dn K mg "_law_operated" s__law_operated ["f", "n", "k"]) (B : Bl mg) (c__law_pow : Cal P w K mg base "_law_pow" 1 ["x", "n"] spPow) : Cal P w K mg base "_law_operated" 2 ["f", "n", "k"] spLOp := by
  refine D.cal sc__law_operated (fun vs H Q E h => ?_) (fun f cdv A outer s H vs Q E hr h => ?_)
  · obtain ⟨p, ns, n, k, rfl, _⟩ := h
    rfl
  · obtain ⟨p, ns, n, k, rfl, hp, l1, l4, n1, n4, k1, k4, sz, q⟩ := h
    refine ⟨_, (pss_cons (ps_set (i := 3) sc__law_operated.nd rfl (Or.inl rfl) (pe_lst pa_nil))
  (pss_cons (ps_for PassesOwn.never rfl (pi_range1 rfl B.range (pa_cons (pe_op op_add (pe_op op_fdivW (pe_op op_sub (pe_callB cr_lenS rfl B.len (by decide +kernel) (pa_cons (pv 0) pa_nil)) pe_int) (pv 1)) pe_int) pa_nil)) (pg_name (i := 4) sc__law_operated.nd rfl (Or.inl rfl)) (pss_cons (ps_set (i := 5) sc__law_operated.nd rfl (Or.inl rfl) pe_int)
  (pss_cons (ps_for PassesOwn.never rfl (pi_range2 rfl B.range (pa_cons pe_int (pa_cons (pe_op op_add (pv 1) pe_int) pa_nil))) (pg_name (i := 6) sc__law_operated.nd rfl (Or.inl rfl)) (pss_one (ps_if (PW.pt (pw_and (pt_cmpR op_eq (pe_op op_mod (pe_callTy call_int1 rfl B.int boot_int (pa_cons (pv 1) pa_nil)) (pv 6)) pe_int (nomark _)) (pw_and1 (pt_cmpR op_eq (pe_op op_mod (pe_callTy call_int1 rfl B.int boot_int (pa_cons (pv 4) pa_nil)) (pv 6)) pe_int (nomark _))))) (pss_one (ps_set (i := 5) sc__law_operated.nd rfl (Or.inl rfl) (pe_op op_add (pv 5) (pe_op op_mulI (pe_cal c__law_pow (hr.mono (by decide)) rfl (pa_cons (pv 6) (pa_cons (pe_op op_sub (pv 2) pe_int) pa_nil))) (pe_ix ix_tup (pv 0) (pe_op op_fdivW (pe_op op_mulI (pv 4) (pv 1)) (pe_op op_mulI (pv 6) (pv 6))) (fun _ _ => rfl)))))) pss_nil)))
  (pss_one (ps_expr (pe_bm PySem.F.plainAttrs_list PySem.F.slot_list_append PySem.F.type_list_append mt_append (pv 3) (pa_cons (pv 5) pa_nil)))))))
  (pss_one (ps_ret (pe_callTy cr_tupOf rfl B.tuple boot_tuple (pa_cons (pv 3) pa_nil)))))), ?_⟩
    walk_at "nx"
    refine ⟨by decide, fun it nit => ?_⟩
    have s2 := same_upd (o := HO.lst []) nit
    have hit : (upd H it (.lst [])) it = some (.lst []) := upd_same
    generalize upd H it (.lst []) = H2 at *
    have hz : (ns.length - 1) / n ≤ ns.length - 1 := Nat.div_le_self _ _
    have eL : ((ns.length : Int) - 1) / n + 1 = (((ns.length - 1) / n + 1 : Nat) : Int) := by rw [Int.natCast_add, Int.natCast_ediv, Int.natCast_sub l1]; rfl
    walk_at "nx"
    refine ⟨ns.length, .inr ⟨_, SqT.of (s2 _ _ hp), by rw [List.length_map]⟩, ⟨by omega, lg_int (by omega)⟩, ?_⟩
    rw [eL]
    unfold opF at q
    generalize hLd : (ns.length - 1) / n = L at *
    refine ⟨by omega, by omega, ?_⟩
    rw [Int.toNat_natCast]
    refine ForR.w (fun i σ H3 => ∃ s4 s5 s6, σ = [some (.ref p), some (.int n), some (.int k), some (.ref it), s4, s5, s6] ∧ Same H H3 ∧ H3 it = some (.lst ((opL (ns.getD · 0) n (k - 1) i).map V.int)) ∧ i ≤ L + 1)
        ⟨_, _, _, rfl, s2, hit, Nat.zero_le _⟩ ?_ ?_
    · rintro m σ H3 hm ⟨s4, s5, s6, rfl, sm, h3, _⟩ N hN
      have hp3 := sm _ _ hp
      walk_at "nx"
      walk_at "nx"
      refine ⟨by omega, by omega, by omega, by omega, ?_⟩
      rw [show ((n : Int) + 1 - 1).toNat = n by omega, show (0 + (m : Int)) = (m : Int) by omega]
      refine ForR.w (fun i σ H4 => ∃ s6, σ = [some (.ref p), some (.int n), some (.int k), some (.ref it), some (.int m), some (.int (opS (ns.getD · 0) n (k - 1) m i)), s6] ∧ H4 = H3 ∧ i ≤ n) ⟨_, rfl, rfl, Nat.zero_le _⟩ ?_ ?_
      · rintro i σ H4 hi ⟨s6, rfl, rfl, _⟩ N2 hN2
        walk_at "rs"
        have e1 : (1 + (i : Int)) = ((i + 1 : Nat) : Int) := by omega
        rw [e1]
        have zc : Sz 900 (pw (i + 1) (k - 1)) := by
          have := pow_sz (c := i + 1) (e := k - 1) (by omega) (by omega)
          unfold Sz pw
          rw [Int.natAbs_natCast]
          exact this
        have sm9 : ∀ x : Nat, x ≤ 400 → Sz 20 (x : Int) := fun x hx => by
          unfold Sz
          rw [Int.natAbs_natCast]
          exact Nat.lt_of_le_of_lt hx (by decide)
        have ixl : m * n / ((i + 1) * (i + 1)) < ns.length := ix_le (by rw [hLd]; omega) (by omega) (by omega)
        have fin0 : ¬ (n % (i + 1) = 0 ∧ m % (i + 1) = 0) → N2 [some (V.ref p), some (V.int n), some (V.int k), some (V.ref it), some (V.int m), some (V.int (opS (ns.getD · 0) n (k - 1) m i)), some (V.int ((i + 1 : Nat) : Int))] H4 := fun c => hN2 _ _ ⟨_, by rw [opS_succ, if_neg c], rfl, by omega⟩
        refine ⟨by omega, ite2 (fun c => ⟨by omega, ite2 (fun c2 => ?_) (fun c2 => fin0 fun z => c2 (by exact_mod_cast z.2))⟩) (fun c => fin0 fun z => c (by exact_mod_cast z.1))⟩
        have c' : n % (i + 1) = 0 ∧ m % (i + 1) = 0 := ⟨by exact_mod_cast c, by exact_mod_cast c2⟩
        have c0 : (0 : Int) < ((i + 1 : Nat) : Int) * ((i + 1 : Nat) : Int) := Int.mul_pos (by omega) (by omega)
        refine ⟨i + 1, k - 1, ?_, by omega, by omega, (sm9 m (by omega)).ok (sm9 n n4) (by decide) (by decide), (sm9 (i + 1) (by omega)).ok (sm9 (i + 1) (by omega)) (by decide) (by decide), ⟨c0, ?_⟩, _, SqT.of hp3, V.int (ns.getD (m * n / ((i + 1) * (i + 1))) 0), ?_, ?_⟩
        rotate_left 3
        · refine ⟨_, rfl, _, rfl, zc.ok (sz _ ?_) (by decide) (by decide), hN2 _ _ ⟨_, by rw [opS_succ, if_pos c'], rfl, by omega⟩⟩
          rw [List.getD_eq_getElem?_getD, List.getElem?_eq_getElem ixl]
          exact List.getElem_mem ixl
        · rw [show (((k - 1 : Nat) : Int)) = (k : Int) - 1 by omega]
        · exact Nat.lt_of_lt_of_le (Nat.log2_lt (by omega) |>.mpr (show (((i + 1 : Nat) : Int) * ((i + 1 : Nat) : Int)).natAbs < 2 ^ 40 from ((sm9 (i + 1) (by omega)).mul (sm9 (i + 1) (by omega))))) (by decide)
        · rw [show ((m : Int) * n / (((i + 1 : Nat) : Int) * ((i + 1 : Nat) : Int))) = ((m * n / ((i + 1) * (i + 1)) : Nat) : Int) by rw [Int.natCast_ediv, Int.natCast_mul, Int.natCast_mul]]
          refine atI_nat ?_
          rw [List.getElem?_map, List.getElem?_eq_getElem ixl, List.getD_eq_getElem?_getD, List.getElem?_eq_getElem ixl]
          rfl
      · rintro σ H4 ⟨s6, rfl, rfl, _⟩
        walk_at "rs"
        refine ⟨tyL h3, _, h3, ?_, hN _ _ ⟨_, _, _, rfl, same_updD sm nit, ?_, by omega⟩⟩
        · rw [List.length_map, opL, List.length_map, List.length_range]
          exact small_size (by omega)
        · rw [upd_same, opL, opL, List.range_succ, List.map_append, List.map_append]
          rfl
    · rintro σ H3 ⟨s4, s5, s6, rfl, sm, h3, _⟩
      walk_at "rs"
      exact ⟨_, .inl ⟨SqL.of h3, fun p' np' => q p' _ (sm.trans (same_upd np')) (sm.free np') upd_same⟩⟩
abbrev s__law_weight : Stmt := top 32
theorem sc__law_weight : FnScope ["state", "most"] ["state", "most"] (defScope s__law_weight) := ⟨rfl, rfl, rfl, by decide +kernel, rfl, by decide +kernel, by decide +kernel⟩

def spWt : Sp := fun vs H Q _ => ∃ (a : Addr) (x y most : Int), vs = [.ref a, .int most] ∧ H a = some (.lst [.int x, .int y]) ∧ 4 ≤ most ∧ most ≤ 100 ∧
  ∀ (v x' y' : Int), okW v = true → Q (.int v) (upd H a (.lst [.int x', .int y']))
theorem cal_wt (D : Dn K mg "_law_weight" s__law_weight ["state", "most"]) (B : Bl mg) (c__law_take : Cal P w K mg base "_law_take" 1 ["state", "m"] spTake) : Cal P w K mg base "_law_weight" 2 ["state", "most"] spWt := by
  refine D.cal sc__law_weight (fun vs H Q E h => ?_) (fun f cdv A outer s H vs Q E hr h => ?_)
  · obtain ⟨a, x, y, most, rfl, _⟩ := h
    rfl
  · obtain ⟨a, x, y, most, rfl, ha, m0, m1, q⟩ := h
    refine ⟨_, (pss_one (ps_ret (pe_op op_add pe_int (pe_op op_mulI pe_int (pe_cal c__law_take (hr.mono (by decide)) rfl (pa_cons (pv 0) (pa_cons (pe_op op_fdivW (pe_op op_sub (pv 1) pe_int) pe_int) pa_nil))))))), ?_⟩
    walk_at "rs"
    refine ⟨⟨by decide, by decide +kernel⟩, a, x, y, _, rfl, ha, by omega, lg_int (by omega), fun v x' y' v0 v1 => ⟨v, rfl, mulL (by decide), q _ _ _ ?_⟩⟩
    unfold okW
    exact decide_eq_true (by omega)
abbrev s__law_common : Stmt := top 34
theorem sc__law_common : FnScope ["a", "b"] ["a", "b"] (defScope s__law_common) := ⟨rfl, rfl, rfl, by decide +kernel, rfl, by decide +kernel, by decide +kernel⟩

def spComm : Sp := fun vs H Q _ => ∃ a b : Nat, vs = [.int a, .int b] ∧ Q (.int ((Nat.gcd a b : Nat) : Int)) H
theorem cal_common (D : Dn K mg "_law_common" s__law_common ["a", "b"]) (B : Bl mg) : Cal P w K mg base "_law_common" 1 ["a", "b"] spComm := by
  refine D.cal sc__law_common (fun vs H Q E h => ?_) (fun f cdv A outer s H vs Q E hr h => ?_)
  · obtain ⟨a, b, rfl, _⟩ := h
    rfl
  · obtain ⟨a, b, rfl, q⟩ := h
    refine ⟨_, (pss_cons (ps_while PassesOwn.never (pt_cmpR op_gt (pv 1) pe_int (nomark _)) (pss_one (ps_par (i := 0) (j := 1) rfl sc__law_common.nd rfl rfl (by decide) rfl rfl (pa_cons (pv 1) (pa_cons (pe_op op_mod (pe_callTy call_int1 rfl B.int boot_int (pa_cons (pv 0) pa_nil)) (pv 1)) pa_nil)) (by rfl))))
  (pss_one (ps_ret (pv 0)))), ?_⟩
    rw [CB.rd_seq]
    refine while_w (fun σ H' => ∃ x y : Nat, σ = [some (.int x), some (.int y)] ∧ H' = H ∧ Nat.gcd x y = Nat.gcd a b) (fun σ _ => match σ with | [_, some (.int y)] => y.toNat | _ => 0) ⟨_, _, rfl, rfl, rfl⟩ ?_
    rintro σ H' ⟨x, y, rfl, rfl, hg⟩ N hN
    refine ⟨decide (0 < (y : Int)), fun Q' q' => ?_, fun hb => ?_, fun hb => ?_⟩
    · walk_at "rd"
      exact q'
    · have hy : 0 < y := by
        have := of_decide_eq_true hb
        omega
      walk_at "rd"
      refine ⟨by omega, hN _ _ ⟨y, x % y, by rw [Int.natCast_emod], rfl, ?_⟩ ?_⟩
      · rw [← hg, Nat.gcd_comm x y, Nat.gcd_rec y x, Nat.gcd_comm]
      · show ((x : Int) % (y : Int)).toNat < (y : Int).toNat
        have := Nat.mod_lt x hy
        rw [← Int.natCast_emod]
        omega
    · have hy : y = 0 := by
        have := of_decide_eq_false hb
        omega
      subst hy
      walk_at "rd"
      rw [Nat.gcd_zero_right] at hg
      rw [hg]
      exact q
end

section
variable {P : Program} {w : World} {K : PySem.W.Frag} {mg : Str → Option Value} {base : Heap} {CM : Addr}
abbrev s__law_told : Stmt := top 33
theorem sc__law_told : FnScope ["f", "n", "k"] ["f", "n", "k"] (defScope s__law_told) := ⟨rfl, rfl, rfl, by decide +kernel, rfl, by decide +kernel, by decide +kernel⟩

def spTold (K : PySem.W.Frag) : Sp := fun vs H Q _ => ∃ v x u : V, vs = [v, x, u] ∧ ((BadS K H v ∧ ∀ H', Same H H' → Q (.str "raised malformed") H') ∨ ∃ (p : Addr) (ns : List Int), v = .ref p ∧ H p = some (.tup (ns.map V.int)) ∧ 1 ≤ ns.length ∧ ns.length ≤ 400 ∧
  ((BadIs K okN H x ∧ ∀ H', Same H H' → Q (.str "raised malformed") H') ∨ ∃ n : Nat, x = .int n ∧ 1 ≤ n ∧ n ≤ 400 ∧ ((BadIs K okW H u ∧ ∀ H', Same H H' → Q (.str "raised malformed") H') ∨ ∃ k : Nat, u = .int k ∧ okW k = true ∧ (∀ y ∈ ns, Sz 3000 y) ∧
  ∀ p' H', Same H H' → H' p' = some (.tup ((opF ns n k).map V.int)) → Q (.ref p') H')))
theorem opF_len (ns : List Int) (n k : Nat) : (opF ns n k).length = (ns.length - 1) / n + 1 := by
  unfold opF opL
  rw [List.length_map, List.length_range]
theorem opF_le {ns : List Int} {n k : Nat} (h : ns.length ≤ 400) : (opF ns n k).length ≤ 400 := by
  have : (ns.length - 1) / n ≤ ns.length - 1 := Nat.div_le_self _ _
  rw [opF_len]
  omega
theorem cal_told (D : Dn K mg "_law_told" s__law_told ["f", "n", "k"]) (B : Bl mg) (c_operated : CalX P w K mg base "operated" 5 ["f", "n", "k"] (spOper K CM)) (c__law_plain : Cal P w K mg base "_law_plain" 4 ["value"] spPl1) (c__law_no_word : Cal P w K mg base "_law_no_word" 1 ["value"] (spNoWord K)) (e_E : ErrO K mg CM) : Cal P w K mg base "_law_told" 6 ["f", "n", "k"] (spTold K) := by
  refine D.cal sc__law_told (fun vs H Q E h => ?_) (fun f cdv A outer s H vs Q E hr h => ?_)
  · obtain ⟨v, x, u, rfl, _⟩ := h
    rfl
  · obtain ⟨v, x, u, rfl, h⟩ := h
    refine ⟨_, (pss_one (ps_tryA rfl rfl sc__law_told.nd takes0 (fun W pn xe tk _ => (pss_one (ps_ret (pe_cal c__law_no_word (hr.mono (by decide)) rfl (pa_cons (pe_cal c__law_plain (hr.mono (by decide)) rfl (pa_cons (pe_calS c_operated tk (hr.mono (by decide)) rfl (pa_cons (pv 0) (pa_cons (pv 1) (pa_cons (pv 2) pa_nil)))) pa_nil)) pa_nil))))) (HdA.bare ⟨rfl, by decide, .inl e_E.m.g⟩ (fun a oe cls d pn _ _ => (pss_one (ps_ret pe_str))) HdA.nil))), ?_⟩
    walk_at "rd"
    refine ⟨v, x, u, rfl, ?_⟩
    rcases h with ⟨hb, q⟩ | ⟨p, ns, rfl, hp, l1, l4, h⟩
    · exact .inl ⟨hb, fun H' sm => ⟨true, e_E.m.mm, fun _ a na => q H' sm, fun z => by cases z⟩⟩
    refine .inr ⟨p, ns, rfl, hp, l1, l4, ?_⟩
    rcases h with ⟨hb, q⟩ | ⟨n, rfl, n1, n4, h⟩
    · exact .inl ⟨hb, fun H' sm => ⟨true, e_E.m.mm, fun _ a na => q H' sm, fun z => by cases z⟩⟩
    refine .inr ⟨n, rfl, n1, n4, ?_⟩
    rcases h with ⟨hb, q⟩ | ⟨k, rfl, hk, sz, q⟩
    · exact .inl ⟨hb, fun H' sm => ⟨true, e_E.m.mm, fun _ a na => q H' sm, fun z => by cases z⟩⟩
    refine .inr ⟨k, rfl, hk, sz, fun p' H1 s1 np h1 => ⟨p', _, rfl, h1, by have := opF_le (n := n) (k := k) l4; omega, fun H2 s2 => ?_⟩⟩
    exact ⟨_, "tuple", rfl, .base (.tup (s2 _ _ h1)), by decide, by decide, q p' H2 (s1.trans s2) (s2 _ _ h1)⟩
end

section
/-! ### T_m T_n -/
theorem perm_sum {l l' : List Int} (h : l.Perm l') : l.sum = l'.sum := by
  induction h with
  | nil => rfl
  | cons x _ ih => rw [List.sum_cons, List.sum_cons, ih]
  | swap x y l => rw [List.sum_cons, List.sum_cons, List.sum_cons, List.sum_cons]; omega
  | trans _ _ ih1 ih2 => exact ih1.trans ih2
theorem flat_sum {α β : Type} (l : List α) (f : α → List β) (h : β → Int) : ((l.flatMap f).map h).sum = (l.map fun c => ((f c).map h).sum).sum := by
  induction l with
  | nil => rfl
  | cons a l ih => rw [List.flatMap_cons, List.map_append, List.sum_append, List.map_cons, List.sum_cons, ih]
theorem sum_mul {α : Type} (l : List α) (k : Int) (f : α → Int) : k * (l.map f).sum = (l.map fun a => k * f a).sum := by
  induction l with
  | nil => rw [List.map_nil, List.map_nil, List.sum_nil, Int.mul_zero]
  | cons a l ih => rw [List.map_cons, List.map_cons, List.sum_cons, List.sum_cons, Int.mul_add, ih]
theorem sum_congr {α : Type} {l : List α} {f g : α → Int} (h : ∀ a ∈ l, f a = g a) : (l.map f).sum = (l.map g).sum := by rw [List.map_congr_left h]
theorem flat_congr {α β : Type} {l : List α} {f g : α → List β} (h : ∀ a ∈ l, f a = g a) : l.flatMap f = l.flatMap g := by
  induction l with
  | nil => rfl
  | cons a l ih => rw [List.flatMap_cons, List.flatMap_cons, h a List.mem_cons_self, ih fun b hb => h b (List.mem_cons_of_mem _ hb)]
/-- the exponents' bases of the two ways -/
def ways1 (m n i : Nat) : List Nat := ((dv n).filter fun c => i % c = 0).flatMap fun c => ((dv m).filter fun d => (i * n / (c * c)) % d = 0).map fun d => c * d
def ways2 (m n i : Nat) : List Nat := (dv (Nat.gcd m n)).flatMap fun x => ((dv (m * n / (x * x))).filter fun y => i % y = 0).map fun y => x * y
theorem ways_perm : ∀ m < 9, ∀ n < 9, ∀ i < m * n, 0 < m → 0 < n → (ways1 m n i).isPerm (ways2 m n i) = true := by decide +kernel
theorem div_sq {c a b : Nat} (hc : 0 < c) : c * a * (c * b) / (c * c) = a * b := by
  rw [show c * a * (c * b) = c * c * (a * b) by rw [Nat.mul_mul_mul_comm]]
  exact Nat.mul_div_cancel_left _ (Nat.mul_pos hc hc)
theorem ways1_mod (m n i : Nat) : ways1 m n i = ways1 m n (i % (m * n)) := by
  unfold ways1
  have key : ∀ c ∈ dv n, (i % c = 0 ↔ i % (m * n) % c = 0) := fun c hc => by
    obtain ⟨h0, h1, h2⟩ := mem_dv.mp hc
    rw [Nat.mod_mod_of_dvd i (Nat.dvd_trans (Nat.dvd_of_mod_eq_zero h2) (Nat.dvd_mul_left n m))]
  rw [List.filter_congr (q := fun c => decide (i % (m * n) % c = 0)) fun c hc => decide_eq_decide.mpr (key c hc)]
  refine flat_congr ?_
  intro c hc
  obtain ⟨hc, hi'⟩ := List.mem_filter.mp hc
  have hi' : i % (m * n) % c = 0 := of_decide_eq_true hi'
  have hi := (key c hc).mpr hi'
  obtain ⟨h0, h1, h2⟩ := mem_dv.mp hc
  congr 1
  refine List.filter_congr fun d hd => decide_eq_decide.mpr ?_
  obtain ⟨d0, d1, d2⟩ := mem_dv.mp hd
  obtain ⟨b, rfl⟩ := Nat.dvd_of_mod_eq_zero h2
  obtain ⟨a', ha'⟩ := Nat.dvd_of_mod_eq_zero hi'
  have e : i = c * (a' + m * b * (i / (m * (c * b)))) := by
    have := Nat.mod_add_div i (m * (c * b))
    rw [ha'] at this
    generalize i / (m * (c * b)) = t at *
    rw [← this]
    grind
  rw [ha', div_sq h0]
  have e2 : i * (c * b) / (c * c) = (a' + m * b * (i / (m * (c * b)))) * b := by
    rw [show i * (c * b) = c * (a' + m * b * (i / (m * (c * b)))) * (c * b) by rw [← e], div_sq h0]
  rw [e2]
  obtain ⟨k, rfl⟩ := Nat.dvd_of_mod_eq_zero d2
  rw [Nat.add_mul, show d * k * b * (i / (d * k * (c * b))) * b = d * (k * b * (i / (d * k * (c * b))) * b) by grind, Nat.add_mul_mod_self_left]
theorem ways2_mod {m n : Nat} (i : Nat) : ways2 m n i = ways2 m n (i % (m * n)) := by
  unfold ways2
  refine flat_congr ?_
  intro x hx
  congr 1
  refine List.filter_congr fun y hy => decide_eq_decide.mpr ?_
  obtain ⟨h0, h1, h2⟩ := mem_dv.mp hx
  obtain ⟨y0, y1, y2⟩ := mem_dv.mp hy
  have d1 : x * x ∣ m * n := Nat.mul_dvd_mul (Nat.dvd_trans (Nat.dvd_of_mod_eq_zero h2) (Nat.gcd_dvd_left m n)) (Nat.dvd_trans (Nat.dvd_of_mod_eq_zero h2) (Nat.gcd_dvd_right m n))
  have d2 : y ∣ m * n := Nat.dvd_trans (Nat.dvd_of_mod_eq_zero y2) (Nat.div_dvd_of_dvd d1)
  rw [Nat.mod_mod_of_dvd i d2]
theorem ways_all {m n : Nat} (hm : 0 < m ∧ m < 9) (hn : 0 < n ∧ n < 9) (i : Nat) : (ways1 m n i).Perm (ways2 m n i) := by
  rw [ways1_mod, ways2_mod i]
  exact List.isPerm_iff.mp (ways_perm m hm.2 n hn.2 _ (Nat.mod_lt _ (Nat.mul_pos hm.1 hn.1)) hm.1 hn.1)
theorem pw_mul (c d e : Nat) : pw (c * d) e = pw c e * pw d e := by
  unfold pw
  rw [Nat.mul_pow, Int.natCast_mul]
/-- T_n of T_m -/
theorem op_op (F : Nat → Int) {m n : Nat} (hm : 0 < m ∧ m < 9) (hn : 0 < n ∧ n < 9) (e i : Nat) :
    opI (fun j => opI F m e j) n e i = ((dv (Nat.gcd m n)).map fun x => pw x e * opI F (m * n / (x * x)) e i).sum := by
  have a1 : opI (fun j => opI F m e j) n e i = ((ways1 m n i).map fun s => pw s e * F (i * (m * n) / (s * s))).sum := by
    unfold ways1
    rw [flat_sum]
    unfold opI
    refine sum_congr fun c hc => ?_
    obtain ⟨hc, hi⟩ := List.mem_filter.mp hc
    have hi : i % c = 0 := of_decide_eq_true hi
    obtain ⟨h0, h1, h2⟩ := mem_dv.mp hc
    rw [sum_mul, List.map_map]
    refine sum_congr fun d hd => ?_
    show pw c e * (pw d e * F (i * n / (c * c) * m / (d * d))) = pw (c * d) e * F (i * (m * n) / (c * d * (c * d)))
    rw [pw_mul, Int.mul_assoc]
    congr 3
    obtain ⟨b, rfl⟩ := Nat.dvd_of_mod_eq_zero h2
    obtain ⟨a, rfl⟩ := Nat.dvd_of_mod_eq_zero hi
    rw [div_sq h0, show c * a * (m * (c * b)) = c * c * (a * b * m) by grind, show c * d * (c * d) = c * c * (d * d) by grind, Nat.mul_div_mul_left _ _ (Nat.mul_pos h0 h0)]
  have a2 : ((dv (Nat.gcd m n)).map fun x => pw x e * opI F (m * n / (x * x)) e i).sum = ((ways2 m n i).map fun s => pw s e * F (i * (m * n) / (s * s))).sum := by
    unfold ways2
    rw [flat_sum]
    unfold opI
    refine sum_congr fun x hx => ?_
    obtain ⟨h0, h1, h2⟩ := mem_dv.mp hx
    rw [sum_mul, List.map_map]
    refine sum_congr fun y hy => ?_
    show pw x e * (pw y e * F (i * (m * n / (x * x)) / (y * y))) = pw (x * y) e * F (i * (m * n) / (x * y * (x * y)))
    rw [pw_mul, Int.mul_assoc]
    congr 3
    have d1 : x * x ∣ m * n := Nat.mul_dvd_mul (Nat.dvd_trans (Nat.dvd_of_mod_eq_zero h2) (Nat.gcd_dvd_left m n)) (Nat.dvd_trans (Nat.dvd_of_mod_eq_zero h2) (Nat.gcd_dvd_right m n))
    obtain ⟨k, hk⟩ := d1
    rw [hk, Nat.mul_div_cancel_left _ (Nat.mul_pos h0 h0), show i * (x * x * k) = x * x * (i * k) by grind, show x * y * (x * y) = x * x * (y * y) by grind, Nat.mul_div_mul_left _ _ (Nat.mul_pos h0 h0)]
  rw [a1, a2]
  exact perm_sum ((ways_all hm hn i).map _)
theorem opL_get (F : Nat → Int) (n e size j : Nat) (h : j < size) : (opL F n e size).getD j 0 = opI F n e j := by
  unfold opL
  rw [List.getD_eq_getElem?_getD, List.getElem?_map, List.getElem?_range h]
  rfl
theorem opI_congr {F G : Nat → Int} {n e m : Nat} (h : ∀ c, 0 < c → F (m * n / (c * c)) = G (m * n / (c * c))) : opI F n e m = opI G n e m := by
  unfold opI
  refine sum_congr fun c hc => ?_
  obtain ⟨hc, _⟩ := List.mem_filter.mp hc
  rw [h c (mem_dv.mp hc).1]
/-- the sums that the law makes, up to j -/
def twS (ns : List Int) (m n k j i : Nat) : Int := ((dvi (Nat.gcd m n) j).map fun x => pw x (k - 1) * opI (ns.getD · 0) (m * n / (x * x)) (k - 1) i).sum
theorem twS_succ (ns : List Int) (m n k j i : Nat) : twS ns m n k (j + 1) i = if Nat.gcd m n % (j + 1) = 0 then twS ns m n k j i + pw (j + 1) (k - 1) * opI (ns.getD · 0) (m * n / ((j + 1) * (j + 1))) (k - 1) i else twS ns m n k j i := by
  unfold twS
  rw [dvi_succ]
  by_cases h : Nat.gcd m n % (j + 1) = 0
  · rw [if_pos h, if_pos h, List.map_append, List.sum_append]
    simp
  · rw [if_neg h, if_neg h]
theorem len2 {ns : List Int} {m n k : Nat} : (opF (opF ns m k) n k).length = (ns.length - 1) / (m * n) + 1 := by
  rw [opF_len, opF_len, Nat.add_sub_cancel, Nat.div_div_eq_div_mul]
theorem op_twice {ns : List Int} {m n k : Nat} (hm : 0 < m ∧ m < 9) (hn : 0 < n ∧ n < 9) : opF (opF ns m k) n k = (List.range ((ns.length - 1) / (m * n) + 1)).map (twS ns m n k (Nat.gcd m n)) := by
  have e : opF (opF ns m k) n k = opL ((opF ns m k).getD · 0) n (k - 1) ((ns.length - 1) / (m * n) + 1) := by
    have := @len2 ns m n k
    rw [opF_len] at this
    unfold opF at *
    rw [this]
  rw [e]
  unfold opL
  refine List.map_congr_left fun i hi => ?_
  have hi := List.mem_range.mp hi
  rw [← Nat.div_div_eq_div_mul] at hi
  show opI ((opF ns m k).getD · 0) n (k - 1) i = ((dv (Nat.gcd m n)).map fun x => pw x (k - 1) * opI (ns.getD · 0) (m * n / (x * x)) (k - 1) i).sum
  rw [← op_op _ hm hn]
  refine opI_congr fun c hc => ?_
  unfold opF
  refine opL_get _ _ _ _ _ ?_
  exact ix_le (l := (ns.length - 1) / m + 1) (by rw [Nat.add_sub_cancel]; exact Nat.le_of_lt_succ hi) hc (Nat.succ_pos _)
theorem twS_comm (ns : List Int) (m n k i : Nat) : twS ns m n k (Nat.gcd m n) i = twS ns n m k (Nat.gcd n m) i := by
  unfold twS
  rw [Nat.gcd_comm m n, Nat.mul_comm m n]
theorem op_twice_comm {ns : List Int} {m n k : Nat} (hm : 0 < m ∧ m < 9) (hn : 0 < n ∧ n < 9) : opF (opF ns n k) m k = opF (opF ns m k) n k := by
  rw [op_twice hm hn, op_twice hn hm, Nat.mul_comm n m]
  exact List.map_congr_left fun i _ => (twS_comm ns m n k i).symm
theorem sum_bd {l : List Int} {b : Nat} (h : ∀ x ∈ l, x.natAbs ≤ b) : l.sum.natAbs ≤ l.length * b := by
  induction l with
  | nil => simp
  | cons a l ih =>
    rw [List.sum_cons, List.length_cons, Nat.add_mul, Nat.one_mul]
    have h1 := h a List.mem_cons_self
    have h2 := ih fun x hx => h x (List.mem_cons_of_mem _ hx)
    omega
theorem opI_sz {F : Nat → Int} {n e m : Nat} (hn : n ≤ 400) (he : e ≤ 99) (hF : ∀ j, Sz 50 (F j)) : Sz 1000 (opI F n e m) := by
  unfold opI
  have b : ∀ x ∈ ((dv n).filter fun c => m % c = 0).map (fun c => pw c e * F (m * n / (c * c))), x.natAbs ≤ 2 ^ 950 := fun x hx => by
    obtain ⟨c, hc, rfl⟩ := List.mem_map.mp hx
    obtain ⟨hc, _⟩ := List.mem_filter.mp hc
    have hc := mem_dv.mp hc
    have zc : Sz 900 (pw c e) := by
      have := pow_sz (c := c) (e := e) (by omega) (by omega)
      unfold Sz pw
      rw [Int.natAbs_natCast]
      exact this
    exact Nat.le_of_lt (zc.mul (hF _))
  have h := sum_bd b
  rw [List.length_map] at h
  have h1 := List.length_filter_le (fun c => decide (m % c = 0)) (dv n)
  have h2 := dvi_len n n
  rw [show dvi n n = dv n from rfl] at h2
  have h3 : ((dv n).filter fun c => decide (m % c = 0)).length * 2 ^ 950 ≤ 400 * 2 ^ 950 := Nat.mul_le_mul_right _ (by omega)
  have h4 : 400 * 2 ^ 950 < 2 ^ 1000 := by decide +kernel
  unfold Sz
  omega
theorem getD_sz {ns : List Int} (h : ∀ x ∈ ns, Sz 50 x) (j : Nat) : Sz 50 (ns.getD j 0) := by
  rw [List.getD_eq_getElem?_getD]
  cases e : ns[j]? with
  | none => unfold Sz; decide
  | some x => exact h x (List.mem_of_getElem? e)
theorem opF_sz {ns : List Int} {n k : Nat} (hn : n ≤ 400) (hk : k ≤ 100) (h : ∀ x ∈ ns, Sz 50 x) : ∀ y ∈ opF ns n k, Sz 1000 y := fun y hy => by
  unfold opF opL at hy
  obtain ⟨i, _, rfl⟩ := List.mem_map.mp hy
  exact opI_sz hn (by omega) (getD_sz h)
end

section
variable {P : Program} {w : World} {K : PySem.W.Frag} {mg : Str → Option Value} {base : Heap} {CM : Addr}
abbrev s__law_twice_holds : Stmt := top 35
theorem sc__law_twice_holds : FnScope ["f", "m", "n", "k", "both", "total", "g", "c", "item", "part", "i"] ["f", "m", "n", "k"] (defScope s__law_twice_holds) := ⟨rfl, rfl, rfl, by decide +kernel, rfl, by decide +kernel, by decide +kernel⟩

theorem set_range {L i : Nat} {g g' : Nat → Int} (hi : i < L) : (((List.range L).map fun t => if t < i then g' t else g t).map V.int).set i (.int (g' i)) = ((List.range L).map fun t => if t < i + 1 then g' t else g t).map V.int := by
  refine List.ext_getElem (by simp) fun t h1 h2 => ?_
  rw [List.getElem_set]
  simp only [List.getElem_map, List.getElem_range]
  by_cases c : i = t
  · subst c
    rw [if_pos rfl, if_pos (by omega)]
  · rw [if_neg c]
    congr 1
    by_cases c2 : t < i
    · rw [if_pos c2, if_pos (by omega)]
    · rw [if_neg c2, if_neg (by omega)]
theorem get_range {L i : Nat} {g : Nat → Int} (hi : i < L) : atI (((List.range L).map g).map V.int) (i : Int) = some (.int (g i)) := by
  refine atI_nat ?_
  rw [List.getElem?_map, List.getElem?_map, List.getElem?_range hi]
  rfl
def spTw : Sp := fun vs H Q _ => ∃ (p : Addr) (ns : List Int) (m n k : Nat), vs = [.ref p, .int m, .int n, .int k] ∧ H p = some (.tup (ns.map V.int)) ∧ 1 ≤ ns.length ∧ ns.length ≤ 400 ∧ (0 < m ∧ m < 9) ∧ (0 < n ∧ n < 9) ∧ okW k = true ∧ (∀ x ∈ ns, Sz 50 x) ∧ ∀ H', Same H H' → Q (.bl true) H'
/-- a call of the program's own that raises nothing -/
theorem oper_ok {H : Hp} {Q : VK} {E : XK} {p : Addr} {ns : List Int} {n k : Nat} (hp : H p = some (.tup (ns.map V.int))) (l1 : 1 ≤ ns.length) (l4 : ns.length ≤ 400) (n1 : 1 ≤ n) (n4 : n ≤ 400) (hk : okW k = true) (sz : ∀ y ∈ ns, Sz 3000 y)
    (q : ∀ p' H', Same H H' → H p' = none → H' p' = some (.tup ((opF ns n k).map V.int)) → Q (.ref p') H') : spOper K CM [.ref p, .int n, .int k] H Q E :=
  ⟨_, _, _, rfl, .inr ⟨p, ns, rfl, hp, l1, l4, .inr ⟨n, rfl, n1, n4, .inr ⟨k, rfl, hk, sz, q⟩⟩⟩⟩
theorem cal_tw (D : Dn K mg "_law_twice_holds" s__law_twice_holds ["f", "m", "n", "k"]) (B : Bl mg) (c_operated : CalX P w K mg base "operated" 5 ["f", "n", "k"] (spOper K CM)) (c__law_plain : Cal P w K mg base "_law_plain" 4 ["value"] spPl1) (c__law_is_equal : Cal P w K mg base "_law_is_equal" 3 ["value", "due"] spEq1)
    (c__law_common : Cal P w K mg base "_law_common" 1 ["a", "b"] spComm) (c__law_operated : Cal P w K mg base "_law_operated" 2 ["f", "n", "k"] spLOp) (c__law_pow : Cal P w K mg base "_law_pow" 1 ["x", "n"] spPow) : Cal P w K mg base "_law_twice_holds" 6 ["f", "m", "n", "k"] spTw := by
  refine D.cal sc__law_twice_holds (fun vs H Q E h => ?_) (fun f cdv A outer s H vs Q E hr h => ?_)
  · obtain ⟨p, ns, m, n, k, rfl, _⟩ := h
    rfl
  · obtain ⟨p, ns, m, n, k, rfl, hp, l1, l4, hm, hn, hk, sz, q⟩ := h
    refine ⟨_, (pss_cons (ps_set (i := 4) sc__law_twice_holds.nd rfl (Or.inl rfl) (pe_cal c__law_plain (hr.mono (by decide)) rfl (pa_cons (pe_calS c_operated takes0 (hr.mono (by decide)) rfl (pa_cons (pe_cal c__law_plain (hr.mono (by decide)) rfl (pa_cons (pe_calS c_operated takes0 (hr.mono (by decide)) rfl (pa_cons (pv 0) (pa_cons (pv 1) (pa_cons (pv 3) pa_nil)))) pa_nil)) (pa_cons (pv 2) (pa_cons (pv 3) pa_nil)))) pa_nil)))
  (pss_cons (ps_if (pt_not (pt_val (pe_cal c__law_is_equal (hr.mono (by decide)) rfl (pa_cons (pe_cal c__law_plain (hr.mono (by decide)) rfl (pa_cons (pe_calS c_operated takes0 (hr.mono (by decide)) rfl (pa_cons (pe_cal c__law_plain (hr.mono (by decide)) rfl (pa_cons (pe_calS c_operated takes0 (hr.mono (by decide)) rfl (pa_cons (pv 0) (pa_cons (pv 2) (pa_cons (pv 3) pa_nil)))) pa_nil)) (pa_cons (pv 1) (pa_cons (pv 3) pa_nil)))) pa_nil)) (pa_cons (pv 4) pa_nil))))) (pss_one (ps_ret pe_bl)) pss_nil)
  (pss_cons (ps_setLc (i := 5) (own := [("item", 8)]) rfl sc__law_twice_holds.nd rfl rfl (sw_true rfl rfl rfl (by decide +kernel)) (pi_tup (pv 4)) (blkOk_by (N := ["f", "m", "n", "k", "both", "total", "g", "c", "item", "part", "i"]) (sc := defScope s__law_twice_holds) (own := [("item", 8)]) (by decide +kernel)) (fun _ _ _ _ _ => (pg_name (i := 8) sc__law_twice_holds.nd rfl (Or.inl rfl))) (fun _ _ _ _ _ => pts_nil) (fun _ _ _ _ _ => pe_int))
  (pss_cons (ps_set (i := 6) sc__law_twice_holds.nd rfl (Or.inl rfl) (pe_cal c__law_common (hr.mono (by decide)) rfl (pa_cons (pv 1) (pa_cons (pv 2) pa_nil))))
  (pss_cons (ps_for PassesOwn.never rfl (pi_range2 rfl B.range (pa_cons pe_int (pa_cons (pe_op op_add (pv 6) pe_int) pa_nil))) (pg_name (i := 7) sc__law_twice_holds.nd rfl (Or.inl rfl)) (pss_one (ps_if (pt_cmpR op_eq (pe_op op_mod (pe_callTy call_int1 rfl B.int boot_int (pa_cons (pv 6) pa_nil)) (pv 7)) pe_int (nomark _)) (pss_cons (ps_set (i := 9) sc__law_twice_holds.nd rfl (Or.inl rfl) (pe_cal c__law_operated (hr.mono (by decide)) rfl (pa_cons (pv 0) (pa_cons (pe_op op_fdivW (pe_op op_mulI (pv 1) (pv 2)) (pe_op op_mulI (pv 7) (pv 7))) (pa_cons (pv 3) pa_nil)))))
  (pss_one (ps_for PassesOwn.never rfl (pi_range1 rfl B.range (pa_cons (pe_callB cr_lenS rfl B.len (by decide +kernel) (pa_cons (pv 4) pa_nil)) pa_nil)) (pg_name (i := 10) sc__law_twice_holds.nd rfl (Or.inl rfl)) (pss_one (ps_if (pt_cmpR op_lt (pv 10) (pe_callB cr_lenS rfl B.len (by decide +kernel) (pa_cons (pv 9) pa_nil)) (nomark _)) (pss_one (ps_asg (pe_op op_add (pe_ix ix_list (pv 5) (pv 10) (fun _ _ => rfl)) (pe_op op_mulI (pe_cal c__law_pow (hr.mono (by decide)) rfl (pa_cons (pv 7) (pa_cons (pe_op op_sub (pv 3) pe_int) pa_nil))) (pe_ix ix_tup (pv 9) (pv 10) (fun _ _ => rfl)))) (pg_sub (pv 5) (pv 10) set_list))) pss_nil))))) pss_nil)))
  (pss_one (ps_ret (pe_cmpR (op_eqD hr.units) (pe_callTy cr_tupOf rfl B.tuple boot_tuple (pa_cons (pv 5) pa_nil)) (pv 4) (nomark _))))))))), ?_⟩
    have hk' := of_decide_eq_true hk
    have sz3 : ∀ y ∈ ns, Sz 3000 y := fun y hy => (sz y hy).le (by decide)
    have one : ∀ {n : Nat}, 0 < n ∧ n < 9 → 1 ≤ (opF ns n k).length ∧ (opF ns n k).length ≤ 400 ∧ ∀ y ∈ opF ns n k, Sz 3000 y := fun {n} h => ⟨by rw [opF_len]; exact Nat.le_add_left 1 _, opF_le l4, fun y hy => (opF_sz (by omega) (by omega) sz y hy).le (by decide)⟩
    obtain ⟨m1, m2, m3⟩ := one hm
    obtain ⟨n1, n2, n3⟩ := one hn
    have bl : (opF (opF ns m k) n k).length ≤ 400 := opF_le m2
    walk_at "nx"
    refine oper_ok hp l1 l4 hm.1 (by omega) hk sz3 fun a1 H1 s1 np1 h1 => ⟨a1, _, rfl, h1, by omega, fun H2 s2 => ?_⟩
    refine oper_ok (s2 _ _ h1) m1 m2 hn.1 (by omega) hk m3 fun bo H3 s3 np3 h3 => ⟨bo, _, rfl, h3, by omega, fun H4 s4 => ?_⟩
    have s14 := ((s1.trans s2).trans s3).trans s4
    have hbo := s4 _ _ h3
    walk_at "nx"
    refine oper_ok (s14 _ _ hp) l1 l4 hn.1 (by omega) hk sz3 fun a5 H5 s5 np5 h5 => ⟨a5, _, rfl, h5, by omega, fun H6 s6 => ?_⟩
    refine oper_ok (s6 _ _ h5) n1 n2 hm.1 (by omega) hk n3 fun b7 H7 s7 np7 h7 => ⟨b7, _, rfl, h7, by have := opF_le (n := m) (k := k) n2; omega, fun H8 s8 => ?_⟩
    have s48 := ((s5.trans s6).trans s7).trans s8
    refine ⟨b7, bo, _, _, rfl, s8 _ _ h7, s48 _ _ hbo, by omega, fun H9 s9 => ⟨_, rfl, ?_⟩⟩
    rw [op_twice_comm hm hn, decide_eq_true rfl, if_neg (by decide)]
    have s19 := (s14.trans s48).trans s9
    have hbo9 := (s48.trans s9) _ _ hbo
    have hp9 := s19 _ _ hp
    clear h1 h3 hbo h5 h7 s1 s2 s3 s4 s5 s6 s7 s8 s9 s14 s48 np1 np3 np5 np7
    walk_at "nx"
    generalize hL : (opF (opF ns m k) n k).length = L at *
    have hL2 : L = (ns.length - 1) / (m * n) + 1 := by rw [← hL, len2]
    have eB := op_twice (ns := ns) (k := k) hm hn
    rw [← hL2] at eB
    have sm9 : ∀ x : Nat, x ≤ 400 → Sz 20 (x : Int) := fun x hx => by
      unfold Sz
      rw [Int.natAbs_natCast]
      exact Nat.lt_of_le_of_lt hx (by decide)
    refine ⟨⟨_, SqT.of hbo9⟩, LcT.p (xs := (opF (opF ns m k) n k).map V.int) (fun _ => some (.int 0)) (by rw [List.length_map, hL]; omega) (fun H1 s => SqT.of (s _ _ hbo9)) (fun i x hx H1 s1 M S hM hS => ?_) (fun it H1 nit s1 h1 => ?_)⟩
    · walk_at "rs"
      exact hM _ _ rfl (Same.refl _)
    have e0 : (List.range ((opF (opF ns m k) n k).map V.int).length).filterMap (fun _ => some (V.int 0)) = ((List.range L).map (twS ns m n k 0)).map V.int := by
      rw [List.length_map, hL, List.map_map, ← List.filterMap_eq_map]
      rfl
    rw [e0] at h1
    have g1 : Nat.gcd m n ≤ m := Nat.gcd_le_left n hm.1
    have g0 : 0 < Nat.gcd m n := Nat.gcd_pos_of_pos_left n hm.1
    generalize hg : Nat.gcd m n = g at *
    walk_at "nx"
    refine ⟨m, n, rfl, ?_⟩
    rw [hg]
    walk_at "nx"
    refine ⟨by decide, by decide, by omega, by omega, ?_⟩
    rw [show ((g : Int) + 1 - 1).toNat = g by omega]
    refine ForR.w (fun j σ H3 => ∃ s7 s9 s10, σ = [some (.ref p), some (.int m), some (.int n), some (.int k), some (.ref bo), some (.ref it), some (.int g), s7, none, s9, s10] ∧ Same H9 H3 ∧ H3 it = some (.lst (((List.range L).map (twS ns m n k j)).map V.int)) ∧ j ≤ g) ⟨_, _, _, rfl, s1, h1, Nat.zero_le _⟩ ?_ ?_
    · rintro j σ H3 hj ⟨s7, s9, s10, rfl, sm, h3, _⟩ N hN
      walk_at "rs"
      have e1 : (1 + (j : Int)) = ((j + 1 : Nat) : Int) := by omega
      rw [e1]
      refine ⟨by omega, ite2 (fun c => ?_) (fun c => ?_)⟩
      · have c' : g % (j + 1) = 0 := by exact_mod_cast c
        have c0 : (0 : Int) < ((j + 1 : Nat) : Int) * ((j + 1 : Nat) : Int) := Int.mul_pos (by omega) (by omega)
        walk_at "nx"
        have d1 : (j + 1) * (j + 1) ∣ m * n := by
          have := Nat.dvd_of_mod_eq_zero c'
          rw [← hg] at this
          exact Nat.mul_dvd_mul (Nat.dvd_trans this (Nat.gcd_dvd_left m n)) (Nat.dvd_trans this (Nat.gcd_dvd_right m n))
        have mn0 : 0 < m * n := Nat.mul_pos hm.1 hn.1
        have mn8 : m * n ≤ 8 * 8 := Nat.mul_le_mul (by omega) (by omega)
        have N0 : 0 < m * n / ((j + 1) * (j + 1)) := Nat.div_pos (Nat.le_of_dvd mn0 d1) (Nat.mul_pos (by omega) (by omega))
        have N1 : m * n / ((j + 1) * (j + 1)) ≤ m * n := Nat.div_le_self _ _
        have lp : L ≤ (ns.length - 1) / (m * n / ((j + 1) * (j + 1))) + 1 := by
          rw [hL2]
          exact Nat.add_le_add_right (Nat.div_le_div_left N1 N0) 1
        have eN : ((m : Int) * n / (((j + 1 : Nat) : Int) * ((j + 1 : Nat) : Int))) = ((m * n / ((j + 1) * (j + 1)) : Nat) : Int) := by rw [Int.natCast_ediv, Int.natCast_mul, Int.natCast_mul]
        rw [eN]
        have tS : ∀ i, twS ns m n k (j + 1) i = twS ns m n k j i + pw (j + 1) (k - 1) * opI (ns.getD · 0) (m * n / ((j + 1) * (j + 1))) (k - 1) i := fun i => by rw [twS_succ, hg, if_pos c']
        generalize hN' : m * n / ((j + 1) * (j + 1)) = N' at *
        refine ⟨(sm9 m (by omega)).ok (sm9 n (by omega)) (by decide) (by decide), (sm9 (j + 1) (by omega)).ok (sm9 (j + 1) (by omega)) (by decide) (by decide), ⟨c0, ?_⟩, p, ns, N', k, rfl, sm _ _ hp9, l1, l4, N0, by omega, by omega, by omega, sz3, fun pa H4 s4 np4 h4 => ?_⟩
        · exact Nat.lt_of_lt_of_le (Nat.log2_lt (by omega) |>.mpr (show (((j + 1 : Nat) : Int) * ((j + 1 : Nat) : Int)).natAbs < 2 ^ 40 from ((sm9 (j + 1) (by omega)).mul (sm9 (j + 1) (by omega))))) (by decide)
        have sm4 := sm.trans s4
        have l0 := (opF (opF ns m k) n k).length
        refine ⟨L, .inr ⟨_, SqT.of (sm4 _ _ hbo9), by rw [List.length_map, hL]⟩, by omega, by omega, ?_⟩
        rw [Int.toNat_natCast]
        have dpi : pa ≠ it := (ne_of_none h3 np4).symm
        refine ForR.w (fun i σ H5 => ∃ s10, σ = [some (V.ref p), some (.int m), some (.int n), some (.int k), some (.ref bo), some (.ref it), some (.int g), some (.int ((j + 1 : Nat) : Int)), none, some (.ref pa), s10] ∧ Same H9 H5 ∧ H5 pa = some (.tup ((opF ns N' k).map V.int)) ∧ H5 it = some (.lst (((List.range L).map (fun t => if t < i then twS ns m n k (j + 1) t else twS ns m n k j t)).map V.int)) ∧ i ≤ L) ⟨_, rfl, sm4, h4, ?_, Nat.zero_le _⟩ ?_ ?_
        · rw [s4 _ _ h3]
          congr 3
        · rintro i σ H5 hi ⟨s10, rfl, sm5, h5p, h5, _⟩ N5 hN5
          walk_at "rs"
          have e5 : (0 + (i : Int)) = (i : Int) := by omega
          rw [e5]
          refine ⟨(opF ns N' k).length, .inr ⟨_, SqT.of h5p, by rw [List.length_map]⟩, ?_⟩
          rw [opF_len, if_pos (by omega)]
          refine ⟨_, SqL.of h5, _, get_range hi, j + 1, k - 1, ?_, by omega, by omega, ?_⟩
          · rw [show (((k - 1 : Nat) : Int)) = (k : Int) - 1 by omega]
          refine ⟨_, SqT.of h5p, .int (opI (ns.getD · 0) N' (k - 1) i), ?_, ?_⟩
          · refine atI_nat ?_
            unfold opF opL
            rw [List.getElem?_map, List.getElem?_map, List.getElem?_range (by omega)]
            rfl
          have zc : Sz 900 (pw (j + 1) (k - 1)) := by
            have := pow_sz (c := j + 1) (e := k - 1) (by omega) (by omega)
            unfold Sz pw
            rw [Int.natAbs_natCast]
            exact this
          have zo : Sz 1000 (opI (ns.getD · 0) N' (k - 1) i) := opI_sz (by omega) (by omega) (getD_sz sz)
          refine ⟨_, rfl, _, rfl, zc.ok zo (by decide) (by decide), _, rfl, _, h5, i, ?_, hN5 _ _ ⟨_, rfl, same_updD sm5 nit, ?_, ?_, by omega⟩⟩
          · rw [List.length_map, List.length_map, List.length_range]
            exact ixNk hi
          · rw [upd_ne dpi]
            exact h5p
          · rw [upd_same, if_neg (by omega), ← tS, set_range hi]
        · rintro σ H5 ⟨s10, rfl, sm5, h5p, h5, _⟩
          refine hN _ _ ⟨_, _, _, rfl, sm5, ?_, by omega⟩
          rw [h5]
          congr 3
          refine List.map_congr_left fun t ht => ?_
          rw [if_pos (List.mem_range.mp ht)]
      · have c' : ¬ g % (j + 1) = 0 := fun z => c (by exact_mod_cast z)
        refine hN _ _ ⟨_, _, _, rfl, sm, ?_, by omega⟩
        rw [h3]
        congr 3
        refine List.map_congr_left fun i _ => ?_
        rw [twS_succ, hg, if_neg c']
    · rintro σ H3 ⟨s7, s9, s10, rfl, sm, h3, _⟩
      walk_at "rs"
      refine ⟨_, .inl ⟨SqL.of h3, fun l nl => ⟨dIs _, dIs _, dp_I upd_same, dp_I (same_upd nl _ _ (sm _ _ hbo9)), shaped_ints _, shaped_ints _, ?_⟩⟩⟩
      rw [eqv_ints, eB, decide_eq_true rfl]
      exact q _ ((s19.trans sm).trans (same_upd nl))
end

section
variable {P : Program} {w : World} {K : PySem.W.Frag} {mg : Str → Option Value} {base : Heap} {CM : Addr}
abbrev s_law : Stmt := top 36
theorem sc_law : FnScope ["script", "state", "k", "size", "most", "f", "n", "a", "b", "bad", "i"] ["script"] (defScope s_law) := ⟨rfl, rfl, rfl, by decide +kernel, rfl, by decide +kernel, by decide +kernel⟩

def spLaw (K : PySem.W.Frag) : Sp := fun vs H Q _ => ∃ (a : Addr) (ns : List Int), vs = [.ref a] ∧ SqL K H a (ns.map V.int) ∧ ns.length ≤ 63 ∧ ∀ H', Q (.bl true) H'
theorem bad_non {H : Hp} : BadS K H .non := .inl ⟨"NoneType", .base .non, by decide, by decide⟩
theorem bad_int {H : Hp} (n : Int) : BadS K H (.int n) := .inl ⟨"int", .base (.int n), by decide, by decide⟩
theorem bad_str {H : Hp} (x : Str) : BadS K H (.str x) := .inl ⟨"str", .base (.str x), by decide, by decide⟩
theorem bad_lst {H : Hp} {l : Addr} {xs : List V} (h : H l = some (.lst xs)) : BadS K H (.ref l) := .inl ⟨"list", .base (.lst h), by decide, by decide⟩
theorem its_app {H : Hp} {xs ys : List V} {ts us : List String} (h : Its K H xs ts) (h' : Its K H ys us) : Its K H (xs ++ ys) (ts ++ us) := by
  refine ⟨by rw [List.length_append, List.length_append, h.1, h'.1], fun i x t hx ht => ?_⟩
  rcases Nat.lt_or_ge i xs.length with c | c
  · rw [List.getElem?_append_left c] at hx
    rw [List.getElem?_append_left (by rw [h.1]; exact c)] at ht
    exact h.2 i x t hx ht
  · rw [List.getElem?_append_right c] at hx
    rw [List.getElem?_append_right (by rw [h.1]; exact c), h.1] at ht
    exact h'.2 _ x t hx ht
theorem its_bl {H : Hp} (b : Bool) : Its K H [.bl b] ["bool"] := by
  refine ⟨rfl, fun i x t hx ht => ?_⟩
  match i, hx, ht with
  | 0, hx, ht => cases hx; cases ht; exact ⟨fun H' _ => .base (.bl b), by decide⟩
  | n + 1, hx, ht => simp at hx
theorem its_ref {H : Hp} {p : Addr} {xs : List V} (h : H p = some (.tup xs)) : Its K H [.ref p] ["tuple"] := by
  refine ⟨rfl, fun i x t hx ht => ?_⟩
  match i, hx, ht with
  | 0, hx, ht => cases hx; cases ht; exact ⟨fun H' s => .base (.tup (s _ _ h)), by decide⟩
  | n + 1, hx, ht => simp at hx
def kdF : V → String
  | .bl _ => "bool"
  | .non => "NoneType"
  | .str _ => "str"
  | _ => "int"
def fl : V → Bool
  | .int _ => true
  | .bl _ => true
  | .non => true
  | .str _ => true
  | _ => false
theorem kd_flat {H : Hp} {v : V} (h : fl v = true) : KdS K H v (kdF v) := by
  cases v with
  | int n => exact ⟨fun _ _ => .base (.int n), by show "int" ∈ kinds; decide⟩
  | bl b => exact ⟨fun _ _ => .base (.bl b), by show "bool" ∈ kinds; decide⟩
  | non => exact ⟨fun _ _ => .base .non, by show "NoneType" ∈ kinds; decide⟩
  | str s => exact ⟨fun _ _ => .base (.str s), by show "str" ∈ kinds; decide⟩
  | _ => cases h
theorem badI_flat {H : Hp} {v : V} {ok : Int → Bool} (h : (match v with | .int n => !ok n | .bl _ => true | .non => true | .str _ => true | _ => false) = true) : BadIs K ok H v := by
  cases v with
  | int n => exact .inr ⟨n, rfl, by simpa using h⟩
  | bl b => exact .inl ⟨_, kd_flat (K := K) (v := .bl b) rfl, by show ("bool" == "int") = false; decide⟩
  | non => exact .inl ⟨_, kd_flat (K := K) (v := .non) rfl, by show ("NoneType" == "int") = false; decide⟩
  | str s => exact .inl ⟨_, kd_flat (K := K) (v := .str s) rfl, by show ("str" == "int") = false; decide⟩
  | _ => cases h
theorem badI_tup {H : Hp} {p : Addr} {xs : List V} {ok : Int → Bool} (h : H p = some (.tup xs)) : BadIs K ok H (.ref p) := .inl ⟨"tuple", ⟨fun H' s => .base (.tup (s _ _ h)), by decide⟩, by decide⟩
theorem pick2 {v : Int} (h0 : 0 ≤ v) (h1 : v < 2) (a b : V) : ∃ x, atI [a, b] v = some x ∧ (x = a ∨ x = b) := by
  have c : v = 0 ∨ v = 1 := by omega
  rcases c with rfl | rfl
  · exact ⟨_, rfl, .inl rfl⟩
  · exact ⟨_, rfl, .inr rfl⟩
theorem pick3 {v : Int} (h0 : 0 ≤ v) (h1 : v < 3) (a b c : V) : ∃ x, atI [a, b, c] v = some x ∧ (x = a ∨ x = b ∨ x = c) := by
  have c : v = 0 ∨ v = 1 ∨ v = 2 := by omega
  rcases c with rfl | rfl | rfl
  · exact ⟨_, rfl, .inl rfl⟩
  · exact ⟨_, rfl, .inr (.inl rfl)⟩
  · exact ⟨_, rfl, .inr (.inr rfl)⟩
theorem pick4 {v : Int} (h0 : 0 ≤ v) (h1 : v < 4) (a b c d : V) : ∃ x, atI [a, b, c, d] v = some x ∧ (x = a ∨ x = b ∨ x = c ∨ x = d) := by
  have c : v = 0 ∨ v = 1 ∨ v = 2 ∨ v = 3 := by omega
  rcases c with rfl | rfl | rfl | rfl
  · exact ⟨_, rfl, .inl rfl⟩
  · exact ⟨_, rfl, .inr (.inl rfl)⟩
  · exact ⟨_, rfl, .inr (.inr (.inl rfl))⟩
  · exact ⟨_, rfl, .inr (.inr (.inr rfl))⟩
theorem ok_law {f : Addr} {fd : FuncData} (F : Fun K "law" "law" s_law f fd) (B : Bl mg) (c__law_state : Cal P w K mg base "_law_state" 1 ["script"] (spState K)) (c__law_take : Cal P w K mg base "_law_take" 1 ["state", "m"] spTake) (c__law_weight : Cal P w K mg base "_law_weight" 2 ["state", "most"] spWt)
    (c__law_told : Cal P w K mg base "_law_told" 6 ["f", "n", "k"] (spTold K)) (c__law_operated : Cal P w K mg base "_law_operated" 2 ["f", "n", "k"] spLOp) (c__law_is_equal : Cal P w K mg base "_law_is_equal" 3 ["value", "due"] spEq1) (c__law_twice_holds : Cal P w K mg base "_law_twice_holds" 6 ["f", "m", "n", "k"] spTw) :
    FnOk P w K mg base CX0 7 f fd ["script"] (spLaw K) := by
  refine F.ok sc_law (fun vs H Q E h => by obtain ⟨a, ns, rfl, _⟩ := h; rfl) (fun cdv A outer s H vs Q E hr h => ?_)
  obtain ⟨a, ns, rfl, ha, hl, q⟩ := h
  refine ⟨_, (pss_cons (ps_set (i := 1) sc_law.nd rfl (Or.inr rfl) (pe_cal c__law_state (hr.mono (by decide)) rfl (pa_cons (pv 0) pa_nil)))
  (pss_cons (ps_set (i := 2) sc_law.nd rfl (Or.inl rfl) (pe_cal c__law_weight (hr.mono (by decide)) rfl (pa_cons (pv 1) (pa_cons (pe_ix ix_list (pe_lst (pa_cons pe_int (pa_cons pe_int pa_nil))) (pe_cal c__law_take (hr.mono (by decide)) rfl (pa_cons (pv 1) (pa_cons pe_int pa_nil))) (fun _ _ => rfl)) pa_nil))))
  (pss_cons (ps_set (i := 3) sc_law.nd rfl (Or.inl rfl) (pe_ix ix_list (pe_lst (pa_cons (pe_op op_add pe_int (pe_cal c__law_take (hr.mono (by decide)) rfl (pa_cons (pv 1) (pa_cons pe_int pa_nil)))) (pa_cons (pe_op op_add pe_int (pe_cal c__law_take (hr.mono (by decide)) rfl (pa_cons (pv 1) (pa_cons pe_int pa_nil)))) (pa_cons pe_int pa_nil)))) (pe_cal c__law_take (hr.mono (by decide)) rfl (pa_cons (pv 1) (pa_cons pe_int pa_nil))) (fun _ _ => rfl)))
  (pss_cons (ps_set (i := 4) sc_law.nd rfl (Or.inr rfl) (pe_ix ix_list (pe_lst (pa_cons pe_int (pa_cons pe_int (pa_cons (pe_op op_powI pe_int pe_int) pa_nil)))) (pe_cal c__law_take (hr.mono (by decide)) rfl (pa_cons (pv 1) (pa_cons pe_int pa_nil))) (fun _ _ => rfl)))
  (pss_cons (ps_set (i := 5) sc_law.nd rfl (Or.inl rfl) (pe_callTy cr_tupOf rfl B.tuple boot_tuple (pa_cons (pe_lc (own := [("i", 10)]) rfl sc_law.nd (pi_range1 rfl B.range (pa_cons (pv 3) pa_nil)) (blkOk_by (N := ["script", "state", "k", "size", "most", "f", "n", "a", "b", "bad", "i"]) (sc := defScope s_law) (own := [("i", 10)]) (by decide +kernel)) (fun _ _ _ _ _ => (pg_name (i := 10) sc_law.nd rfl (Or.inl rfl))) (fun _ _ _ _ _ => pts_nil) (fun _ _ _ _ _ => (pe_op op_sub (pe_cal c__law_take (hr.mono (by decide)) rfl (pa_cons (pv 1) (pa_cons (pe_op op_add (pe_op op_mulI pe_int (pv 4)) pe_int) pa_nil))) (pv 4)))) pa_nil)))
  (pss_cons (ps_set (i := 6) sc_law.nd rfl (Or.inl rfl) (pe_ix ix_list (pe_lst (pa_cons (pe_op op_add pe_int (pe_cal c__law_take (hr.mono (by decide)) rfl (pa_cons (pv 1) (pa_cons pe_int pa_nil)))) (pa_cons (pe_op op_add pe_int (pe_cal c__law_take (hr.mono (by decide)) rfl (pa_cons (pv 1) (pa_cons pe_int pa_nil)))) (pa_cons pe_int (pa_cons pe_int pa_nil))))) (pe_cal c__law_take (hr.mono (by decide)) rfl (pa_cons (pv 1) (pa_cons pe_int pa_nil))) (fun _ _ => rfl)))
  (pss_cons (ps_if (pt_not (pt_val (pe_cal c__law_is_equal (hr.mono (by decide)) rfl (pa_cons (pe_cal c__law_told (hr.mono (by decide)) rfl (pa_cons (pv 5) (pa_cons (pv 6) (pa_cons (pv 2) pa_nil)))) (pa_cons (pe_cal c__law_operated (hr.mono (by decide)) rfl (pa_cons (pv 5) (pa_cons (pv 6) (pa_cons (pv 2) pa_nil)))) pa_nil))))) (pss_one (ps_ret pe_bl)) pss_nil)
  (pss_cons (ps_par (i := 7) (j := 8) rfl sc_law.nd rfl rfl (by decide) rfl rfl (pa_cons (pe_op op_add pe_int (pe_cal c__law_take (hr.mono (by decide)) rfl (pa_cons (pv 1) (pa_cons pe_int pa_nil)))) (pa_cons (pe_op op_add pe_int (pe_cal c__law_take (hr.mono (by decide)) rfl (pa_cons (pv 1) (pa_cons pe_int pa_nil)))) pa_nil)) (by rfl))
  (pss_cons (ps_if (pt_not (pt_val (pe_cal c__law_twice_holds (hr.mono (by decide)) rfl (pa_cons (pv 5) (pa_cons (pv 7) (pa_cons (pv 8) (pa_cons (pv 2) pa_nil))))))) (pss_one (ps_ret pe_bl)) pss_nil)
  (pss_cons (ps_for PassesOwn.never rfl (pi_list (pe_lst (pa_cons pe_non (pa_cons pe_int (pa_cons (pe_callTy call_list_of rfl B.list boot_list (pa_cons (pv 5) pa_nil)) (pa_cons (pe_tup pa_nil) (pa_cons (pe_op op_catT (pv 5) (pe_tup (pa_cons pe_bl pa_nil))) (pa_cons (pe_tup (pa_cons (pv 5) pa_nil)) (pa_cons pe_str (pa_cons (pe_op op_repT (pe_tup (pa_cons pe_int pa_nil)) pe_int) pa_nil)))))))))) (pg_name (i := 9) sc_law.nd rfl (Or.inl rfl)) (pss_one (ps_if (pt_cmpR op_ne (pe_cal c__law_told (hr.mono (by decide)) rfl (pa_cons (pv 9) (pa_cons (pv 6) (pa_cons (pv 2) pa_nil)))) pe_str (nomark _)) (pss_one (ps_ret pe_bl)) pss_nil)))
  (pss_cons (ps_for PassesOwn.never rfl (pi_list (pe_lst (pa_cons pe_int (pa_cons (pe_un un_neg pe_int) (pa_cons pe_int (pa_cons pe_bl (pa_cons pe_non (pa_cons pe_str (pa_cons (pe_tup (pa_cons pe_int pa_nil)) pa_nil))))))))) (pg_name (i := 9) sc_law.nd rfl (Or.inl rfl)) (pss_one (ps_if (pt_cmpR op_ne (pe_cal c__law_told (hr.mono (by decide)) rfl (pa_cons (pv 5) (pa_cons (pv 9) (pa_cons (pv 2) pa_nil)))) pe_str (nomark _)) (pss_one (ps_ret pe_bl)) pss_nil)))
  (pss_cons (ps_for PassesOwn.never rfl (pi_list (pe_lst (pa_cons pe_int (pa_cons pe_int (pa_cons pe_int (pa_cons pe_int (pa_cons pe_int (pa_cons pe_bl (pa_cons pe_non (pa_cons pe_str pa_nil)))))))))) (pg_name (i := 9) sc_law.nd rfl (Or.inl rfl)) (pss_one (ps_if (pt_cmpR op_ne (pe_cal c__law_told (hr.mono (by decide)) rfl (pa_cons (pv 5) (pa_cons (pv 6) (pa_cons (pv 9) pa_nil)))) pe_str (nomark _)) (pss_one (ps_ret pe_bl)) pss_nil)))
  (pss_one (ps_ret pe_bl)))))))))))))), ?_⟩
  walk_at "nx"
  refine ⟨a, ns, rfl, ha, hl, fun st x0 y0 H1 s1 np1 h1 => ?_⟩
  walk_at "nx"
  refine ⟨by decide, fun l2 nl2 => ⟨st, x0, y0, _, rfl, (same_upd nl2) _ _ h1, by decide, by decide +kernel, fun v x1 y1 v0 v1 => ?_⟩⟩
  have n2 : l2 ≠ st := (ne_of_none h1 nl2).symm
  obtain ⟨w1, e1, hw1⟩ := pick2 v0 v1 (.int 20) (.int 100)
  refine ⟨_, v, rfl, SqL.of (by rw [upd_ne n2, upd_same]), w1, e1, ?_⟩
  obtain ⟨w1, rfl, b1⟩ : ∃ i : Int, w1 = .int i ∧ (4 ≤ i ∧ i ≤ 100) := by
    rcases hw1 with rfl | rfl
    · exact ⟨_, rfl, by decide⟩
    · exact ⟨_, rfl, by decide⟩
  refine ⟨st, _, _, w1, rfl, upd_same, b1.1, b1.2, fun k x2 y2 hk => ?_⟩
  have h2 : (upd (upd (upd H1 l2 (.lst [.int 20, .int 100])) st (.lst [.int x1, .int y1])) st (.lst [.int x2, .int y2])) st = some (.lst [.int x2, .int y2]) := upd_same
  generalize (upd (upd (upd H1 l2 (.lst [.int 20, .int 100])) st (.lst [.int x1, .int y1])) st (.lst [.int x2, .int y2])) = H2 at *
  clear s1 np1 h1 e1 hw1 n2 nl2
  walk_at "nx"
  refine ⟨st, x2, y2, _, rfl, h2, by decide, by decide +kernel, fun u1 x3 y3 u10 u11 => ⟨u1, rfl, st, x3, y3, _, rfl, upd_same, by decide, by decide +kernel, fun u2 x4 y4 u20 u21 => ⟨u2, rfl, by decide, fun l3 nl3 => ?_⟩⟩⟩
  have n3 : st ≠ l3 := ne_of_none upd_same nl3
  refine ⟨st, x4, y4, _, rfl, same_upd nl3 _ _ upd_same, by decide, by decide +kernel, fun u3 x5 y5 u30 u31 => ?_⟩
  obtain ⟨w2, e2, hw2⟩ := pick3 u30 u31 (.int (1 + u1)) (.int (1 + u2)) (.int 400)
  refine ⟨_, u3, rfl, SqL.of (by rw [upd_ne n3.symm, upd_same]), w2, e2, ?_⟩
  obtain ⟨size, rfl, b2⟩ : ∃ i : Nat, w2 = .int i ∧ (1 ≤ i ∧ i ≤ 400) := by
    rcases hw2 with rfl | rfl | rfl
    · exact ⟨(1 + u1).toNat, by rw [Int.toNat_of_nonneg (by omega)], by omega⟩
    · exact ⟨(1 + u2).toNat, by rw [Int.toNat_of_nonneg (by omega)], by omega⟩
    · exact ⟨400, rfl, by decide⟩
  have h3 : ∀ G : Hp, (upd G st (.lst [.int x5, .int y5])) st = some (.lst [.int x5, .int y5]) := fun G => upd_same
  have h3 := h3 (upd (upd (upd H2 st (.lst [.int x3, .int y3])) st (.lst [.int x4, .int y4])) l3 (.lst [.int (1 + u1), .int (1 + u2), .int 400]))
  generalize (upd (upd (upd (upd H2 st (.lst [.int x3, .int y3])) st (.lst [.int x4, .int y4])) l3 (.lst [.int (1 + u1), .int (1 + u2), .int 400])) st (.lst [.int x5, .int y5])) = H3 at *
  clear h2 n3 nl3 e2 hw2
  walk_at "nx"
  refine ⟨⟨by decide, by decide +kernel⟩, by decide, fun l4 nl4 => ⟨st, x5, y5, _, rfl, (same_upd nl4) _ _ h3, by decide, by decide +kernel, fun u4 x6 y6 u40 u41 => ?_⟩⟩
  have n4 : st ≠ l4 := ne_of_none h3 nl4
  obtain ⟨w3, e3, hw3⟩ := pick3 u40 u41 (.int 1) (.int 9) (.int (10 ^ Int.toNat 12))
  refine ⟨_, u4, rfl, SqL.of (by rw [upd_ne n4.symm, upd_same]), w3, e3, ?_⟩
  obtain ⟨most, rfl, b3⟩ : ∃ i : Int, w3 = .int i ∧ (1 ≤ i ∧ i ≤ 10 ^ 12) := by
    rcases hw3 with rfl | rfl | rfl
    · exact ⟨_, rfl, by decide⟩
    · exact ⟨_, rfl, by decide⟩
    · exact ⟨_, rfl, by decide⟩
  have h4 : ∀ G : Hp, (upd G st (.lst [.int x6, .int y6])) st = some (.lst [.int x6, .int y6]) := fun G => upd_same
  have h4 := h4 (upd H3 l4 (.lst [.int 1, .int 9, .int (10 ^ Int.toNat 12)]))
  generalize (upd (upd H3 l4 (.lst [.int 1, .int 9, .int (10 ^ Int.toNat 12)])) st (.lst [.int x6, .int y6])) = H4 at *
  clear h3 n4 nl4 e3 hw3
  have mz : most.natAbs ≤ 10 ^ 12 := by omega
  walk_at "nx"
  refine ⟨by omega, by omega, ?_⟩
  rw [Int.toNat_natCast]
  refine LcR.i (fun i zs H1 => (∃ x y, H1 st = some (.lst [.int x, .int y])) ∧ ∃ ns : List Int, zs = ns.map V.int ∧ ns.length = i ∧ i ≤ size ∧ ∀ z ∈ ns, Sz 50 z) (fun i zs H1 D l l' h nD hD => ⟨?_, h.2⟩) (fun H1 s => ⟨⟨_, _, s _ _ h4⟩, [], rfl, rfl, Nat.zero_le _, fun z hz => by simp at hz⟩) (fun i zs H1 h => ?_) (fun i hi zs H1 h M S hM hS => ?_) (fun D zs H1 nD h hD => ?_)
  · obtain ⟨⟨x, y, h⟩, _⟩ := h
    exact ⟨x, y, by rw [upd_ne (ne_of_none h4 nD)]; exact h⟩
  · obtain ⟨_, ns, rfl, hn, hi, _⟩ := h
    rw [List.length_map]
    exact small_size (by omega)
  · obtain ⟨⟨x, y, h⟩, ns, rfl, hn, _, hz⟩ := h
    walk_at "rs"
    refine ⟨mulR (by omega), st, x, y, _, rfl, h, by omega, lg_int (by omega), fun v x' y' v0 v1 => ?_⟩
    refine ⟨v, rfl, hM _ _ (fun D l n e => ?_) ⟨⟨x', y', upd_same⟩, ns ++ [v - most], by rw [List.map_append]; rfl, by rw [List.length_append, hn]; rfl, by omega, fun z hz' => ?_⟩⟩
    · rw [upd_ne (fun z => by rw [z, h4] at n; cases n)]
      exact e
    · rcases List.mem_append.mp hz' with hz' | hz'
      · exact hz z hz'
      · rw [List.mem_singleton.mp hz']
        unfold Sz
        have : (2 : Nat) ^ 50 = 1125899906842624 := by decide
        omega
  obtain ⟨⟨x, y, h⟩, fs, rfl, hn, _, hz⟩ := h
  refine ⟨D, rfl, _, .inl ⟨SqL.of hD, fun p np => ?_⟩⟩
  have h5 := same_upd np (o := .tup (fs.map V.int)) _ _ h
  have hp : (upd H1 p (.tup (fs.map V.int))) p = some (.tup (fs.map V.int)) := upd_same
  generalize (upd H1 p (.tup (fs.map V.int))) = H5 at *
  clear hD nD h np h4
  walk_at "nx"
  refine ⟨st, x, y, _, rfl, h5, by decide, by decide +kernel, fun u5 x7 y7 u50 u51 => ⟨u5, rfl, st, x7, y7, _, rfl, upd_same, by decide, by decide +kernel, fun u6 x8 y8 u60 u61 => ⟨u6, rfl, by decide, fun l5 nl5 => ?_⟩⟩⟩
  have sp : p ≠ st := (ne_of h5 hp (by intro z; cases z)).symm
  have n5 : st ≠ l5 := ne_of_none upd_same nl5
  refine ⟨st, x8, y8, _, rfl, same_upd nl5 _ _ upd_same, by decide, by decide +kernel, fun u7 x9 y9 u70 u71 => ?_⟩
  obtain ⟨w4, e4, hw4⟩ := pick4 u70 u71 (.int (1 + u5)) (.int (1 + u6)) (.int 400) (.int 399)
  refine ⟨_, u7, rfl, SqL.of (by rw [upd_ne n5.symm, upd_same]), w4, e4, ?_⟩
  obtain ⟨n, rfl, b4⟩ : ∃ i : Nat, w4 = .int i ∧ (1 ≤ i ∧ i ≤ 400) := by
    rcases hw4 with rfl | rfl | rfl | rfl
    · exact ⟨(1 + u5).toNat, by rw [Int.toNat_of_nonneg (by omega)], by omega⟩
    · exact ⟨(1 + u6).toNat, by rw [Int.toNat_of_nonneg (by omega)], by omega⟩
    · exact ⟨400, rfl, by decide⟩
    · exact ⟨399, rfl, by decide⟩
  have h6 : ∀ G : Hp, (upd G st (.lst [.int x9, .int y9])) st = some (.lst [.int x9, .int y9]) := fun G => upd_same
  have h6 := h6 (upd (upd (upd H5 st (.lst [.int x7, .int y7])) st (.lst [.int x8, .int y8])) l5 (.lst [.int (1 + u5), .int (1 + u6), .int 400, .int 399]))
  have hp6 : (upd (upd (upd (upd H5 st (.lst [.int x7, .int y7])) st (.lst [.int x8, .int y8])) l5 (.lst [.int (1 + u5), .int (1 + u6), .int 400, .int 399])) st (.lst [.int x9, .int y9])) p = some (.tup (fs.map V.int)) := by
    rw [upd_ne sp]
    refine same_upd nl5 _ _ ?_
    rw [upd_ne sp, upd_ne sp]
    exact hp
  generalize (upd (upd (upd (upd H5 st (.lst [.int x7, .int y7])) st (.lst [.int x8, .int y8])) l5 (.lst [.int (1 + u5), .int (1 + u6), .int 400, .int 399])) st (.lst [.int x9, .int y9])) = H6 at *
  clear h5 n5 nl5 e4 hw4 hp
  obtain ⟨k, rfl⟩ : ∃ i : Nat, k = i := ⟨k.toNat, by have := of_decide_eq_true hk; omega⟩
  have hk' := of_decide_eq_true hk
  have zf : ∀ y ∈ fs, Sz 3000 y := fun y hy => (hz y hy).le (by decide)
  walk_at "nx"
  refine ⟨_, _, _, rfl, .inr ⟨p, fs, rfl, hp6, by omega, by omega, .inr ⟨n, rfl, b4.1, b4.2, .inr ⟨k, rfl, hk, zf, fun t7 H7 s7 h7 => ?_⟩⟩⟩⟩
  have hp7 := s7 _ _ hp6
  refine ⟨p, fs, n, k, rfl, hp7, by omega, by omega, b4.1, b4.2, by omega, by omega, zf, fun t8 H8 s8 np8 h8 => ⟨t7, t8, _, _, rfl, s8 _ _ h7, h8, by have := opF_le (n := n) (k := k) (show fs.length ≤ 400 by omega); omega, fun H9 s9 => ⟨_, rfl, ?_⟩⟩⟩
  rw [decide_eq_true rfl, if_neg (by decide)]
  have s69 := (s7.trans s8).trans s9
  have h9 := s69 _ _ h6
  have hp9 := s69 _ _ hp6
  clear h7 h8 hp7 s7 s8 s9 s69 h6 hp6
  walk_at "nx"
  refine ⟨st, _, _, _, rfl, h9, by decide, by decide +kernel, fun u8 xA yA u80 u81 => ⟨u8, rfl, st, xA, yA, _, rfl, upd_same, by decide, by decide +kernel, fun u9 xB yB u90 u91 => ⟨u9, rfl, ?_⟩⟩⟩
  have hpA : (upd (upd H9 st (.lst [.int xA, .int yA])) st (.lst [.int xB, .int yB])) p = some (.tup (fs.map V.int)) := by
    rw [upd_ne sp, upd_ne sp]
    exact hp9
  generalize (upd (upd H9 st (.lst [.int xA, .int yA])) st (.lst [.int xB, .int yB])) = HA at *
  obtain ⟨a', ea⟩ : ∃ i : Nat, 1 + u8 = i := ⟨(1 + u8).toNat, by omega⟩
  obtain ⟨b', eb⟩ : ∃ i : Nat, 1 + u9 = i := ⟨(1 + u9).toNat, by omega⟩
  rw [ea, eb]
  clear h9 hp9
  walk_at "nx"
  refine ⟨p, fs, a', b', k, rfl, hpA, by omega, by omega, by omega, by omega, hk, hz, fun HB sB => ⟨_, rfl, ?_⟩⟩
  rw [if_neg (by decide)]
  have hpB := sB _ _ hpA
  clear hpA sB
  walk_at "nx"
  refine ⟨_, .inr (SqT.of hpB), fun l6 nl6 => ⟨by decide, fun pe npe => ⟨by decide, fun p1 np1 => ?_⟩⟩⟩
  have s1 := ((same_upd (o := .lst (fs.map V.int)) nl6).trans (same_upd (o := .tup []) npe)).trans (same_upd (o := .tup [V.bl true]) np1)
  have c1 := s1 _ _ hpB
  have c2 : (upd (upd (upd HB l6 (.lst (fs.map V.int))) pe (.tup [])) p1 (.tup [V.bl true])) l6 = some (.lst (fs.map V.int)) := same_upd np1 _ _ (same_upd npe _ _ upd_same)
  have c3 : (upd (upd (upd HB l6 (.lst (fs.map V.int))) pe (.tup [])) p1 (.tup [V.bl true])) pe = some (.tup []) := same_upd np1 _ _ upd_same
  have c4 : (upd (upd (upd HB l6 (.lst (fs.map V.int))) pe (.tup [])) p1 (.tup [V.bl true])) p1 = some (.tup [V.bl true]) := upd_same
  generalize (upd (upd (upd HB l6 (.lst (fs.map V.int))) pe (.tup [])) p1 (.tup [V.bl true])) = HC at *
  clear hpB nl6 npe np1 s1
  have lf : (fs.map V.int).length = size := by rw [List.length_map, hn]
  refine ⟨p, p1, _, _, rfl, rfl, SqT.of c1, SqT.of c4, ?_, ?_, (fun z => by cases z), fun _ p2 np2 => ⟨by decide, fun p3 np3 => ⟨by decide, fun p4 np4 => ⟨_, SqT.of upd_same, (fun z => by cases z), by decide, by decide, by decide, fun p5 np5 => ⟨by decide, fun l7 nl7 => ?_⟩⟩⟩⟩⟩
  · intro z
    rw [z] at lf
    simp at lf
    omega
  · rw [lf, PySem.sizeLine_eq]
    show size + 1 ≤ _
    omega
  have s1 := ((((same_upd (o := .tup (fs.map V.int ++ [V.bl true])) np2).trans (same_upd (o := .tup [V.ref p]) np3)).trans (same_upd (o := .tup [V.int 0]) np4)).trans (same_upd (o := .tup (List.replicate (Int.toNat 401) [V.int 0]).flatten) np5)).trans (same_upd (o := .lst [V.non, V.int 1, V.ref l6, V.ref pe, V.ref p2, V.ref p3, V.str (Str.ofString "1"), V.ref p5]) nl7)
  have d2 := (((same_upd (o := .tup [V.ref p]) np3).trans (same_upd (o := .tup [V.int 0]) np4)).trans (same_upd (o := .tup (List.replicate (Int.toNat 401) [V.int 0]).flatten) np5)).trans (same_upd (o := .lst [V.non, V.int 1, V.ref l6, V.ref pe, V.ref p2, V.ref p3, V.str (Str.ofString "1"), V.ref p5]) nl7) _ _ upd_same
  have d3 := ((same_upd (o := .tup [V.int 0]) np4).trans (same_upd (o := .tup (List.replicate (Int.toNat 401) [V.int 0]).flatten) np5)).trans (same_upd (o := .lst [V.non, V.int 1, V.ref l6, V.ref pe, V.ref p2, V.ref p3, V.str (Str.ofString "1"), V.ref p5]) nl7) _ _ upd_same
  have d5 := (same_upd (o := .lst [V.non, V.int 1, V.ref l6, V.ref pe, V.ref p2, V.ref p3, V.str (Str.ofString "1"), V.ref p5]) nl7) _ _ upd_same
  have d7 : (upd (upd (upd (upd (upd HC p2 (HO.tup (List.map V.int fs ++ [V.bl true]))) p3 (HO.tup [V.ref p])) p4 (HO.tup [V.int 0])) p5 (HO.tup (List.replicate (Int.toNat 401) [V.int 0]).flatten)) l7 (HO.lst [V.non, V.int 1, V.ref l6, V.ref pe, V.ref p2, V.ref p3, V.str (Str.ofString "1"), V.ref p5])) l7 = some (HO.lst [V.non, V.int 1, V.ref l6, V.ref pe, V.ref p2, V.ref p3, V.str (Str.ofString "1"), V.ref p5]) := upd_same
  generalize (upd (upd (upd (upd (upd HC p2 (HO.tup (List.map V.int fs ++ [V.bl true]))) p3 (HO.tup [V.ref p])) p4 (HO.tup [V.int 0])) p5 (HO.tup (List.replicate (Int.toNat 401) [V.int 0]).flatten)) l7 (HO.lst [V.non, V.int 1, V.ref l6, V.ref pe, V.ref p2, V.ref p3, V.str (Str.ofString "1"), V.ref p5])) = HD at *
  have c1 := s1 _ _ c1
  have c2 := s1 _ _ c2
  have c3 := s1 _ _ c3
  clear s1 c4 np2 np3 np4 np5 nl7
  have e401 : (List.replicate (Int.toNat 401) [V.int 0]).flatten = (List.replicate 401 (0 : Int)).map V.int := by decide +kernel
  rw [e401] at d5
  have bads : ∀ v ∈ [V.non, V.int 1, V.ref l6, V.ref pe, V.ref p2, V.ref p3, V.str (Str.ofString "1"), V.ref p5], ∀ H', Same HD H' → BadS K H' v := fun v hv H' s => by
    simp only [List.mem_cons, List.not_mem_nil, or_false] at hv
    rcases hv with rfl | rfl | rfl | rfl | rfl | rfl | rfl | rfl
    · exact bad_non
    · exact bad_int 1
    · exact bad_lst (s _ _ c2)
    · exact .inr ⟨pe, [], [], rfl, s _ _ c3, its_ints [], by decide, rfl⟩
    · refine .inr ⟨p2, _, _, rfl, s _ _ d2, its_app (its_ints fs) (its_bl true), ?_, ?_⟩
      · rw [List.length_append, lf]
        show size + 1 < 1000
        omega
      · unfold serB
        rw [List.all_append, show (["bool"].all (· == "int")) = false from by decide, Bool.and_false, Bool.and_false]
    · exact .inr ⟨p3, _, _, rfl, s _ _ d3, its_ref (s _ _ c1), by show 1 < 1000; decide, rfl⟩
    · exact bad_str _
    · exact .inr ⟨p5, _, _, rfl, s _ _ d5, its_ints _, by rw [List.length_map, List.length_replicate]; decide, by
        unfold serB
        rw [List.length_map, List.length_replicate]
        rfl⟩
  refine ⟨⟨_, SqL.of d7⟩, ForL.w (xs := [V.non, V.int 1, V.ref l6, V.ref pe, V.ref p2, V.ref p3, V.str (Str.ofString "1"), V.ref p5]) (fun i σ H' => ∃ s9, σ = [some (V.ref a), some (V.ref st), some (V.int ↑k), some (V.int ↑size), some (V.int most), some (V.ref p), some (V.int ↑n), some (V.int ↑a'), some (V.int ↑b'), s9, none] ∧ Same HD H') ⟨_, rfl, Same.refl _⟩ ?_ ?_ ?_⟩
  · rintro i σ H' _ ⟨s9, rfl, s⟩
    exact SqL.of (s _ _ d7)
  · rintro i v σ H' hv ⟨s9, rfl, s⟩ N hN
    walk_at "rs"
    exact ⟨v, _, _, rfl, .inl ⟨bads v (List.mem_of_getElem? hv) H' s, fun H2 s2 => ⟨rfl, by rw [if_pos rfl]; exact hN _ _ ⟨_, rfl, s.trans s2⟩⟩⟩⟩
  rintro σ HE ⟨s9, rfl, sE⟩
  have hpE := sE _ _ c1
  clear bads d7 d5 d3 d2 c1 c2 c3 sE
  walk_at "nx"
  walk_at "nx"
  refine ⟨by decide, fun p6 np6 => ⟨by decide, fun l8 nl8 => ?_⟩⟩
  have f1 := ((same_upd (o := .tup [V.int 2]) np6).trans (same_upd (o := .lst [V.int 0, V.int (-1), V.int 401, V.bl true, V.non, V.str (Str.ofString "2"), V.ref p6]) nl8)) _ _ hpE
  have f2 := same_upd (o := .lst [V.int 0, V.int (-1), V.int 401, V.bl true, V.non, V.str (Str.ofString "2"), V.ref p6]) nl8 _ _ upd_same
  have f3 : (upd (upd HE p6 (.tup [V.int 2])) l8 (.lst [V.int 0, V.int (-1), V.int 401, V.bl true, V.non, V.str (Str.ofString "2"), V.ref p6])) l8 = some (.lst [V.int 0, V.int (-1), V.int 401, V.bl true, V.non, V.str (Str.ofString "2"), V.ref p6]) := upd_same
  generalize (upd (upd HE p6 (.tup [V.int 2])) l8 (.lst [V.int 0, V.int (-1), V.int 401, V.bl true, V.non, V.str (Str.ofString "2"), V.ref p6])) = HF at *
  have bads : ∀ v ∈ [V.int 0, V.int (-1), V.int 401, V.bl true, V.non, V.str (Str.ofString "2"), V.ref p6], ∀ H', Same HF H' → BadIs K okN H' v := fun v hv H' s => by
    simp only [List.mem_cons, List.not_mem_nil, or_false] at hv
    rcases hv with rfl | rfl | rfl | rfl | rfl | rfl | rfl
    · exact badI_flat (by decide)
    · exact badI_flat (by decide)
    · exact badI_flat (by decide)
    · exact badI_flat rfl
    · exact badI_flat rfl
    · exact badI_flat rfl
    · exact badI_tup (s _ _ f2)
  refine ⟨⟨_, SqL.of f3⟩, ForL.w (xs := [V.int 0, V.int (-1), V.int 401, V.bl true, V.non, V.str (Str.ofString "2"), V.ref p6]) (fun i σ H' => ∃ s9, σ = [some (V.ref a), some (V.ref st), some (V.int ↑k), some (V.int ↑size), some (V.int most), some (V.ref p), some (V.int ↑n), some (V.int ↑a'), some (V.int ↑b'), s9, none] ∧ Same HF H') ⟨_, rfl, Same.refl _⟩ ?_ ?_ ?_⟩
  · rintro i σ H' _ ⟨s9, rfl, s⟩
    exact SqL.of (s _ _ f3)
  · rintro i v σ H' hv ⟨s9, rfl, s⟩ N hN
    walk_at "rs"
    exact ⟨_, v, _, rfl, .inr ⟨p, fs, rfl, s _ _ f1, by omega, by omega, .inl ⟨bads v (List.mem_of_getElem? hv) H' s, fun H2 s2 => ⟨rfl, by rw [if_pos rfl]; exact hN _ _ ⟨_, rfl, s.trans s2⟩⟩⟩⟩⟩
  rintro σ HG ⟨s9, rfl, sG⟩
  have hpG := sG _ _ f1
  clear bads f1 f2 f3 sG
  walk_at "nx"
  try walk_at "nx"
  refine ⟨by decide, fun l9 nl9 => ?_⟩
  have g1 := same_upd (o := .lst [V.int 2, V.int 0, V.int 5, V.int 101, V.int 102, V.bl true, V.non, V.str (Str.ofString "4")]) nl9 _ _ hpG
  have g3 : (upd HG l9 (.lst [V.int 2, V.int 0, V.int 5, V.int 101, V.int 102, V.bl true, V.non, V.str (Str.ofString "4")])) l9 = some (.lst [V.int 2, V.int 0, V.int 5, V.int 101, V.int 102, V.bl true, V.non, V.str (Str.ofString "4")]) := upd_same
  generalize (upd HG l9 (.lst [V.int 2, V.int 0, V.int 5, V.int 101, V.int 102, V.bl true, V.non, V.str (Str.ofString "4")])) = HI at *
  have bads : ∀ v ∈ [V.int 2, V.int 0, V.int 5, V.int 101, V.int 102, V.bl true, V.non, V.str (Str.ofString "4")], ∀ H', Same HI H' → BadIs K okW H' v := fun v hv H' s => by
    simp only [List.mem_cons, List.not_mem_nil, or_false] at hv
    rcases hv with rfl | rfl | rfl | rfl | rfl | rfl | rfl | rfl
    · exact badI_flat (by decide)
    · exact badI_flat (by decide)
    · exact badI_flat (by decide)
    · exact badI_flat (by decide)
    · exact badI_flat (by decide)
    · exact badI_flat rfl
    · exact badI_flat rfl
    · exact badI_flat rfl
  refine ⟨⟨_, SqL.of g3⟩, ForL.w (xs := [V.int 2, V.int 0, V.int 5, V.int 101, V.int 102, V.bl true, V.non, V.str (Str.ofString "4")]) (fun i σ H' => ∃ s9, σ = [some (V.ref a), some (V.ref st), some (V.int ↑k), some (V.int ↑size), some (V.int most), some (V.ref p), some (V.int ↑n), some (V.int ↑a'), some (V.int ↑b'), s9, none] ∧ Same HI H') ⟨_, rfl, Same.refl _⟩ ?_ ?_ ?_⟩
  · rintro i σ H' _ ⟨s9, rfl, s⟩
    exact SqL.of (s _ _ g3)
  · rintro i v σ H' hv ⟨s9, rfl, s⟩ N hN
    walk_at "rs"
    exact ⟨_, _, v, rfl, .inr ⟨p, fs, rfl, s _ _ g1, by omega, by omega, .inr ⟨n, rfl, b4.1, b4.2, .inl ⟨bads v (List.mem_of_getElem? hv) H' s, fun H2 s2 => ⟨rfl, by rw [if_pos rfl]; exact hN _ _ ⟨_, rfl, s.trans s2⟩⟩⟩⟩⟩⟩
  rintro σ HJ ⟨s9, rfl, sJ⟩
  walk_at "rs"
  exact q _
end

theorem all_mk {l : PySem.W.OpenLaw} {w : World} {K : PySem.W.Frag} {h : Heap} {mg : Str → Option Value} {fa f__law_take f__law_state f_is_integer f__law_is_number f_is_row f_raised f__is_length f_is_series f_check_series f_check_weight f_check_index f__told_items f_operated f__law_no_word f__law_odd f__law_plain f__law_is_equal f__law_pow f__law_operated f__law_weight f__law_common f__law_told f__law_twice_holds f_law CM : Addr} (X : K.In h) (G : h.Ns mainGlobals mg) (hfa : mg "law" = some (.ref fa))
    {od__law_take an__law_take od__law_state an__law_state od_is_integer an_is_integer od__law_is_number an__law_is_number od_is_row an_is_row od_raised an_raised od__is_length an__is_length od_is_series an_is_series od_check_series an_check_series od_check_weight an_check_weight od_check_index an_check_index od__told_items an__told_items od_operated an_operated od__law_no_word an__law_no_word od__law_odd an__law_odd od__law_plain an__law_plain od__law_is_equal an__law_is_equal od__law_pow an__law_pow od__law_operated an__law_operated od__law_weight an__law_weight od__law_common an__law_common od__law_told an__law_told od__law_twice_holds an__law_twice_holds od_law an_law : Option Addr} {sl__law_take sl__law_state sl_is_integer sl__law_is_number sl_is_row sl_raised sl__is_length sl_is_series sl_check_series sl_check_weight sl_check_index sl__told_items sl_operated sl__law_no_word sl__law_odd sl__law_plain sl__law_is_equal sl__law_pow sl__law_operated sl__law_weight sl__law_common sl__law_told sl__law_twice_holds sl_law : Array (Option Value)} {oc__law_take kV__law_take dc__law_take pm__law_take cd__law_take ct__law_take oc__law_state kV__law_state dc__law_state pm__law_state cd__law_state ct__law_state oc_is_integer kV_is_integer dc_is_integer pm_is_integer cd_is_integer ct_is_integer oc__law_is_number kV__law_is_number dc__law_is_number pm__law_is_number cd__law_is_number ct__law_is_number oc_is_row kV_is_row dc_is_row pm_is_row cd_is_row ct_is_row oc_raised kV_raised dc_raised pm_raised cd_raised ct_raised oc__is_length kV__is_length dc__is_length pm__is_length cd__is_length ct__is_length oc_is_series kV_is_series dc_is_series pm_is_series cd_is_series ct_is_series oc_check_series kV_check_series dc_check_series pm_check_series cd_check_series ct_check_series oc_check_weight kV_check_weight dc_check_weight pm_check_weight cd_check_weight ct_check_weight oc_check_index kV_check_index dc_check_index pm_check_index cd_check_index ct_check_index oc__told_items kV__told_items dc__told_items pm__told_items cd__told_items ct__told_items oc_operated kV_operated dc_operated pm_operated cd_operated ct_operated oc__law_no_word kV__law_no_word dc__law_no_word pm__law_no_word cd__law_no_word ct__law_no_word oc__law_odd kV__law_odd dc__law_odd pm__law_odd cd__law_odd ct__law_odd oc__law_plain kV__law_plain dc__law_plain pm__law_plain cd__law_plain ct__law_plain oc__law_is_equal kV__law_is_equal dc__law_is_equal pm__law_is_equal cd__law_is_equal ct__law_is_equal oc__law_pow kV__law_pow dc__law_pow pm__law_pow cd__law_pow ct__law_pow oc__law_operated kV__law_operated dc__law_operated pm__law_operated cd__law_operated ct__law_operated oc__law_weight kV__law_weight dc__law_weight pm__law_weight cd__law_weight ct__law_weight oc__law_common kV__law_common dc__law_common pm__law_common cd__law_common ct__law_common oc__law_told kV__law_told dc__law_told pm__law_told cd__law_told ct__law_told oc__law_twice_holds kV__law_twice_holds dc__law_twice_holds pm__law_twice_holds cd__law_twice_holds ct__law_twice_holds oc_law kV_law dc_law pm_law cd_law ct_law : Value} {t_GREATEST_WEIGHT t_LARGEST_INDEX t_LEAST_WEIGHT t_LONGEST : Tok}
    (a__law_take : PySem.W.nsIn K mainGlobals "_law_take" = some (some (.ref f__law_take)))
    (l__law_take : K.lookup f__law_take = some ⟨oc__law_take, od__law_take, .func (PySem.W.fnOf "_law_take" "_law_take" (defArgs s__law_take) (defBody s__law_take) (defScope s__law_take) .none kV__law_take dc__law_take pm__law_take an__law_take cd__law_take ct__law_take), sl__law_take⟩)
    (c__law_take : PySem.W.codeIn K cd__law_take "_law_take" = true)
    (k__law_take : PySem.W.keepIn K (.ref f__law_take) = true)
    (a__law_state : PySem.W.nsIn K mainGlobals "_law_state" = some (some (.ref f__law_state)))
    (l__law_state : K.lookup f__law_state = some ⟨oc__law_state, od__law_state, .func (PySem.W.fnOf "_law_state" "_law_state" (defArgs s__law_state) (defBody s__law_state) (defScope s__law_state) .none kV__law_state dc__law_state pm__law_state an__law_state cd__law_state ct__law_state), sl__law_state⟩)
    (c__law_state : PySem.W.codeIn K cd__law_state "_law_state" = true)
    (k__law_state : PySem.W.keepIn K (.ref f__law_state) = true)
    (a_is_integer : PySem.W.nsIn K mainGlobals "is_integer" = some (some (.ref f_is_integer)))
    (l_is_integer : K.lookup f_is_integer = some ⟨oc_is_integer, od_is_integer, .func (PySem.W.fnOf "is_integer" "is_integer" (defArgs s_is_integer) (defBody s_is_integer) (defScope s_is_integer) .none kV_is_integer dc_is_integer pm_is_integer an_is_integer cd_is_integer ct_is_integer), sl_is_integer⟩)
    (c_is_integer : PySem.W.codeIn K cd_is_integer "is_integer" = true)
    (k_is_integer : PySem.W.keepIn K (.ref f_is_integer) = true)
    (a__law_is_number : PySem.W.nsIn K mainGlobals "_law_is_number" = some (some (.ref f__law_is_number)))
    (l__law_is_number : K.lookup f__law_is_number = some ⟨oc__law_is_number, od__law_is_number, .func (PySem.W.fnOf "_law_is_number" "_law_is_number" (defArgs s__law_is_number) (defBody s__law_is_number) (defScope s__law_is_number) .none kV__law_is_number dc__law_is_number pm__law_is_number an__law_is_number cd__law_is_number ct__law_is_number), sl__law_is_number⟩)
    (c__law_is_number : PySem.W.codeIn K cd__law_is_number "_law_is_number" = true)
    (k__law_is_number : PySem.W.keepIn K (.ref f__law_is_number) = true)
    (a_is_row : PySem.W.nsIn K mainGlobals "is_row" = some (some (.ref f_is_row)))
    (l_is_row : K.lookup f_is_row = some ⟨oc_is_row, od_is_row, .func (PySem.W.fnOf "is_row" "is_row" (defArgs s_is_row) (defBody s_is_row) (defScope s_is_row) .none kV_is_row dc_is_row pm_is_row an_is_row cd_is_row ct_is_row), sl_is_row⟩)
    (c_is_row : PySem.W.codeIn K cd_is_row "is_row" = true)
    (k_is_row : PySem.W.keepIn K (.ref f_is_row) = true)
    (a_raised : PySem.W.nsIn K mainGlobals "raised" = some (some (.ref f_raised)))
    (l_raised : K.lookup f_raised = some ⟨oc_raised, od_raised, .func (PySem.W.fnOf "raised" "raised" (defArgs s_raised) (defBody s_raised) (defScope s_raised) .none kV_raised dc_raised pm_raised an_raised cd_raised ct_raised), sl_raised⟩)
    (c_raised : PySem.W.codeIn K cd_raised "raised" = true)
    (k_raised : PySem.W.keepIn K (.ref f_raised) = true)
    (a__is_length : PySem.W.nsIn K mainGlobals "_is_length" = some (some (.ref f__is_length)))
    (l__is_length : K.lookup f__is_length = some ⟨oc__is_length, od__is_length, .func (PySem.W.fnOf "_is_length" "_is_length" (defArgs s__is_length) (defBody s__is_length) (defScope s__is_length) .none kV__is_length dc__is_length pm__is_length an__is_length cd__is_length ct__is_length), sl__is_length⟩)
    (c__is_length : PySem.W.codeIn K cd__is_length "_is_length" = true)
    (k__is_length : PySem.W.keepIn K (.ref f__is_length) = true)
    (a_is_series : PySem.W.nsIn K mainGlobals "is_series" = some (some (.ref f_is_series)))
    (l_is_series : K.lookup f_is_series = some ⟨oc_is_series, od_is_series, .func (PySem.W.fnOf "is_series" "is_series" (defArgs s_is_series) (defBody s_is_series) (defScope s_is_series) .none kV_is_series dc_is_series pm_is_series an_is_series cd_is_series ct_is_series), sl_is_series⟩)
    (c_is_series : PySem.W.codeIn K cd_is_series "is_series" = true)
    (k_is_series : PySem.W.keepIn K (.ref f_is_series) = true)
    (a_check_series : PySem.W.nsIn K mainGlobals "check_series" = some (some (.ref f_check_series)))
    (l_check_series : K.lookup f_check_series = some ⟨oc_check_series, od_check_series, .func (PySem.W.fnOf "check_series" "check_series" (defArgs s_check_series) (defBody s_check_series) (defScope s_check_series) .none kV_check_series dc_check_series pm_check_series an_check_series cd_check_series ct_check_series), sl_check_series⟩)
    (c_check_series : PySem.W.codeIn K cd_check_series "check_series" = true)
    (k_check_series : PySem.W.keepIn K (.ref f_check_series) = true)
    (a_check_weight : PySem.W.nsIn K mainGlobals "check_weight" = some (some (.ref f_check_weight)))
    (l_check_weight : K.lookup f_check_weight = some ⟨oc_check_weight, od_check_weight, .func (PySem.W.fnOf "check_weight" "check_weight" (defArgs s_check_weight) (defBody s_check_weight) (defScope s_check_weight) .none kV_check_weight dc_check_weight pm_check_weight an_check_weight cd_check_weight ct_check_weight), sl_check_weight⟩)
    (c_check_weight : PySem.W.codeIn K cd_check_weight "check_weight" = true)
    (k_check_weight : PySem.W.keepIn K (.ref f_check_weight) = true)
    (a_check_index : PySem.W.nsIn K mainGlobals "check_index" = some (some (.ref f_check_index)))
    (l_check_index : K.lookup f_check_index = some ⟨oc_check_index, od_check_index, .func (PySem.W.fnOf "check_index" "check_index" (defArgs s_check_index) (defBody s_check_index) (defScope s_check_index) .none kV_check_index dc_check_index pm_check_index an_check_index cd_check_index ct_check_index), sl_check_index⟩)
    (c_check_index : PySem.W.codeIn K cd_check_index "check_index" = true)
    (k_check_index : PySem.W.keepIn K (.ref f_check_index) = true)
    (a__told_items : PySem.W.nsIn K mainGlobals "_told_items" = some (some (.ref f__told_items)))
    (l__told_items : K.lookup f__told_items = some ⟨oc__told_items, od__told_items, .func (PySem.W.fnOf "_told_items" "_told_items" (defArgs s__told_items) (defBody s__told_items) (defScope s__told_items) .none kV__told_items dc__told_items pm__told_items an__told_items cd__told_items ct__told_items), sl__told_items⟩)
    (c__told_items : PySem.W.codeIn K cd__told_items "_told_items" = true)
    (k__told_items : PySem.W.keepIn K (.ref f__told_items) = true)
    (a_operated : PySem.W.nsIn K mainGlobals "operated" = some (some (.ref f_operated)))
    (l_operated : K.lookup f_operated = some ⟨oc_operated, od_operated, .func (PySem.W.fnOf "operated" "operated" (defArgs s_operated) (defBody s_operated) (defScope s_operated) .none kV_operated dc_operated pm_operated an_operated cd_operated ct_operated), sl_operated⟩)
    (c_operated : PySem.W.codeIn K cd_operated "operated" = true)
    (k_operated : PySem.W.keepIn K (.ref f_operated) = true)
    (a__law_no_word : PySem.W.nsIn K mainGlobals "_law_no_word" = some (some (.ref f__law_no_word)))
    (l__law_no_word : K.lookup f__law_no_word = some ⟨oc__law_no_word, od__law_no_word, .func (PySem.W.fnOf "_law_no_word" "_law_no_word" (defArgs s__law_no_word) (defBody s__law_no_word) (defScope s__law_no_word) .none kV__law_no_word dc__law_no_word pm__law_no_word an__law_no_word cd__law_no_word ct__law_no_word), sl__law_no_word⟩)
    (c__law_no_word : PySem.W.codeIn K cd__law_no_word "_law_no_word" = true)
    (k__law_no_word : PySem.W.keepIn K (.ref f__law_no_word) = true)
    (a__law_odd : PySem.W.nsIn K mainGlobals "_law_odd" = some (some (.ref f__law_odd)))
    (l__law_odd : K.lookup f__law_odd = some ⟨oc__law_odd, od__law_odd, .func (PySem.W.fnOf "_law_odd" "_law_odd" (defArgs s__law_odd) (defBody s__law_odd) (defScope s__law_odd) .none kV__law_odd dc__law_odd pm__law_odd an__law_odd cd__law_odd ct__law_odd), sl__law_odd⟩)
    (c__law_odd : PySem.W.codeIn K cd__law_odd "_law_odd" = true)
    (k__law_odd : PySem.W.keepIn K (.ref f__law_odd) = true)
    (a__law_plain : PySem.W.nsIn K mainGlobals "_law_plain" = some (some (.ref f__law_plain)))
    (l__law_plain : K.lookup f__law_plain = some ⟨oc__law_plain, od__law_plain, .func (PySem.W.fnOf "_law_plain" "_law_plain" (defArgs s__law_plain) (defBody s__law_plain) (defScope s__law_plain) .none kV__law_plain dc__law_plain pm__law_plain an__law_plain cd__law_plain ct__law_plain), sl__law_plain⟩)
    (c__law_plain : PySem.W.codeIn K cd__law_plain "_law_plain" = true)
    (k__law_plain : PySem.W.keepIn K (.ref f__law_plain) = true)
    (a__law_is_equal : PySem.W.nsIn K mainGlobals "_law_is_equal" = some (some (.ref f__law_is_equal)))
    (l__law_is_equal : K.lookup f__law_is_equal = some ⟨oc__law_is_equal, od__law_is_equal, .func (PySem.W.fnOf "_law_is_equal" "_law_is_equal" (defArgs s__law_is_equal) (defBody s__law_is_equal) (defScope s__law_is_equal) .none kV__law_is_equal dc__law_is_equal pm__law_is_equal an__law_is_equal cd__law_is_equal ct__law_is_equal), sl__law_is_equal⟩)
    (c__law_is_equal : PySem.W.codeIn K cd__law_is_equal "_law_is_equal" = true)
    (k__law_is_equal : PySem.W.keepIn K (.ref f__law_is_equal) = true)
    (a__law_pow : PySem.W.nsIn K mainGlobals "_law_pow" = some (some (.ref f__law_pow)))
    (l__law_pow : K.lookup f__law_pow = some ⟨oc__law_pow, od__law_pow, .func (PySem.W.fnOf "_law_pow" "_law_pow" (defArgs s__law_pow) (defBody s__law_pow) (defScope s__law_pow) .none kV__law_pow dc__law_pow pm__law_pow an__law_pow cd__law_pow ct__law_pow), sl__law_pow⟩)
    (c__law_pow : PySem.W.codeIn K cd__law_pow "_law_pow" = true)
    (k__law_pow : PySem.W.keepIn K (.ref f__law_pow) = true)
    (a__law_operated : PySem.W.nsIn K mainGlobals "_law_operated" = some (some (.ref f__law_operated)))
    (l__law_operated : K.lookup f__law_operated = some ⟨oc__law_operated, od__law_operated, .func (PySem.W.fnOf "_law_operated" "_law_operated" (defArgs s__law_operated) (defBody s__law_operated) (defScope s__law_operated) .none kV__law_operated dc__law_operated pm__law_operated an__law_operated cd__law_operated ct__law_operated), sl__law_operated⟩)
    (c__law_operated : PySem.W.codeIn K cd__law_operated "_law_operated" = true)
    (k__law_operated : PySem.W.keepIn K (.ref f__law_operated) = true)
    (a__law_weight : PySem.W.nsIn K mainGlobals "_law_weight" = some (some (.ref f__law_weight)))
    (l__law_weight : K.lookup f__law_weight = some ⟨oc__law_weight, od__law_weight, .func (PySem.W.fnOf "_law_weight" "_law_weight" (defArgs s__law_weight) (defBody s__law_weight) (defScope s__law_weight) .none kV__law_weight dc__law_weight pm__law_weight an__law_weight cd__law_weight ct__law_weight), sl__law_weight⟩)
    (c__law_weight : PySem.W.codeIn K cd__law_weight "_law_weight" = true)
    (k__law_weight : PySem.W.keepIn K (.ref f__law_weight) = true)
    (a__law_common : PySem.W.nsIn K mainGlobals "_law_common" = some (some (.ref f__law_common)))
    (l__law_common : K.lookup f__law_common = some ⟨oc__law_common, od__law_common, .func (PySem.W.fnOf "_law_common" "_law_common" (defArgs s__law_common) (defBody s__law_common) (defScope s__law_common) .none kV__law_common dc__law_common pm__law_common an__law_common cd__law_common ct__law_common), sl__law_common⟩)
    (c__law_common : PySem.W.codeIn K cd__law_common "_law_common" = true)
    (k__law_common : PySem.W.keepIn K (.ref f__law_common) = true)
    (a__law_told : PySem.W.nsIn K mainGlobals "_law_told" = some (some (.ref f__law_told)))
    (l__law_told : K.lookup f__law_told = some ⟨oc__law_told, od__law_told, .func (PySem.W.fnOf "_law_told" "_law_told" (defArgs s__law_told) (defBody s__law_told) (defScope s__law_told) .none kV__law_told dc__law_told pm__law_told an__law_told cd__law_told ct__law_told), sl__law_told⟩)
    (c__law_told : PySem.W.codeIn K cd__law_told "_law_told" = true)
    (k__law_told : PySem.W.keepIn K (.ref f__law_told) = true)
    (a__law_twice_holds : PySem.W.nsIn K mainGlobals "_law_twice_holds" = some (some (.ref f__law_twice_holds)))
    (l__law_twice_holds : K.lookup f__law_twice_holds = some ⟨oc__law_twice_holds, od__law_twice_holds, .func (PySem.W.fnOf "_law_twice_holds" "_law_twice_holds" (defArgs s__law_twice_holds) (defBody s__law_twice_holds) (defScope s__law_twice_holds) .none kV__law_twice_holds dc__law_twice_holds pm__law_twice_holds an__law_twice_holds cd__law_twice_holds ct__law_twice_holds), sl__law_twice_holds⟩)
    (c__law_twice_holds : PySem.W.codeIn K cd__law_twice_holds "_law_twice_holds" = true)
    (k__law_twice_holds : PySem.W.keepIn K (.ref f__law_twice_holds) = true)
    (a_law : PySem.W.nsIn K mainGlobals "law" = some (some (.ref f_law)))
    (l_law : K.lookup f_law = some ⟨oc_law, od_law, .func (PySem.W.fnOf "law" "law" (defArgs s_law) (defBody s_law) (defScope s_law) .none kV_law dc_law pm_law an_law cd_law ct_law), sl_law⟩)
    (c_law : PySem.W.codeIn K cd_law "law" = true)
    (k_law : PySem.W.keepIn K (.ref f_law) = true)
    (z_abs : PySem.W.nsIn K mainGlobals "abs" = some none)
    (z_int : PySem.W.nsIn K mainGlobals "int" = some none)
    (z_bool : PySem.W.nsIn K mainGlobals "bool" = some none)
    (z_str : PySem.W.nsIn K mainGlobals "str" = some none)
    (z_tuple : PySem.W.nsIn K mainGlobals "tuple" = some none)
    (z_list : PySem.W.nsIn K mainGlobals "list" = some none)
    (z_sum : PySem.W.nsIn K mainGlobals "sum" = some none)
    (z_range : PySem.W.nsIn K mainGlobals "range" = some none)
    (z_isinstance : PySem.W.nsIn K mainGlobals "isinstance" = some none)
    (z_len : PySem.W.nsIn K mainGlobals "len" = some none)
    (z_all : PySem.W.nsIn K mainGlobals "all" = some none)
    (v_GREATEST_WEIGHT : PySem.W.nsIn K mainGlobals "GREATEST_WEIGHT" = some (some (.int 100 t_GREATEST_WEIGHT)))
    (v_LARGEST_INDEX : PySem.W.nsIn K mainGlobals "LARGEST_INDEX" = some (some (.int 400 t_LARGEST_INDEX)))
    (v_LEAST_WEIGHT : PySem.W.nsIn K mainGlobals "LEAST_WEIGHT" = some (some (.int 4 t_LEAST_WEIGHT)))
    (v_LONGEST : PySem.W.nsIn K mainGlobals "LONGEST" = some (some (.int 400 t_LONGEST)))
    (aM : PySem.W.nsIn K mainGlobals "Malformed" = some (some (.ref CM)))
    (xM : PySem.W.excIn K CM veB "ValueError.__new__" = true)
    (kM : PySem.W.keepIn K (.ref CM) = true)
    (bM : PySem.W.subIn K (.ref CM) (.type "BaseException") = some true)
    (tM : PySem.W.typeIn K (.ref CM) = some (.type "type"))
    (iM : PySem.W.isClsIn K CM = true)
    (mM : PySem.W.subIn K (.ref CM) (.ref CM) = some true) :
    ∃ fd : FuncData, (∀ (s : Shared) (v : Value), BindsTo s fd ⟨[v], []⟩ [("script", v)]) ∧ ∀ base : Heap, K.In base → base.Ns mainGlobals mg → FnOk l.prog w K mg base CX0 7 fa fd ["script"] (spLaw K) := by
  have e := hfa.symm.trans (PySem.W.mg_of X G a_law)
  cases e
  have B : Bl mg := { abs := PySem.W.mg_none_of X G z_abs, int := PySem.W.mg_none_of X G z_int, bool := PySem.W.mg_none_of X G z_bool, str := PySem.W.mg_none_of X G z_str, tuple := PySem.W.mg_none_of X G z_tuple, list := PySem.W.mg_none_of X G z_list, sum := PySem.W.mg_none_of X G z_sum, range := PySem.W.mg_none_of X G z_range, isinstance := PySem.W.mg_none_of X G z_isinstance, len := PySem.W.mg_none_of X G z_len, all := PySem.W.mg_none_of X G z_all, c_GREATEST_WEIGHT := ⟨_, PySem.W.mg_of X G v_GREATEST_WEIGHT⟩, c_LARGEST_INDEX := ⟨_, PySem.W.mg_of X G v_LARGEST_INDEX⟩, c_LEAST_WEIGHT := ⟨_, PySem.W.mg_of X G v_LEAST_WEIGHT⟩, c_LONGEST := ⟨_, PySem.W.mg_of X G v_LONGEST⟩ }
  have d__law_take : Dn K mg "_law_take" s__law_take ["state", "m"] := dn_mk X G a__law_take l__law_take c__law_take k__law_take fun _ _ _ _ _ _ us hl => match us, hl with | [_, _], _ => rfl
  have d__law_state : Dn K mg "_law_state" s__law_state ["script"] := dn_mk X G a__law_state l__law_state c__law_state k__law_state fun _ _ _ _ _ _ us hl => match us, hl with | [_], _ => rfl
  have d_is_integer : Dn K mg "is_integer" s_is_integer ["value"] := dn_mk X G a_is_integer l_is_integer c_is_integer k_is_integer fun _ _ _ _ _ _ us hl => match us, hl with | [_], _ => rfl
  have d__law_is_number : Dn K mg "_law_is_number" s__law_is_number ["value"] := dn_mk X G a__law_is_number l__law_is_number c__law_is_number k__law_is_number fun _ _ _ _ _ _ us hl => match us, hl with | [_], _ => rfl
  have d_is_row : Dn K mg "is_row" s_is_row ["value", "n"] := dn_mk X G a_is_row l_is_row c_is_row k_is_row fun _ _ _ _ _ _ us hl => match us, hl with | [_, _], _ => rfl
  have d_raised : Dn K mg "raised" s_raised ["b", "e"] := dn_mk X G a_raised l_raised c_raised k_raised fun _ _ _ _ _ _ us hl => match us, hl with | [_, _], _ => rfl
  have d__is_length : Dn K mg "_is_length" s__is_length ["value"] := dn_mk X G a__is_length l__is_length c__is_length k__is_length fun _ _ _ _ _ _ us hl => match us, hl with | [_], _ => rfl
  have d_is_series : Dn K mg "is_series" s_is_series ["value"] := dn_mk X G a_is_series l_is_series c_is_series k_is_series fun _ _ _ _ _ _ us hl => match us, hl with | [_], _ => rfl
  have d_check_series : Dn K mg "check_series" s_check_series ["f"] := dn_mk X G a_check_series l_check_series c_check_series k_check_series fun _ _ _ _ _ _ us hl => match us, hl with | [_], _ => rfl
  have d_check_weight : Dn K mg "check_weight" s_check_weight ["k"] := dn_mk X G a_check_weight l_check_weight c_check_weight k_check_weight fun _ _ _ _ _ _ us hl => match us, hl with | [_], _ => rfl
  have d_check_index : Dn K mg "check_index" s_check_index ["n"] := dn_mk X G a_check_index l_check_index c_check_index k_check_index fun _ _ _ _ _ _ us hl => match us, hl with | [_], _ => rfl
  have d__told_items : Dn K mg "_told_items" s__told_items ["f", "n", "k", "size"] := dn_mk X G a__told_items l__told_items c__told_items k__told_items fun _ _ _ _ _ _ us hl => match us, hl with | [_, _, _, _], _ => rfl
  have d_operated : Dn K mg "operated" s_operated ["f", "n", "k"] := dn_mk X G a_operated l_operated c_operated k_operated fun _ _ _ _ _ _ us hl => match us, hl with | [_, _, _], _ => rfl
  have d__law_no_word : Dn K mg "_law_no_word" s__law_no_word ["value"] := dn_mk X G a__law_no_word l__law_no_word c__law_no_word k__law_no_word fun _ _ _ _ _ _ us hl => match us, hl with | [_], _ => rfl
  have d__law_odd : Dn K mg "_law_odd" s__law_odd ["value"] := dn_mk X G a__law_odd l__law_odd c__law_odd k__law_odd fun _ _ _ _ _ _ us hl => match us, hl with | [_], _ => rfl
  have d__law_plain : Dn K mg "_law_plain" s__law_plain ["value"] := dn_mk X G a__law_plain l__law_plain c__law_plain k__law_plain fun _ _ _ _ _ _ us hl => match us, hl with | [_], _ => rfl
  have d__law_is_equal : Dn K mg "_law_is_equal" s__law_is_equal ["value", "due"] := dn_mk X G a__law_is_equal l__law_is_equal c__law_is_equal k__law_is_equal fun _ _ _ _ _ _ us hl => match us, hl with | [_, _], _ => rfl
  have d__law_pow : Dn K mg "_law_pow" s__law_pow ["x", "n"] := dn_mk X G a__law_pow l__law_pow c__law_pow k__law_pow fun _ _ _ _ _ _ us hl => match us, hl with | [_, _], _ => rfl
  have d__law_operated : Dn K mg "_law_operated" s__law_operated ["f", "n", "k"] := dn_mk X G a__law_operated l__law_operated c__law_operated k__law_operated fun _ _ _ _ _ _ us hl => match us, hl with | [_, _, _], _ => rfl
  have d__law_weight : Dn K mg "_law_weight" s__law_weight ["state", "most"] := dn_mk X G a__law_weight l__law_weight c__law_weight k__law_weight fun _ _ _ _ _ _ us hl => match us, hl with | [_, _], _ => rfl
  have d__law_common : Dn K mg "_law_common" s__law_common ["a", "b"] := dn_mk X G a__law_common l__law_common c__law_common k__law_common fun _ _ _ _ _ _ us hl => match us, hl with | [_, _], _ => rfl
  have d__law_told : Dn K mg "_law_told" s__law_told ["f", "n", "k"] := dn_mk X G a__law_told l__law_told c__law_told k__law_told fun _ _ _ _ _ _ us hl => match us, hl with | [_, _, _], _ => rfl
  have d__law_twice_holds : Dn K mg "_law_twice_holds" s__law_twice_holds ["f", "m", "n", "k"] := dn_mk X G a__law_twice_holds l__law_twice_holds c__law_twice_holds k__law_twice_holds fun _ _ _ _ _ _ us hl => match us, hl with | [_, _, _, _], _ => rfl
  have d_law : Dn K mg "law" s_law ["script"] := dn_mk X G a_law l_law c_law k_law fun _ _ _ _ _ _ us hl => match us, hl with | [_], _ => rfl
  have hM : PySem.W.exmOne K (.ref CM) (.ref CM) = some true := exm_b bM iM tM mM
  refine ⟨PySem.W.fnOf "law" "law" (defArgs s_law) (defBody s_law) (defScope s_law) .none kV_law dc_law pm_law an_law cd_law ct_law, fun s v => .of_eq rfl, fun base _ _ => ?_⟩
  have e_E : ErrO K mg CM := ⟨⟨PySem.W.mg_of X G aM, xM, kM, bM, tM, hM⟩⟩
  have r_take := cal_take (P := l.prog) (w := w) (base := base) d__law_take B
  have r_state := cal_state (P := l.prog) (w := w) (base := base) d__law_state B
  have r_is_integer := cal_is_integer (P := l.prog) (w := w) (base := base) d_is_integer B
  have r_num := cal_num (P := l.prog) (w := w) (base := base) d__law_is_number B
  have r_row := cal_row (P := l.prog) (w := w) (base := base) d_is_row B r_is_integer
  have r_raised := cal_raised (P := l.prog) (w := w) (base := base) d_raised B
  have r_len := cal_len (P := l.prog) (w := w) (base := base) d__is_length B r_is_integer
  have r_isser := cal_isser (P := l.prog) (w := w) (base := base) d_is_series B r_row r_len
  have r_chks := cal_chks (P := l.prog) (w := w) (base := base) d_check_series B r_isser e_E
  have r_chkw := cal_chkw (P := l.prog) (w := w) (base := base) d_check_weight B r_is_integer e_E
  have r_chkn := cal_chkn (P := l.prog) (w := w) (base := base) d_check_index B r_is_integer e_E
  have r_ti := cal_ti (P := l.prog) (w := w) (base := base) d__told_items B r_raised
  have r_oper := cal_oper (P := l.prog) (w := w) (base := base) d_operated B r_chks r_chkn r_chkw r_ti
  have r_no_word := cal_no_word (P := l.prog) (w := w) (base := base) d__law_no_word B
  have r_oddN := cal_oddN (P := l.prog) (w := w) (base := base) d__law_odd
  have r_odd0 := cal_odd0 (P := l.prog) (w := w) (base := base) d__law_odd B r_oddN
  have r_odd1 := cal_odd1 (P := l.prog) (w := w) (base := base) d__law_odd B r_odd0
  have r_pl1 := cal_pl1 (P := l.prog) (w := w) (base := base) d__law_plain B r_odd1
  have r_eqN := cal_eqN (P := l.prog) (w := w) (base := base) d__law_is_equal
  have r_eq0 := cal_eq0 (P := l.prog) (w := w) (base := base) d__law_is_equal B r_eqN r_num
  have r_eq1 := cal_eq1 (P := l.prog) (w := w) (base := base) d__law_is_equal B r_eq0 r_num
  have r_pow := cal_pow (P := l.prog) (w := w) (base := base) d__law_pow B
  have r_lop := cal_lop (P := l.prog) (w := w) (base := base) d__law_operated B r_pow
  have r_wt := cal_wt (P := l.prog) (w := w) (base := base) d__law_weight B r_take
  have r_common := cal_common (P := l.prog) (w := w) (base := base) d__law_common B
  have r_told := cal_told (P := l.prog) (w := w) (base := base) d__law_told B r_oper r_pl1 r_no_word e_E
  have r_tw := cal_tw (P := l.prog) (w := w) (base := base) d__law_twice_holds B r_oper r_pl1 r_eq1 r_common r_lop r_pow
  exact ok_law (P := l.prog) (w := w) (base := base) (fun_mk (st := s_law) l_law c_law k_law) B r_state r_take r_wt r_told r_lop r_eq1 r_tw
theorem walk {l : PySem.W.OpenLaw} {q : Program} {loose : List Str} {XP : (Str → Option Value) → Heap → Prop} {YP : World → Heap → Prop} {d : DefRec} {K : Params → PySem.W.Frag} (hn : l.most = some 63) (hdf : d.params.defaults = []) (hY : ∀ (w : World) (h : Heap), YP w h → (K w.params).In h)
    (F : ∀ (w : World) (mg : Str → Option Value) (fa : Addr) (h : Heap), (K w.params).In h → h.Ns mainGlobals mg → mg d.name = some (.ref fa) → ∃ fd : FuncData, (∀ (s : Shared) (u : Value), BindsTo s fd ⟨[u], []⟩ [("script", u)]) ∧ ∀ base : Heap, (K w.params).In base → base.Ns mainGlobals mg → FnOk l.prog w (K w.params) mg base CX0 7 fa fd ["script"] (spLaw (K w.params))) :
    PySem.W.WalkO q loose XP YP l.row.toRowW d [] (fun f vs => PySem.call f vs) :=
  L2.walk_of (n := 63) (k := 7) (x := "script") (CX := fun _ => CX0) (sp := fun w => spLaw (K w.params)) hn (by decide) hdf ⟨rfl, by decide, by decide⟩ hY F (fun _ _ a ns hl _ hS => ⟨a, ns, rfl, hS, hl, fun _ => rfl⟩) fun _ _ _ _ _ z => z

end L64
open PySem PySem.W PyProof.Rows
set_option maxRecDepth 100000 in
set_option maxHeartbeats 0 in
theorem PySem.Challenge.cw_classledger_k64_whole_operators_on_serie_holds : PySem.Challenge.rw_classledger_k64_whole_operators_on_serie.Holds := by
  w_on; o_law; k_head; (case hw => w_witness2)
  k_fill
  refine L64.walk (l := PySem.Challenge.rw_classledger_k64_whole_operators_on_serie) rfl rfl (fun w h Y => PySem.W.kIn_of Y) ?F
  case F =>
    intro w mg fa h KX G hmg
    refine' L64.all_mk KX G hmg ?a__law_take ?l__law_take ?c__law_take ?k__law_take ?a__law_state ?l__law_state ?c__law_state ?k__law_state ?a_is_integer ?l_is_integer ?c_is_integer ?k_is_integer ?a__law_is_number ?l__law_is_number ?c__law_is_number ?k__law_is_number ?a_is_row ?l_is_row ?c_is_row ?k_is_row ?a_raised ?l_raised ?c_raised ?k_raised ?a__is_length ?l__is_length ?c__is_length ?k__is_length ?a_is_series ?l_is_series ?c_is_series ?k_is_series ?a_check_series ?l_check_series ?c_check_series ?k_check_series ?a_check_weight ?l_check_weight ?c_check_weight ?k_check_weight ?a_check_index ?l_check_index ?c_check_index ?k_check_index ?a__told_items ?l__told_items ?c__told_items ?k__told_items ?a_operated ?l_operated ?c_operated ?k_operated ?a__law_no_word ?l__law_no_word ?c__law_no_word ?k__law_no_word ?a__law_odd ?l__law_odd ?c__law_odd ?k__law_odd ?a__law_plain ?l__law_plain ?c__law_plain ?k__law_plain ?a__law_is_equal ?l__law_is_equal ?c__law_is_equal ?k__law_is_equal ?a__law_pow ?l__law_pow ?c__law_pow ?k__law_pow ?a__law_operated ?l__law_operated ?c__law_operated ?k__law_operated ?a__law_weight ?l__law_weight ?c__law_weight ?k__law_weight ?a__law_common ?l__law_common ?c__law_common ?k__law_common ?a__law_told ?l__law_told ?c__law_told ?k__law_told ?a__law_twice_holds ?l__law_twice_holds ?c__law_twice_holds ?k__law_twice_holds ?a_law ?l_law ?c_law ?k_law ?z_abs ?z_int ?z_bool ?z_str ?z_tuple ?z_list ?z_sum ?z_range ?z_isinstance ?z_len ?z_all ?v_GREATEST_WEIGHT ?v_LARGEST_INDEX ?v_LEAST_WEIGHT ?v_LONGEST ?aM ?xM ?kM ?bM ?tM ?iM ?mM
    (case a__law_take => k_is); (case l__law_take => k_is); (case c__law_take => k_is); (case k__law_take => k_is)
    (case a__law_state => k_is); (case l__law_state => k_is); (case c__law_state => k_is); (case k__law_state => k_is)
    (case a_is_integer => k_is); (case l_is_integer => k_is); (case c_is_integer => k_is); (case k_is_integer => k_is)
    (case a__law_is_number => k_is); (case l__law_is_number => k_is); (case c__law_is_number => k_is); (case k__law_is_number => k_is)
    (case a_is_row => k_is); (case l_is_row => k_is); (case c_is_row => k_is); (case k_is_row => k_is)
    (case a_raised => k_is); (case l_raised => k_is); (case c_raised => k_is); (case k_raised => k_is)
    (case a__is_length => k_is); (case l__is_length => k_is); (case c__is_length => k_is); (case k__is_length => k_is)
    (case a_is_series => k_is); (case l_is_series => k_is); (case c_is_series => k_is); (case k_is_series => k_is)
    (case a_check_series => k_is); (case l_check_series => k_is); (case c_check_series => k_is); (case k_check_series => k_is)
    (case a_check_weight => k_is); (case l_check_weight => k_is); (case c_check_weight => k_is); (case k_check_weight => k_is)
    (case a_check_index => k_is); (case l_check_index => k_is); (case c_check_index => k_is); (case k_check_index => k_is)
    (case a__told_items => k_is); (case l__told_items => k_is); (case c__told_items => k_is); (case k__told_items => k_is)
    (case a_operated => k_is); (case l_operated => k_is); (case c_operated => k_is); (case k_operated => k_is)
    (case a__law_no_word => k_is); (case l__law_no_word => k_is); (case c__law_no_word => k_is); (case k__law_no_word => k_is)
    (case a__law_odd => k_is); (case l__law_odd => k_is); (case c__law_odd => k_is); (case k__law_odd => k_is)
    (case a__law_plain => k_is); (case l__law_plain => k_is); (case c__law_plain => k_is); (case k__law_plain => k_is)
    (case a__law_is_equal => k_is); (case l__law_is_equal => k_is); (case c__law_is_equal => k_is); (case k__law_is_equal => k_is)
    (case a__law_pow => k_is); (case l__law_pow => k_is); (case c__law_pow => k_is); (case k__law_pow => k_is)
    (case a__law_operated => k_is); (case l__law_operated => k_is); (case c__law_operated => k_is); (case k__law_operated => k_is)
    (case a__law_weight => k_is); (case l__law_weight => k_is); (case c__law_weight => k_is); (case k__law_weight => k_is)
    (case a__law_common => k_is); (case l__law_common => k_is); (case c__law_common => k_is); (case k__law_common => k_is)
    (case a__law_told => k_is); (case l__law_told => k_is); (case c__law_told => k_is); (case k__law_told => k_is)
    (case a__law_twice_holds => k_is); (case l__law_twice_holds => k_is); (case c__law_twice_holds => k_is); (case k__law_twice_holds => k_is)
    (case a_law => k_is); (case l_law => k_is); (case c_law => k_is); (case k_law => k_is)
    (case z_abs => k_is); (case z_int => k_is); (case z_bool => k_is); (case z_str => k_is)
    (case z_tuple => k_is); (case z_list => k_is); (case z_sum => k_is); (case z_range => k_is)
    (case z_isinstance => k_is); (case z_len => k_is); (case z_all => k_is); (case v_GREATEST_WEIGHT => k_is)
    (case v_LARGEST_INDEX => k_is); (case v_LEAST_WEIGHT => k_is); (case v_LONGEST => k_is); (case aM => k_is)
    (case xM => k_exc); (case kM => k_is); (case bM => k_is); (case tM => k_is)
    (case iM => k_is); (case mM => k_is)
