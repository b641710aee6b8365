import PyProof.Rows.All
import Wide.All
import OpenK.AllK
import Wide.FinOn
import HandS.ForMost
import HandS.Exc
import HandS.ExcOwn
import HandS.ExcInit
import HandS.TryOnly
import HandS.TryMany
import HandS.WordsExc
import HandS.Gcd
import HandS.Wide
import HandS.WideMore
import HandS.WideBits
import HandS.IsInst
import HandS.Style
import HandS.Flow
import HandS.SortRule
import HandS.SortInts
import HandS.Conv
import HandS.ExcField
import KE.SortData
import HandS.More
import KE.BitLaws
import KE.GoesEnum
import KE.GoesMore
import PyProof.WalksMore
import HandS.TupAny
import HandS.Zip
import HandS.Rev
import HandS.TupMul
import HandS.Deep
import KE.DataMinMax
import KE.IntBitsLaws
import PyProof.SliceList
import PySem.Challenge.RW_classledger_k06_primes_told
set_option Elab.async false
set_option linter.all false
set_option maxRecDepth 100000
set_option maxHeartbeats 4000000
namespace CB
open PySem PySem.Spec PyProof.Rows L2
/-! ### operators of any size -/
section
variable {X : Cx}
theorem op_mulI : OpR X (binaryOp .Mult) (rI IntMulOk fun i j => .int (i * j)) := opI fun _ _ _ _ _ _ _ hc q => mul_int q hc
theorem iop_mulI : OpR X (inplaceOp .Mult) (rI IntMulOk fun i j => .int (i * j)) := opI fun _ _ _ _ _ _ _ hc q => imul_int q hc
/-- math.isqrt of an int below 2 ^ 13000 -/
def rIsqrt : List V → Hp → VK → Prop := fun vs H Q => ∃ a : Int, vs = [.int a] ∧ 0 ≤ a ∧ a < 2 ^ 13000 ∧ Q (.int ((Float64.isqrt a.toNat : Nat) : Int)) H
theorem log_lt {n k : Nat} (h : n < 2 ^ (k + 1)) : n.log2 ≤ k := PySem.W.mg_log h
theorem cr_isqrt : CallR X (.builtin "math.isqrt") rIsqrt := by
  intro pins s σ H vs us Q I r h
  obtain ⟨a, rfl, h0, h1, q⟩ := h
  obtain ⟨u, rfl, ru⟩ := vals1 r
  obtain ⟨t, rfl⟩ := ru
  have hl : a.toNat.log2 ≤ 12999 := log_lt (by
    have e : ((2 : Int) ^ 13000) = ((2 ^ 13000 : Nat) : Int) := by rw [Int.natCast_pow]; rfl
    rw [e] at h1
    show a.toNat < 2 ^ 13000
    omega)
  exact call_function_meets PySem.W.MGF.kind_isqrt PySem.W.MGF.plain_isqrt PySem.W.MGF.entry_isqrt (PySem.W.MGF.args_isqrt _) (PySem.W.mg_run_isqrt a t (by omega) (by omega) (by omega)).meets
    ⟨.int _, H, I.tok _, ⟨_, rfl⟩, q⟩
theorem isqrt_spec (n : Nat) : Float64.isqrt n * Float64.isqrt n ≤ n ∧ n < (Float64.isqrt n + 1) * (Float64.isqrt n + 1) := PySem.Float64.isqrt_spec n
/-! ### a < b < c < d -/
def tChain3 (r r' r'' : R2) (ta tb tc td : TE) : TE := fun σ H Q => ta σ H fun x H1 => tb σ H1 fun y H2 => r x y H2 fun z H3 => ∃ k, z = .bl k ∧
  (if k = true then tc σ H3 fun y' H4 => r' y y' H4 fun z' H5 => ∃ k', z' = .bl k' ∧ (if k' = true then td σ H5 fun w' H6 => r'' y' w' H6 Q else Q (.bl false) H5) else Q (.bl false) H3)
variable {a b c d : Expr} {ta tb tc td : TE} {pos : Pos}
theorem pt_chain3 {o1 o2 o3 : CmpOp} {r r' r'' : R2} (ho : OpR X (compareOp o1) r) (ho' : OpR X (compareOp o2) r') (ho'' : OpR X (compareOp o3) r'') (ha : PE X a ta) (hb : PE X b tb) (hc : PE X c tc) (hd : PE X d td)
    (hm : lastMarks [o1, o2, o3] [b, c, d] = false := by with_unfolding_all rfl) : PT X (.Compare a [o1, o2, o3] [b, c, d] pos) (tTest (tChain3 r r' r'' ta tb tc td)) := by
  refine ⟨fun pins s σ H Q I h => ?_⟩
  refine isTrue_chain (thn (ha.run pins s σ H _ I h) fun v s1 ⟨x, H1, I1, r1, q1⟩ => test_link (thn (hb.run pins s1 σ H1 _ I1 q1) fun u s2 ⟨y, H2, I2, r2, q2⟩ =>
    thn (ho pins s2 σ H2 x y v u _ I2 r1 r2 q2) fun d1 s3 ⟨z, H3, I3, r3, k, e, q3⟩ => ?_)) hm
  subst e
  cases r3
  refine wpAny_truthy_bool ?_
  cases k with
  | false =>
    obtain ⟨k', e', q'⟩ := q3
    cases e'
    exact ite_ff ⟨H3, I3, q'⟩
  | true =>
    refine ite_tt (test_link (thn (hc.run pins s3 σ H3 _ I3 q3) fun u' s4 ⟨y', H4, I4, r4, q4⟩ => thn (ho' pins s4 σ H4 y y' u u' _ I4 r2 r4 q4) fun d2 s5 ⟨z2, H5, I5, r5, k2, e2, q5⟩ => ?_))
    subst e2
    cases r5
    refine wpAny_truthy_bool ?_
    cases k2 with
    | false =>
      obtain ⟨k', e', q'⟩ := q5
      cases e'
      exact ite_ff ⟨H5, I5, q'⟩
    | true =>
      refine ite_tt (test_last (thn (hd.run pins s5 σ H5 _ I5 q5) fun w' s6 ⟨z3, H6, I6, r6, q6⟩ => thn (ho'' pins s6 σ H6 y' z3 u' w' _ I6 r4 r6 q6) fun d3 s7 ⟨z4, H7, I7, r7, k4, e4, q7⟩ => ?_))
      subst e4
      cases r7
      exact wpAny_truthy_bool ⟨H7, I7, q7⟩
end
/-! ### a def that a caller calls by its name -/
structure Cal (P : Program) (w : World) (K : PySem.W.Frag) (mg : Str → Option Value) (base : Heap) (x : Str) (k : Nat) (ps : List Str) (sp : Sp) : Prop where
  ok : ∃ f fd, FnOk P w K mg base CX0 k f fd ps sp ∧ mg x = some (.ref f) ∧ PySem.W.keepIn K (.ref f) = true ∧ Binds K fd ps []
section
variable {X : Cx} {k : Nat} {ps : List Str} {sp : Sp} {x : Str} {p pos : Pos} {e : Expr} {es : List Expr} {t : TA}
theorem pe_cal (C : Cal X.prog X.w X.K X.mg X.base x k ps sp) (hr : Room k X.A) (hg : Gl X x) (ha : PA X (e :: es) t) (hdb : (x == ("__debug__" : Str)) = false := by decide)
    (he : starEach (e :: es) X.env = (false, eval e X.env) :: starEach es X.env := by rfl) (hpl : (backTo pos (starEach es X.env)).any (·.1) = false := by rfl) : PE X (.Call (.Name x p) (e :: es) [] pos) (tCall sp [] E0 t) := by
  obtain ⟨f, fd, F, hm, hk, hb⟩ := C.ok
  exact pe_call F hr hg hm hk hb .nil pass0 ha hdb he hpl
end
/-! ### readings, unfolded -/
section
variable {σ : L2.St} {H : Hp} {Q : VK} {QT : Bool → Hp → Prop} {QA : List V → Hp → Prop} {D : Ends} {i j : Nat} {v x y : V} {ta tb tc td : TE} {tA tB' : TT} {t u : TS} {tr : TA} {K : PySem.W.Frag}
theorem rd_var : tVar i σ H Q = ∃ v, σ[i]? = some (some v) ∧ Q v H := rfl
theorem rd_C : tC v σ H Q = Q v H := rfl
theorem rd_op {r : R2} : tOp r ta tb σ H Q = ta σ H fun x H1 => tb σ H1 fun y H2 => r x y H2 Q := rfl
theorem rd_un {r : V → Hp → VK → Prop} : tUn r ta σ H Q = ta σ H fun x H1 => r x H1 Q := rfl
theorem rd_I {C : Int → Int → Prop} {g : Int → Int → V} : rI C g x y H Q = ∃ i j, x = .int i ∧ y = .int j ∧ C i j ∧ Q (g i j) H := rfl
theorem rd_I0 {g : Int → Int → V} : rI0 g x y H Q = ∃ i j, x = .int i ∧ y = .int j ∧ Q (g i j) H := rfl
theorem rd_U {g : Int → V} : rU g x H Q = ∃ i, x = .int i ∧ Q (g i) H := rfl
theorem rd_Eq : rEq x y H Q = (scal x y = true ∧ Q (.bl (decide (x = y))) H) := rfl
theorem rd_Ne : rNe x y H Q = (scal x y = true ∧ Q (.bl (!decide (x = y))) H) := rfl
theorem rd_test : tTest ta σ H QT = ta σ H fun x H' => ∃ k, x = .bl k ∧ QT k H' := rfl
theorem rd_B : L2.tB ta σ H QT = ta σ H fun x H' => ∃ k, x = .bl k ∧ QT k H' := rfl
theorem rd_and {s t : TT} : tAnd s t σ H QT = s σ H fun c H1 => if c = true then t σ H1 QT else QT false H1 := rfl
theorem rd_or {s t : TT} : tOr s t σ H QT = s σ H fun c H1 => if c = true then QT true H1 else t σ H1 QT := rfl
theorem rd_not {s : TT} : tNot s σ H QT = s σ H fun c H1 => QT (!c) H1 := rfl
theorem rd_andV : tAndV ta tb σ H Q = ta σ H fun x H1 => ∃ c, x = .bl c ∧ if c = true then tb σ H1 Q else Q (.bl false) H1 := rfl
theorem rd_orV : tOrV ta tb σ H Q = ta σ H fun x H1 => ∃ c, x = .bl c ∧ if c = true then Q (.bl true) H1 else tb σ H1 Q := rfl
theorem rd_notV : tNotV ta σ H Q = ta σ H fun x H1 => ∃ c, x = .bl c ∧ Q (.bl (!c)) H1 := rfl
theorem rd_if {c : TT} : tIf c ta tb σ H Q = c σ H fun b H1 => if b = true then ta σ H1 Q else tb σ H1 Q := rfl
theorem rd_chain {r r' : R2} : tChain r r' ta tb tc σ H Q = ta σ H fun x H1 => tb σ H1 fun y H2 => r x y H2 fun z H3 => ∃ k, z = .bl k ∧ (if k = true then tc σ H3 fun w' H4 => r' y w' H4 Q else Q (.bl false) H3) := rfl
theorem rd_chain3 {r r' r'' : R2} : tChain3 r r' r'' ta tb tc td σ H Q = ta σ H fun x H1 => tb σ H1 fun y H2 => r x y H2 fun z H3 => ∃ k, z = .bl k ∧
  (if k = true then tc σ H3 fun y' H4 => r' y y' H4 fun z' H5 => ∃ k', z' = .bl k' ∧ (if k' = true then td σ H5 fun w' H6 => r'' y' w' H6 Q else Q (.bl false) H5) else Q (.bl false) H3) := rfl
theorem rd_next : tNext D σ H = D.nx σ H := rfl
theorem rd_seq : tSeq t u D σ H = t { D with nx := u D } σ H := rfl
theorem rd_drop : tDrop ta D σ H = ta σ H fun _ H1 => D.nx σ H1 := rfl
theorem rd_ret : tRet ta D σ H = ta σ H D.rt := rfl
theorem rd_retN : tRetN D σ H = D.rt .non H := rfl
theorem rd_break : tBreak D σ H = D.bk σ H := rfl
theorem rd_cont : tCont D σ H = D.ct σ H := rfl
theorem rd_ifS {c : TT} : tIfS c t u D σ H = c σ H fun b H1 => if b = true then t D σ H1 else u D σ H1 := rfl
theorem rd_asg {g : TG} : tAsg ta g D σ H = ta σ H fun x H1 => g x σ H1 D.nx := rfl
theorem rd_name {QS : L2.St → Hp → Prop} : gName i v σ H QS = QS (σ.set i (some v)) H := rfl
theorem rd_gsub {to ti : TE} {s : TSet} {QS : L2.St → Hp → Prop} : gSub to ti s v σ H QS = to σ H fun o H1 => ti σ H1 fun i H2 => s o i v H2 fun H3 => QS σ H3 := rfl
theorem rd_gtup {n : Nat} {g : TGs} {QS : L2.St → Hp → Prop} : gTup K n g v σ H QS = ∃ a xs, v = .ref a ∧ SqT K H a xs ∧ xs.length = n ∧ g xs σ H QS := rfl
theorem rd_gcons {g : TG} {gs : TGs} {vs : List V} {QS : L2.St → Hp → Prop} : gCons g gs vs σ H QS = ∃ v r, vs = v :: r ∧ g v σ H fun σ' H' => gs r σ' H' QS := rfl
theorem rd_gnil {vs : List V} {QS : L2.St → Hp → Prop} : gNil vs σ H QS = (vs = [] ∧ QS σ H) := rfl
theorem rd_par : tPar i j tr D σ H = tr σ H fun vs H1 => ∃ v w, vs = [v, w] ∧ D.nx ((σ.set i (some v)).set j (some w)) H1 := rfl
theorem rd_aug {te : TE} {ti : TIp} : tAug i te ti D σ H = ∃ x, σ[i]? = some (some x) ∧ te σ H fun y H1 => ti x y H1 fun z H2 => D.nx (σ.set i (some z)) H2 := rfl
theorem rd_ipI {f : Int → Int → Int} : ipI f x y H Q = ∃ i j, x = .int i ∧ y = .int j ∧ Q (.int (f i j)) H := rfl
theorem rd_nil : tNil σ H QA = QA [] H := rfl
theorem rd_cons : tCons ta tr σ H QA = ta σ H fun x H1 => tr σ H1 fun xs H2 => QA (x :: xs) H2 := rfl
theorem rd_tup : tTup tr σ H Q = tr σ H fun xs H1 => xs.length ≤ sizeLine ∧ ∀ p, H1 p = none → Q (.ref p) (upd H1 p (.tup xs)) := rfl
theorem rd_lst : tLst tr σ H Q = tr σ H fun xs H1 => xs.length ≤ sizeLine ∧ ∀ p, H1 p = none → Q (.ref p) (upd H1 p (.lst xs)) := rfl
theorem rd_CB {r : List V → Hp → VK → Prop} : tCB r tr σ H Q = tr σ H fun vs H1 => r vs H1 Q := rfl
theorem rd_call {sp : Sp} {dvs : List V} {E : XK} : tCall sp dvs E tr σ H Q = tr σ H fun vs H1 => sp (vs ++ dvs) H1 Q E := rfl
theorem rd_callS {sp : Sp} {E : L2.St → XK} : tCallS sp E tr σ H Q = tr σ H fun vs H1 => sp vs H1 Q (E σ) := rfl
theorem rd_ixL : rIxL K x y H Q = ∃ p xs i v, x = .ref p ∧ y = .int i ∧ SqL K H p xs ∧ atI xs i = some v ∧ Q v H := rfl
theorem rd_ixT : rIxT K x y H Q = ∃ p xs i v, x = .ref p ∧ y = .int i ∧ SqT K H p xs ∧ atI xs i = some v ∧ Q v H := rfl
theorem rd_isqrt {vs : List V} : rIsqrt vs H Q = ∃ a : Int, vs = [.int a] ∧ 0 ≤ a ∧ a < 2 ^ 13000 ∧ Q (.int ((Float64.isqrt a.toNat : Nat) : Int)) H := rfl
theorem rd_sum {vs : List V} : rSum K vs H Q = ∃ (a : Addr) (ns : List Int), vs = [V.ref a] ∧ SqL K H a (ns.map V.int) ∧ Q (.int ns.sum) H := rfl
end

/-! ### a def of the text: it stands, its name, its parameters -/
structure Dn (K : PySem.W.Frag) (mg : Str → Option Value) (x : Str) (st : Stmt) (ps : List Str) : Prop where
  ok : ∃ f fd, Fun K x x st f fd ∧ mg x = some (.ref f) ∧ Binds K fd ps []
section
variable {P : Program} {w : World} {K : PySem.W.Frag} {mg : Str → Option Value} {base : Heap}
theorem Dn.cal {x : Str} {st : Stmt} {N ps : List Str} {k : Nat} {sp : Sp} (D : Dn K mg x st ps) (S : FnScope N ps (defScope st)) (len : ∀ vs H Q E, sp vs H Q E → vs.length = ps.length)
    (hbody : ∀ (f : Addr) (cdv : Value) (A : Around) (outer : List Env) (s : Shared) (H : Hp) (vs : List V) (Q : VK) (E : XK), Room k (A.deeper (envOfC x (defScope st) s.heap.objs.size f cdv)) → sp vs H Q E →
      ∃ t, PSs (cxOf CX0 P w K mg base N x (defScope st) f cdv A outer s H E).nox (defBody st) t ∧ t { nx := fun _ H' => Q .non H', rt := Q } (start N vs) H) : Cal P w K mg base x (k + 1) ps sp := by
  obtain ⟨f, fd, F, hm, hb⟩ := D.ok
  exact ⟨f, fd, F.ok S len fun cdv A outer s H vs Q E hr h => hbody f cdv A outer s H vs Q E hr h, hm, F.kp, hb⟩
end
/-- a weaker wish -/
theorem same_upd {H : Hp} {p : Addr} {o : HO} (h : H p = none) : Same H (upd H p o) := fun b x e => by
  rw [upd_ne (ne_of_none e h)]
  exact e
theorem ex_int {p : Int → Prop} {i : Int} : (∃ j, V.int i = V.int j ∧ p j) = p i := by simp
theorem ex_bl {p : Bool → Prop} {i : Bool} : (∃ j, V.bl i = V.bl j ∧ p j) = p i := by simp
theorem ex_ref {p : Addr → Prop} {i : Addr} : (∃ j, V.ref i = V.ref j ∧ p j) = p i := by simp
theorem ex_str {p : Str → Prop} {i : Str} : (∃ j, V.str i = V.str j ∧ p j) = p i := by simp
theorem ex_some {p : V → Prop} {x : V} : (∃ v, some (some x) = some (some v) ∧ p v) = p x := by simp
theorem ex_2i {p : Int → Int → Prop} {i j : Int} : (∃ a b, V.int i = V.int a ∧ V.int j = V.int b ∧ p a b) = p i j := by simp
theorem ex_l1 {p : Int → Prop} {i : Int} : (∃ j, [V.int i] = [V.int j] ∧ p j) = p i := by simp
theorem ex_l2 {p : Int → Int → Prop} {i j : Int} : (∃ a b, [V.int i, V.int j] = [V.int a, V.int b] ∧ p a b) = p i j := propext ⟨fun ⟨_, _, e, h⟩ => by cases e; exact h, fun h => ⟨_, _, rfl, h⟩⟩
theorem ex_v2 {p : V → V → Prop} {i j : V} : (∃ a b, [i, j] = [a, b] ∧ p a b) = p i j := propext ⟨fun ⟨_, _, e, h⟩ => by cases e; exact h, fun h => ⟨_, _, rfl, h⟩⟩
theorem int1_eq {p : Int → Prop} {q : Bool → Prop} {i : Int} : ((∃ j, [V.int i] = [V.int j] ∧ p j) ∨ ∃ k, [V.int i] = [V.bl k] ∧ q k) = p i := by simp
theorem scal_int {i j : Int} : (scal (V.int i) (V.int j) = true) = True := by simp [scal]
theorem scal_str {i j : Str} : (scal (V.str i) (V.str j) = true) = True := by simp [scal]
theorem dec_ii {i j : Int} : decide (V.int i = V.int j) = decide (i = j) := by simp
theorem ite_dec {p : Prop} [Decidable p] {A B : Prop} : (if decide p = true then A else B) = (if p then A else B) := by simp
theorem ite_ndec {p : Prop} [Decidable p] {A B : Prop} : (if (!decide p) = true then A else B) = (if p then B else A) := by
  by_cases h : p <;> simp [h]
section
variable {H : Hp} {Q : VK} {x y v : V}
theorem rd_setL {R : Hp → Prop} : rSetL x y v H R = ∃ p xs k j, x = .ref p ∧ y = .int k ∧ H p = some (.lst xs) ∧ ixN xs.length k = some j ∧ R (upd H p (.lst (xs.set j v))) := rfl
theorem rd_append {K : PySem.W.Frag} {to : TE} {t : TA} {σ : L2.St} : tBM K "list" rAppend to t σ H Q = to σ H fun x H1 => tyV K "list" x H1 ∧ t σ H1 fun xs H2 => ∃ l ys y, x = .ref l ∧ xs = [y] ∧ H2 l = some (.lst ys) ∧ ys.length < sizeLine ∧ Q .non (upd H2 l (.lst (ys ++ [y]))) := rfl
theorem K_nox {X : Cx} : X.nox.K = X.K := rfl
theorem K_cxOf {CX : CXT} {P : Program} {w : World} {K : PySem.W.Frag} {mg : Str → Option Value} {base : Heap} {N : List Str} {qual : Str} {scope : Scope} {f : Addr} {cd : Value} {A : Around} {outer : List Env} {s : Shared} {H : Hp} {E : XK} :
  (cxOf CX P w K mg base N qual scope f cd A outer s H E).K = K := rfl
end
/-- int * int with a small side -/
theorem mulL {i j : Int} (h : -(2 ^ 64) < i ∧ i < 2 ^ 64) : IntMulOk i j := CMul.ok (.inl h)
theorem mulR {i j : Int} (h : -(2 ^ 64) < j ∧ j < 2 ^ 64) : IntMulOk i j := CMul.ok (.inr h)
theorem tyL {K : PySem.W.Frag} {l : Addr} {xs : List V} {H : Hp} (h : H l = some (.lst xs)) : tyV K "list" (.ref l) H := .inl ⟨rfl, _, SqL.of h⟩
/-! ### loops, by a word: the reading stops at ForL .. -/
def ForJ (J : It) (g : TG) (tb : TS) (D : Ends) (σ : L2.St) (H1 : Hp) : Prop := ∃ W : Nat → Nat → L2.St → Hp → Prop, (∃ m, W 0 m σ H1) ∧ ∀ i m σ H, W i m σ H →
  (J.stop i H ∧ D.nx σ H) ∨ (J.go i H ∧ ∃ N : L2.St → Hp → Prop, (∀ σ' H', N σ' H' → ∃ m', m' < m ∧ W (i + 1) m' σ' H') ∧ ∀ x H', J.yld i H x H' → g x σ H' fun σ2 H2 => tb { D with nx := N, ct := N, bk := D.nx } σ2 H2)
def ForL (K : PySem.W.Frag) (a : Addr) := ForJ (Itl K a)
def ForT (K : PySem.W.Frag) (a : Addr) := ForJ (Itt K a)
def ForR (lo : Int) (n : Nat) := ForJ (Itr lo n)
def ForC (lo c : Int) (n : Nat) := ForJ (Itc lo c n)
section
variable {K : PySem.W.Frag} {a : Addr} {xs : List V} {g : TG} {tb : TS} {D : Ends} {σ : L2.St} {H : Hp} {te : TE} {ta : TA}
theorem rd_forL : tFor (iList K te) g tb D σ H = te σ H fun x H1 => ∃ a, x = .ref a ∧ (∃ xs, SqL K H1 a xs) ∧ ForL K a g tb D σ H1 := rfl
theorem rd_forT : tFor (iTup K te) g tb D σ H = te σ H fun x H1 => ∃ a, x = .ref a ∧ (∃ xs, SqT K H1 a xs) ∧ ForT K a g tb D σ H1 := rfl
theorem rd_forR1 : tFor (iRng1 ta) g tb D σ H = ta σ H fun vs H1 => ∃ j : Int, vs = [.int j] ∧ -(2 ^ 62) ≤ j ∧ j < 2 ^ 62 ∧ ForR 0 j.toNat g tb D σ H1 := rfl
theorem rd_forR2 : tFor (iRng2 ta) g tb D σ H = ta σ H fun vs H1 => ∃ i j : Int, vs = [.int i, .int j] ∧ (-(2 ^ 62) ≤ i ∧ i < 2 ^ 62 ∧ -(2 ^ 62) ≤ j ∧ j < 2 ^ 62) ∧ ForR i (j - i).toNat g tb D σ H1 := rfl
theorem rd_forR3 : tFor (iRng3 ta) g tb D σ H = ta σ H fun vs H1 => ∃ (i j c : Int) (n : Nat), vs = [.int i, .int j, .int c] ∧ RgC i j c n ∧ ForC i c n g tb D σ H1 := rfl
theorem ForL.mk (Pv : Nat → L2.St → Hp → Prop) (h0 : Pv 0 σ H) (hl : ∀ i σ H, i ≤ xs.length → Pv i σ H → SqL K H a xs)
    (hs : ∀ i x σ H, xs[i]? = some x → Pv i σ H → g x σ H fun σ2 H2 => tb { D with nx := Pv (i + 1), ct := Pv (i + 1), bk := D.nx } σ2 H2) (hd : ∀ σ H, Pv xs.length σ H → D.nx σ H) : ForL K a g tb D σ H := for_list Pv h0 hl hs hd
theorem ForT.mk (Pv : Nat → L2.St → Hp → Prop) (h0 : Pv 0 σ H) (hl : ∀ i σ H, i ≤ xs.length → Pv i σ H → SqT K H a xs)
    (hs : ∀ i x σ H, xs[i]? = some x → Pv i σ H → g x σ H fun σ2 H2 => tb { D with nx := Pv (i + 1), ct := Pv (i + 1), bk := D.nx } σ2 H2) (hd : ∀ σ H, Pv xs.length σ H → D.nx σ H) : ForT K a g tb D σ H := for_tup Pv h0 hl hs hd
theorem ForR.mk {lo : Int} {n : Nat} (Pv : Nat → L2.St → Hp → Prop) (h0 : Pv 0 σ H)
    (hs : ∀ i σ H, i < n → Pv i σ H → g (.int (lo + i)) σ H fun σ2 H2 => tb { D with nx := Pv (i + 1), ct := Pv (i + 1), bk := D.nx } σ2 H2) (hd : ∀ σ H, Pv n σ H → D.nx σ H) : ForR lo n g tb D σ H := for_range Pv h0 hs hd
theorem ForC.mk {lo c : Int} {n : Nat} (Pv : Nat → L2.St → Hp → Prop) (h0 : Pv 0 σ H)
    (hs : ∀ i σ H, i < n → Pv i σ H → g (.int (lo + (i : Nat) * c)) σ H fun σ2 H2 => tb { D with nx := Pv (i + 1), ct := Pv (i + 1), bk := D.nx } σ2 H2) (hd : ∀ σ H, Pv n σ H → D.nx σ H) : ForC lo c n g tb D σ H := for_rangeC Pv h0 hs hd
/-- while, the test's answer told (it lays nothing) -/
theorem while_mk {c : TT} (Pv : L2.St → Hp → Prop) (μ : L2.St → Hp → Nat) (h0 : Pv σ H)
    (hs : ∀ σ H, Pv σ H → ∃ b : Bool, (∀ Q : Bool → Hp → Prop, Q b H → c σ H Q) ∧ (b = true → tb { D with nx := fun σ' H' => Pv σ' H' ∧ μ σ' H' < μ σ H, ct := fun σ' H' => Pv σ' H' ∧ μ σ' H' < μ σ H, bk := D.nx } σ H) ∧ (b = false → D.nx σ H)) : tWhile c tb D σ H := by
  refine ⟨fun m σ H => m = μ σ H ∧ Pv σ H, ⟨_, rfl, h0⟩, ?_⟩
  rintro m σ H ⟨rfl, p⟩
  obtain ⟨b, hc, h1, h2⟩ := hs σ H p
  refine hc _ ?_
  cases b with
  | true => rw [if_pos rfl]; exact ⟨_, fun σ' H' ⟨p', l⟩ => ⟨_, l, rfl, p'⟩, h1 rfl⟩
  | false => rw [if_neg Bool.false_ne_true]; exact h2 rfl
end
/-! ### comprehensions -/
def LcJ (J : It) (g : TG) (tt : TT) (te : TE) (vs : List Nat) (σ : L2.St) (H1 : Hp) (Q : VK) : Prop := ∀ D, H1 D = none → ∃ W : Nat → Nat → Hp → Prop, (∃ m, W 0 m (upd H1 D (.lst []))) ∧ ∀ i m H, W i m H →
  (J.stop i H ∧ Q (.ref D) H) ∨ (J.go i H ∧ ∃ Nx : Hp → Prop, (∀ H', Nx H' → ∃ m', m' < m ∧ W (i + 1) m' H') ∧ ∀ x H', J.yld i H x H' → g x (wipe σ vs) H' fun σ2 H2 => wipe σ2 vs = wipe σ vs ∧ tt σ2 H2 fun b H3 =>
    if b = true then te σ2 H3 fun y H4 => ∃ acc, H4 D = some (.lst acc) ∧ acc.length < sizeLine ∧ Nx (upd H4 D (.lst (acc ++ [y]))) else Nx H3)
def LcL (K : PySem.W.Frag) (a : Addr) := LcJ (Itl K a)
def LcT (K : PySem.W.Frag) (a : Addr) := LcJ (Itt K a)
def LcR (lo : Int) (n : Nat) := LcJ (Itr lo n)
section
variable {K : PySem.W.Frag} {a : Addr} {xs : List V} {g : TG} {tt : TT} {te tl : TE} {ta : TA} {vs : List Nat} {σ : L2.St} {H : Hp} {Q : VK}
theorem rd_lcL : tLc (iList K tl) g tt te vs σ H Q = tl σ H fun x H1 => ∃ a, x = .ref a ∧ (∃ xs, SqL K H1 a xs) ∧ LcL K a g tt te vs σ H1 Q := rfl
theorem rd_lcT : tLc (iTup K tl) g tt te vs σ H Q = tl σ H fun x H1 => ∃ a, x = .ref a ∧ (∃ xs, SqT K H1 a xs) ∧ LcT K a g tt te vs σ H1 Q := rfl
theorem rd_lcR1 : tLc (iRng1 ta) g tt te vs σ H Q = ta σ H fun us H1 => ∃ j : Int, us = [.int j] ∧ -(2 ^ 62) ≤ j ∧ j < 2 ^ 62 ∧ LcR 0 j.toNat g tt te vs σ H1 Q := rfl
theorem rd_lcR2 : tLc (iRng2 ta) g tt te vs σ H Q = ta σ H fun us H1 => ∃ i j : Int, us = [.int i, .int j] ∧ (-(2 ^ 62) ≤ i ∧ i < 2 ^ 62 ∧ -(2 ^ 62) ≤ j ∧ j < 2 ^ 62) ∧ LcR i (j - i).toNat g tt te vs σ H1 Q := rfl
/-- the word of a comprehension at D: what is made so far, the heap -/
theorem LcL.mk (Pv : Nat → Addr → Hp → Prop) (h0 : ∀ D, H D = none → Pv 0 D (upd H D (.lst []))) (hl : ∀ D i H, i ≤ xs.length → Pv i D H → SqL K H a xs)
    (hs : ∀ D i x H, xs[i]? = some x → Pv i D H → g x (wipe σ vs) H fun σ2 H2 => wipe σ2 vs = wipe σ vs ∧ tt σ2 H2 fun b H3 =>
      if b = true then te σ2 H3 fun y H4 => ∃ acc, H4 D = some (.lst acc) ∧ acc.length < sizeLine ∧ Pv (i + 1) D (upd H4 D (.lst (acc ++ [y]))) else Pv (i + 1) D H3) (hd : ∀ D H', H D = none → Pv xs.length D H' → Q (.ref D) H') : LcL K a g tt te vs σ H Q :=
  fun D hD => lc_list (Qd := fun H' => Q (.ref D) H') (fun i H => Pv i D H) (h0 D hD) (hl D) (hs D) (fun H' p => hd D H' hD p)
theorem LcT.mk (Pv : Nat → Addr → Hp → Prop) (h0 : ∀ D, H D = none → Pv 0 D (upd H D (.lst []))) (hl : ∀ D i H, i ≤ xs.length → Pv i D H → SqT K H a xs)
    (hs : ∀ D i x H, xs[i]? = some x → Pv i D H → g x (wipe σ vs) H fun σ2 H2 => wipe σ2 vs = wipe σ vs ∧ tt σ2 H2 fun b H3 =>
      if b = true then te σ2 H3 fun y H4 => ∃ acc, H4 D = some (.lst acc) ∧ acc.length < sizeLine ∧ Pv (i + 1) D (upd H4 D (.lst (acc ++ [y]))) else Pv (i + 1) D H3) (hd : ∀ D H', H D = none → Pv xs.length D H' → Q (.ref D) H') : LcT K a g tt te vs σ H Q :=
  fun D hD => lc_tup (Qd := fun H' => Q (.ref D) H') (fun i H => Pv i D H) (h0 D hD) (hl D) (hs D) (fun H' p => hd D H' hD p)
theorem LcR.mk {lo : Int} {n : Nat} (Pv : Nat → Addr → Hp → Prop) (h0 : ∀ D, H D = none → Pv 0 D (upd H D (.lst [])))
    (hs : ∀ D i H, i < n → Pv i D H → g (.int (lo + i)) (wipe σ vs) H fun σ2 H2 => wipe σ2 vs = wipe σ vs ∧ tt σ2 H2 fun b H3 =>
      if b = true then te σ2 H3 fun y H4 => ∃ acc, H4 D = some (.lst acc) ∧ acc.length < sizeLine ∧ Pv (i + 1) D (upd H4 D (.lst (acc ++ [y]))) else Pv (i + 1) D H3) (hd : ∀ D H', H D = none → Pv n D H' → Q (.ref D) H') : LcR lo n g tt te vs σ H Q :=
  fun D hD => lc_range (Qd := fun H' => Q (.ref D) H') (fun i H => Pv i D H) (h0 D hD) (hs D) (fun H' p => hd D H' hD p)
theorem rd_yes {QT : Bool → Hp → Prop} : tYes σ H QT = QT true H := rfl
theorem rd_sl {r : V → Option Int → Option Int → Hp → VK → Prop} {tlo thi : L2.St → Hp → (Option Int → Hp → Prop) → Prop} : tSl r te tlo thi σ H Q = te σ H fun x H1 => tlo σ H1 fun l H2 => thi σ H2 fun u H3 => r x l u H3 Q := rfl
theorem rd_noPart {QO : Option Int → Hp → Prop} : tNoPart σ H QO = QO none H := rfl
theorem rd_part {QO : Option Int → Hp → Prop} : tPart te σ H QO = te σ H fun x H1 => ∃ i, x = .int i ∧ QO (some i) H1 := rfl
theorem rd_slL {x : V} {lo hi : Option Int} : rSlL K x lo hi H Q = ∃ a xs, x = .ref a ∧ SqL K H a xs ∧ ∀ p, H p = none → Q (.ref p) (upd H p (.lst (cutV xs lo hi))) := rfl
end
/-! ### isinstance of a built-in class -/
theorem isi_mk {K : PySem.W.Frag} {x : V} {T t : String} {b : Bool} {H : Hp} {Q : VK} (ty : TyX K H x (.type t)) (e : kitB t T = some b) (q : Q (.bl b) H) : rIsi K [x, .ty T] H Q := ⟨x, .ty T, _, _, b, rfl, .ty T, ty, kit_ty e, q⟩
/-! ### the same with the next turn's word a letter (simp doesn't read it) -/
section
variable {K : PySem.W.Frag} {a : Addr} {xs : List V} {g : TG} {tb : TS} {D : Ends} {σ : L2.St} {H : Hp} {te : TE} {ta : TA} {tt : TT} {vs : List Nat} {Q : VK}
theorem while_w {c : TT} (Pw : L2.St → Hp → Prop) (μ : L2.St → Hp → Nat) (h0 : Pw σ H)
    (hs : ∀ σ H, Pw σ H → ∀ N : L2.St → Hp → Prop, (∀ σ' H', Pw σ' H' → μ σ' H' < μ σ H → N σ' H') →
      ∃ b : Bool, (∀ Q : Bool → Hp → Prop, Q b H → c σ H Q) ∧ (b = true → tb { D with nx := N, ct := N, bk := D.nx } σ H) ∧ (b = false → D.nx σ H)) : tWhile c tb D σ H :=
  while_mk Pw μ h0 fun σ H p => hs σ H p _ fun _ _ h1 h2 => ⟨h1, h2⟩
theorem ForL.w (Pw : Nat → L2.St → Hp → Prop) (h0 : Pw 0 σ H) (hl : ∀ i σ H, i ≤ xs.length → Pw i σ H → SqL K H a xs)
    (hs : ∀ i x σ H, xs[i]? = some x → Pw i σ H → ∀ N : L2.St → Hp → Prop, (∀ σ' H', Pw (i + 1) σ' H' → N σ' H') → g x σ H fun σ2 H2 => tb { D with nx := N, ct := N, bk := D.nx } σ2 H2) (hd : ∀ σ H, Pw xs.length σ H → D.nx σ H) : ForL K a g tb D σ H :=
  ForL.mk Pw h0 hl (fun i x σ H e p => hs i x σ H e p _ fun _ _ h => h) hd
theorem ForT.w (Pw : Nat → L2.St → Hp → Prop) (h0 : Pw 0 σ H) (hl : ∀ i σ H, i ≤ xs.length → Pw i σ H → SqT K H a xs)
    (hs : ∀ i x σ H, xs[i]? = some x → Pw i σ H → ∀ N : L2.St → Hp → Prop, (∀ σ' H', Pw (i + 1) σ' H' → N σ' H') → g x σ H fun σ2 H2 => tb { D with nx := N, ct := N, bk := D.nx } σ2 H2) (hd : ∀ σ H, Pw xs.length σ H → D.nx σ H) : ForT K a g tb D σ H :=
  ForT.mk Pw h0 hl (fun i x σ H e p => hs i x σ H e p _ fun _ _ h => h) hd
theorem ForR.w {lo : Int} {n : Nat} (Pw : Nat → L2.St → Hp → Prop) (h0 : Pw 0 σ H)
    (hs : ∀ i σ H, i < n → Pw i σ H → ∀ N : L2.St → Hp → Prop, (∀ σ' H', Pw (i + 1) σ' H' → N σ' H') → g (.int (lo + i)) σ H fun σ2 H2 => tb { D with nx := N, ct := N, bk := D.nx } σ2 H2) (hd : ∀ σ H, Pw n σ H → D.nx σ H) : ForR lo n g tb D σ H :=
  ForR.mk Pw h0 (fun i σ H e p => hs i σ H e p _ fun _ _ h => h) hd
theorem ForC.w {lo c : Int} {n : Nat} (Pw : Nat → L2.St → Hp → Prop) (h0 : Pw 0 σ H)
    (hs : ∀ i σ H, i < n → Pw i σ H → ∀ N : L2.St → Hp → Prop, (∀ σ' H', Pw (i + 1) σ' H' → N σ' H') → g (.int (lo + (i : Nat) * c)) σ H fun σ2 H2 => tb { D with nx := N, ct := N, bk := D.nx } σ2 H2) (hd : ∀ σ H, Pw n σ H → D.nx σ H) : ForC lo c n g tb D σ H :=
  ForC.mk Pw h0 (fun i σ H e p => hs i σ H e p _ fun _ _ h => h) hd
/-- a comprehension: Pw turn D made heap: the list at D holds made -/
theorem LcL.w (Pw : Nat → Addr → List V → Hp → Prop) (h0 : ∀ D, H D = none → Pw 0 D [] (upd H D (.lst []))) (hl : ∀ D i ys H, i ≤ xs.length → Pw i D ys H → SqL K H a xs)
    (hs : ∀ D i x ys H, xs[i]? = some x → Pw i D ys H → ∀ N : Hp → Prop, (∀ ys' H', Pw (i + 1) D ys' H' → N H') → g x (wipe σ vs) H fun σ2 H2 => wipe σ2 vs = wipe σ vs ∧ tt σ2 H2 fun b H3 =>
      if b = true then te σ2 H3 fun y H4 => ∃ acc, H4 D = some (.lst acc) ∧ acc.length < sizeLine ∧ N (upd H4 D (.lst (acc ++ [y]))) else N H3) (hd : ∀ D ys H', H D = none → Pw xs.length D ys H' → Q (.ref D) H') : LcL K a g tt te vs σ H Q :=
  LcL.mk (xs := xs) (fun i D H => ∃ ys, Pw i D ys H) (fun D n => ⟨[], h0 D n⟩) (fun D i H hi ⟨ys, p⟩ => hl D i ys H hi p) (fun D i x H e ⟨ys, p⟩ => hs D i x ys H e p _ fun ys' H' h => ⟨ys', h⟩) (fun D H' n ⟨ys, p⟩ => hd D ys H' n p)
theorem LcT.w (Pw : Nat → Addr → List V → Hp → Prop) (h0 : ∀ D, H D = none → Pw 0 D [] (upd H D (.lst []))) (hl : ∀ D i ys H, i ≤ xs.length → Pw i D ys H → SqT K H a xs)
    (hs : ∀ D i x ys H, xs[i]? = some x → Pw i D ys H → ∀ N : Hp → Prop, (∀ ys' H', Pw (i + 1) D ys' H' → N H') → g x (wipe σ vs) H fun σ2 H2 => wipe σ2 vs = wipe σ vs ∧ tt σ2 H2 fun b H3 =>
      if b = true then te σ2 H3 fun y H4 => ∃ acc, H4 D = some (.lst acc) ∧ acc.length < sizeLine ∧ N (upd H4 D (.lst (acc ++ [y]))) else N H3) (hd : ∀ D ys H', H D = none → Pw xs.length D ys H' → Q (.ref D) H') : LcT K a g tt te vs σ H Q :=
  LcT.mk (xs := xs) (fun i D H => ∃ ys, Pw i D ys H) (fun D n => ⟨[], h0 D n⟩) (fun D i H hi ⟨ys, p⟩ => hl D i ys H hi p) (fun D i x H e ⟨ys, p⟩ => hs D i x ys H e p _ fun ys' H' h => ⟨ys', h⟩) (fun D H' n ⟨ys, p⟩ => hd D ys H' n p)
theorem LcR.w {lo : Int} {n : Nat} (Pw : Nat → Addr → List V → Hp → Prop) (h0 : ∀ D, H D = none → Pw 0 D [] (upd H D (.lst [])))
    (hs : ∀ D i ys H, i < n → Pw i D ys H → ∀ N : Hp → Prop, (∀ ys' H', Pw (i + 1) D ys' H' → N H') → g (.int (lo + i)) (wipe σ vs) H fun σ2 H2 => wipe σ2 vs = wipe σ vs ∧ tt σ2 H2 fun b H3 =>
      if b = true then te σ2 H3 fun y H4 => ∃ acc, H4 D = some (.lst acc) ∧ acc.length < sizeLine ∧ N (upd H4 D (.lst (acc ++ [y]))) else N H3) (hd : ∀ D ys H', H D = none → Pw n D ys H' → Q (.ref D) H') : LcR lo n g tt te vs σ H Q :=
  LcR.mk (fun i D H => ∃ ys, Pw i D ys H) (fun D n => ⟨[], h0 D n⟩) (fun D i H e ⟨ys, p⟩ => hs D i ys H e p _ fun ys' H' h => ⟨ys', h⟩) (fun D H' n ⟨ys, p⟩ => hd D ys H' n p)
end
theorem rd_max2 {xs : List V} {H : Hp} {Q : VK} : (fun (xs : List V) (H : Hp) (Q : VK) => ∃ i j : Int, xs = [.int i, .int j] ∧ Q (.int (if j > i then j else i)) H) xs H Q = ∃ i j : Int, xs = [.int i, .int j] ∧ Q (.int (if j > i then j else i)) H := rfl
theorem rd_wipe0 {σ : L2.St} : wipe σ [] = σ := rfl
theorem rd_wipe1 {σ : L2.St} {v : Nat} {vs : List Nat} : wipe σ (v :: vs) = (wipe σ vs).set v none := rfl
theorem rd_eqD {K : PySem.W.Frag} {x y : V} {H : Hp} {Q : VK} : rEqD K x y H Q = ∃ d e, Dp K H x d ∧ Dp K H y e ∧ SeqAt.shaped d = true ∧ SeqAt.shaped e = true ∧ Q (.bl (PyData.eqv d e)) H := rfl
theorem rd_neD {K : PySem.W.Frag} {x y : V} {H : Hp} {Q : VK} : rNeD K x y H Q = ∃ d e, Dp K H x d ∧ Dp K H y e ∧ SeqAt.shaped d = true ∧ SeqAt.shaped e = true ∧ Q (.bl (!PyData.eqv d e)) H := rfl
theorem rd_rep {x y : V} {H : Hp} {Q : VK} : rRep x y H Q = ∃ l k xs, x = .ref l ∧ y = .int k ∧ H l = some (.lst xs) ∧ -(2 ^ 63) ≤ k ∧ k < 2 ^ 63 ∧ xs.length * k.toNat ≤ sizeLine ∧ ∀ p, H p = none → Q (.ref p) (upd H p (.lst (List.replicate k.toNat xs).flatten)) := rfl
theorem dp_ints {K : PySem.W.Frag} {H : Hp} : ∀ l : List Int, DpAll K H (l.map V.int) (l.map PyData.int)
  | [] => .nil
  | i :: l => .cons (.int i) (dp_ints l)
theorem dp_strs {K : PySem.W.Frag} {H : Hp} : ∀ l : List Str, DpAll K H (l.map V.str) (l.map PyData.str)
  | [] => .nil
  | i :: l => .cons (.str i) (dp_strs l)
/-! ### powers of any size; tuples made of lists; data -/
def CPowI (i j : Int) : Prop := 0 ≤ j ∧ (Builtin.Int.intBits i : Int) * j ≤ 2 ^ 27
theorem op_powI {X : Cx} : OpR X (binaryOp .Pow) (rI CPowI fun i j => .int (i ^ j.toNat)) := opI fun _ _ _ _ _ _ _ hc q => pow_int hc.1 hc.2 q
theorem bits_le {i : Int} {n : Nat} (h : i.natAbs < 2 ^ n) (h0 : 0 < n) : Builtin.Int.intBits i ≤ n := by
  have a := PySem.Flt.log2_lt_of h0 h
  unfold Builtin.Int.intBits
  split <;> omega
theorem powI {i j : Int} {n : Nat} (h : i.natAbs < 2 ^ n) (h0 : 0 < n) (hj : 0 ≤ j) (hz : (n : Int) * j ≤ 2 ^ 27) : CPowI i j := by
  refine ⟨hj, Int.le_trans (Int.mul_le_mul_of_nonneg_right ?_ hj) hz⟩
  exact Int.ofNat_le.mpr (bits_le h h0)
def rTupOf (K : PySem.W.Frag) : List V → Hp → VK → Prop := fun xs H Q => ∃ p ys, xs = [.ref p] ∧ ((SqL K H p ys ∧ ∀ l, H l = none → Q (.ref l) (upd H l (.tup ys))) ∨ (SqT K H p ys ∧ Q (.ref p) H))
theorem cr_tupOf {X : Cx} : CallR X (.type "tuple") (rTupOf X.K) := call_tuple_of
theorem rd_tupOf {K : PySem.W.Frag} {xs : List V} {H : Hp} {Q : VK} : rTupOf K xs H Q = ∃ p ys, xs = [.ref p] ∧ ((SqL K H p ys ∧ ∀ l, H l = none → Q (.ref l) (upd H l (.tup ys))) ∨ (SqT K H p ys ∧ Q (.ref p) H)) := rfl
def rLenS (K : PySem.W.Frag) : List V → Hp → VK → Prop := fun xs H Q => ∃ x n, xs = [x] ∧ LenV K x H n ∧ Q (.int n) H
theorem cr_lenS {X : Cx} : CallR X (.builtin "len") (rLenS X.K) := call_len
theorem rd_lenS {K : PySem.W.Frag} {xs : List V} {H : Hp} {Q : VK} : rLenS K xs H Q = ∃ x n, xs = [x] ∧ LenV K x H n ∧ Q (.int n) H := rfl
theorem rd_gcd {vs : List V} {H : Hp} {Q : VK} : rGcd vs H Q = ∃ a b : Int, vs = [.int a, .int b] ∧ Q (.int ((Nat.gcd a.natAbs b.natAbs : Nat) : Int)) H := rfl
/-- what holds between two statements -/
theorem seq_cut {t u : TS} {D : Ends} {σ : L2.St} {H : Hp} (Pw : L2.St → Hp → Prop) (h1 : ∀ R : L2.St → Hp → Prop, (∀ σ H, Pw σ H → R σ H) → t { D with nx := R } σ H) (h2 : ∀ σ H, Pw σ H → u D σ H) : tSeq t u D σ H := h1 (u D) h2
theorem rd_any {K : PySem.W.Frag} {vs : List V} {H : Hp} {Q : VK} : rAny K vs H Q = ∃ (a : Addr) (bs : List Bool), vs = [V.ref a] ∧ SqL K H a (bs.map V.bl) ∧ Q (.bl (bs.any id)) H := rfl
theorem rd_all {K : PySem.W.Frag} {vs : List V} {H : Hp} {Q : VK} : rAll K vs H Q = ∃ (a : Addr) (bs : List Bool), vs = [V.ref a] ∧ SqL K H a (bs.map V.bl) ∧ Q (.bl (bs.all id)) H := rfl
theorem rd_ext {K : PySem.W.Frag} {to : TE} {t : TA} {σ : L2.St} {H : Hp} {Q : VK} : tBM K "list" rExtend to t σ H Q = to σ H fun x H1 => tyV K "list" x H1 ∧ t σ H1 fun xs H2 => ∃ l b ys zs, x = .ref l ∧ xs = [.ref b] ∧ H2 l = some (.lst ys) ∧ H2 b = some (.lst zs) ∧ ys.length + zs.length ≤ sizeLine ∧ Q .non (upd H2 l (.lst (ys ++ zs))) := rfl
theorem rd_glst {K : PySem.W.Frag} {n : Nat} {g : TGs} {v : V} {σ : L2.St} {H : Hp} {QS : L2.St → Hp → Prop} : gLst K n g v σ H QS = ∃ a xs, v = .ref a ∧ SqL K H a xs ∧ xs.length = n ∧ g xs σ H QS := rfl
theorem ix_listK {X : Cx} {K : PySem.W.Frag} (h : X.K = K) : IxR X (rIxL K) := by
  subst h
  exact ix_list
theorem ix_tupK {X : Cx} {K : PySem.W.Frag} (h : X.K = K) : IxR X (rIxT K) := by
  subst h
  exact ix_tup
end CB/-! sorted of a list of triples of ints, any number of them -/
namespace CB
open PySem PyProof.Rows Srt SrtO L2
abbrev T3 := Int × Int × Int
def lexT (p q : T3) : Bool := if p.1 = q.1 then lexB p.2 q.2 else decide (p.1 < q.1)
theorem lexT_iff {p q : T3} : lexT p q = true ↔ p.1 < q.1 ∨ (p.1 = q.1 ∧ (p.2.1 < q.2.1 ∨ (p.2.1 = q.2.1 ∧ p.2.2 < q.2.2))) := by
  unfold lexT
  by_cases e : p.1 = q.1
  · rw [if_pos e, lexB_iff]
    omega
  · rw [if_neg e, decide_eq_true_eq]
    omega
theorem lexT_no {p q : T3} : lexT p q = false ↔ ¬ (p.1 < q.1 ∨ (p.1 = q.1 ∧ (p.2.1 < q.2.1 ∨ (p.2.1 = q.2.1 ∧ p.2.2 < q.2.2)))) := by
  rw [← lexT_iff]
  cases lexT p q <;> simp
theorem swo_T {α : Type} (k : α → T3) : Swo fun v u => lexT (k v) (k u) := by
  refine ⟨fun x y h => ?_, fun x y z h1 h2 => ?_⟩
  · have a := lexT_iff.mp h
    refine lexT_no.mpr ?_
    omega
  · have a := lexT_no.mp h1
    have b := lexT_no.mp h2
    refine lexT_no.mpr ?_
    omega
theorem lexT_eq {p q : T3} (h1 : lexT p q = false) (h2 : lexT q p = false) : p = q := by
  have a := lexT_no.mp h1
  have b := lexT_no.mp h2
  obtain ⟨p1, p2, p3⟩ := p
  obtain ⟨q1, q2, q3⟩ := q
  simp only at a b
  have e1 : p1 = q1 := by omega
  have e2 : p2 = q2 := by omega
  have e3 : p3 = q3 := by omega
  rw [e1, e2, e3]
/-- two sorted rearrangements of triples are one -/
theorem srtT_uniq : ∀ {l m : List T3}, l.Pairwise (fun p q => lexT q p = false) → m.Pairwise (fun p q => lexT q p = false) → l.Perm m → l = m := fun {l m} h1 h2 h => by
  refine List.Perm.eq_of_pairwise (le := fun p q => lexT q p = false) (fun a b _ _ x y => lexT_eq y x) h1 h2 h
section
variable {prog : Program} {w : World} {A : Around} {E : Value → Shared → Prop} {s : Shared}
def IsTrip (h : Heap) (v : Value) (k : T3) : Prop := ∃ a o t u r n, v = .ref a ∧ h.get? a = some o ∧ o.cls = .type "tuple" ∧ o.data = .seq #[.int k.1 t, .int k.2.1 u, .int k.2.2 r] n
theorem IsTrip.keeps {h h' : Heap} {v : Value} {k : T3} (p : IsTrip h v k) (kk : ∀ b o, h.get? b = some o → o.cls = .type "tuple" → h'.get? b = some o) : IsTrip h' v k := by
  obtain ⟨a, o, t, u, r, n, e, ho, hc, hd⟩ := p
  exact ⟨a, o, t, u, r, n, e, kk _ _ ho hc, hc, hd⟩
theorem firstsT {h : Heap} : ∀ {vs : List Value}, (∀ v ∈ vs, ∃ k, IsTrip h v k) → ∃ fs : List Value, PySem.W.KatTups h vs fs ∧ fs.length = vs.length ∧ ∀ f ∈ fs, ∃ x t, f = Value.int x t
  | [], _ => ⟨[], PySem.W.KatTups.nil, rfl, fun _ hm => by simp at hm⟩
  | v :: vs, hp => by
    obtain ⟨fs, h1, h2, h3⟩ := firstsT (vs := vs) fun v' hm => hp v' (List.mem_cons_of_mem _ hm)
    obtain ⟨k, a, o, t, u, r, n, e, ho, hc, hd⟩ := hp v (List.mem_cons_self ..)
    subst e
    refine ⟨.int k.1 t :: fs, PySem.W.KatTups.cons ho hc hd rfl h1, by rw [List.length_cons, List.length_cons, h2], fun f hm => ?_⟩
    rcases List.mem_cons.mp hm with rfl | hm
    · exact ⟨k.1, t, rfl⟩
    · exact h3 f hm
theorem trip_cmp {vs : List Value} {k : Value → T3} (hp : ∀ v ∈ vs, IsTrip s.heap v (k v)) : SrtO.Cmp prog w A s (tuples' true) (fun p => p.1 ∈ vs) (lt2 fun v u => lexT (k v) (k u)) := by
  intro p q hm hm'
  have h1 := hp _ hm
  have h2 := hp _ hm'
  show wpAny (model prog w) A (keyLt' (tuples' true) p.1 q.1) (fun r s' => s' = s ∧ r = lexT (k p.1) (k q.1)) (fun _ _ => False) s
  generalize k p.1 = kp at h1 ⊢
  generalize k q.1 = kq at h2 ⊢
  obtain ⟨x, y, z⟩ := kp
  obtain ⟨x', y', z'⟩ := kq
  obtain ⟨a, o, t, u, r, n, e, ho, hc, hd⟩ := h1
  obtain ⟨a', o', t', u', r', n', e', ho', hc', hd'⟩ := h2
  rw [e, e']
  simp only at hd hd'
  refine PySem.W.kat_lt ho hd ho' hd' ?_
  show PySem.W.KatLex prog w A true (decide (3 < 3)) _ [(.int x t, .int x' t'), (.int y u, .int y' u'), (.int z r, .int z' r')] 0 s
  refine PySem.W.kat_cons (SeqAt.EqAt.int_int x t x' t' prog w _ _ ?_)
  refine PySem.W.kat_go (fun e1 => ?_) (fun e1 => ?_)
  · have ex : x = x' := by simpa using e1
    refine PySem.W.kat_yes (PySem.W.kat_cons (SeqAt.EqAt.int_int y u y' u' prog w _ _ ?_))
    refine PySem.W.kat_go (fun e2 => ?_) (fun e2 => ?_)
    · have ey : y = y' := by simpa using e2
      refine PySem.W.kat_yes (PySem.W.kat_cons (SeqAt.EqAt.int_int z r z' r' prog w _ _ ?_))
      refine PySem.W.kat_go (fun e3 => ?_) (fun e3 => ?_)
      · have ez : z = z' := by simpa using e3
        have e4 : lexT (x, y, z) (x', y', z') = false := lexT_no.mpr (by simp only; omega)
        exact PySem.W.kat_yes (PySem.W.kat_nil ⟨rfl, e4.symm⟩)
      · have e4 : lexT (x, y, z) (x', y', z') = decide (z < z') := by
          unfold lexT lexB
          simp only
          rw [if_pos ex, if_pos ey]
        refine PySem.W.kat_no (PySem.W.kat_one _ _ (PyProof.Rows.lt_int ?_))
        exact (show s = s ∧ decide (z < z') = lexT (x, y, z) (x', y', z') from ⟨rfl, e4.symm⟩)
    · have ey : ¬ y = y' := by simpa using e2
      have e4 : lexT (x, y, z) (x', y', z') = decide (y < y') := by
        unfold lexT lexB
        simp only
        rw [if_pos ex, if_neg ey]
      refine PySem.W.kat_no (PySem.W.kat_one _ _ (PyProof.Rows.lt_int ?_))
      exact (show s = s ∧ decide (y < y') = lexT (x, y, z) (x', y', z') from ⟨rfl, e4.symm⟩)
  · have ex : ¬ x = x' := by simpa using e1
    have e3 : lexT (x, y, z) (x', y', z') = decide (x < x') := by
      unfold lexT
      simp only
      rw [if_neg ex]
    exact PySem.W.kat_no (oneLt_int ⟨rfl, e3.symm⟩)
theorem trips_sortableO {a : Addr} {vs : List Value} {k : Value → T3} (h0 : 0 < vs.length) (hp : ∀ v ∈ vs, IsTrip s.heap v (k v)) (ha : ∀ o, s.heap.get? a = some o → o.cls ≠ .type "tuple") : SortableO prog w A s a vs fun v u => lexT (k v) (k u) := by
  intro h' keep
  have hp' : ∀ v ∈ vs, IsTrip h' v (k v) := fun v hm => (hp v hm).keeps fun b o e c => keep b o (fun z => by subst z; exact ha o e c) e
  obtain ⟨fs, h1, h2, h3⟩ := firstsT fun v hm => ⟨_, hp' v hm⟩
  refine ⟨tuples' true, fun Q E hq => ?_, trip_cmp hp'⟩
  refine PySem.W.kat_kind (T := .type "int") h1 (by omega) (fun f hm => ?_) (by rfl) ?_
  · obtain ⟨x, t, rfl⟩ := h3 f hm
    exact PySem.W.Looks.now
  · have e : (Value.type "int" != Value.type "tuple") = true := by first | decide +kernel | rfl | decide
    rw [e]
    exact hq
theorem sorted_tripsO {l : Addr} {vs : List Value} {k : Value → T3} {Q : Value → Shared → Prop} (hl : s.heap.IsList l vs.toArray) (hz : vs.length ≤ sizeLine) (hp : ∀ v ∈ vs, IsTrip s.heap v (k v))
    (h : ∀ (h' : Heap) (d : Addr) (out : List Value), Srtd (fun v u => lexT (k v) (k u)) out → Stb (fun v u => lexT (k v) (k u)) out vs → (∀ b o, s.heap.get? b = some o → h'.get? b = some o) → s.heap.objs.size ≤ d → (∃ n, h'.get? d = some (seqObj "list" out.toArray n)) → Q (.ref d) { s with heap := h' }) :
    wpAny (model prog w) A (call (.builtin "sorted") [.ref l]) Q E s := by
  refine sorted_ord (swo_T k) hl hz (fun h2 h₁ a ha kk => ?_) fun out hs hb => ?_
  · refine trips_sortableO (s := { s with heap := h₁ }) (by omega) (fun v hm => (hp v hm).keeps fun b o e _ => (kk b o e).2) fun o e => ?_
    have e' : some o = some (seqObj "list" vs.toArray 0) := e.symm.trans ha
    cases e'
    intro c
    exact absurd (Value.type.inj c) (by decide)
  · exact h _ _ out hs hb (fun b o e => sortedAll_old e) (Nat.le_succ _) (sortedAll_at s.heap vs out.toArray)
end
end CB
namespace CB
open PySem PySem.Spec PyProof.Rows L2
/-- the triple that stands at x -/
def kT (H : Hp) : V → T3
  | .ref r => match H r with
    | some (.tup [.int a, .int b, .int c]) => (a, b, c)
    | _ => (0, 0, 0)
  | _ => (0, 0, 0)
def IsT3 (H : Hp) (x : V) : Prop := ∃ r a b c, x = V.ref r ∧ H r = some (.tup [.int a, .int b, .int c])
theorem IsT3.at {H : Hp} {x : V} (h : IsT3 H x) : ∃ r, x = V.ref r ∧ H r = some (.tup [.int (kT H x).1, .int (kT H x).2.1, .int (kT H x).2.2]) := by
  obtain ⟨r, a, b, c, rfl, e⟩ := h
  refine ⟨r, rfl, ?_⟩
  have q : kT H (V.ref r) = (a, b, c) := by
    show (match H r with
      | some (.tup [.int a, .int b, .int c]) => (a, b, c)
      | _ => (0, 0, 0)) = _
    rw [e]
  rw [q, e]
/-- the list of triples that stand at the xs -/
def Trs (H : Hp) (xs : List V) (ts : List T3) : Prop := (∀ x ∈ xs, IsT3 H x) ∧ ts = xs.map (kT H)
theorem kT_same {H H' : Hp} (s : Same H H') {x : V} (h : IsT3 H x) : kT H' x = kT H x ∧ IsT3 H' x := by
  obtain ⟨r, a, b, c, rfl, e⟩ := h
  have e' := s _ _ e
  refine ⟨?_, r, a, b, c, rfl, e'⟩
  show (match H' r with
      | some (.tup [.int a, .int b, .int c]) => (a, b, c)
      | _ => (0, 0, 0)) = (match H r with
      | some (.tup [.int a, .int b, .int c]) => (a, b, c)
      | _ => (0, 0, 0))
  rw [e, e']
theorem Trs.same {H H' : Hp} {xs : List V} {ts : List T3} (s : Same H H') (h : Trs H xs ts) : Trs H' xs ts := by
  obtain ⟨h1, rfl⟩ := h
  exact ⟨fun x m => (kT_same s (h1 x m)).2, List.map_congr_left fun x m => (kT_same s (h1 x m)).1.symm⟩
theorem Trs.keep {H H' : Hp} {xs : List V} {ts : List T3} (s : ∀ r a b c, H r = some (.tup [.int a, .int b, .int c]) → H' r = some (.tup [.int a, .int b, .int c])) (h : Trs H xs ts) : Trs H' xs ts := by
  obtain ⟨h1, rfl⟩ := h
  refine ⟨fun x m => ?_, List.map_congr_left fun x m => ?_⟩
  · obtain ⟨r, a, b, c, e, q⟩ := h1 x m
    exact ⟨r, a, b, c, e, s _ _ _ _ q⟩
  · obtain ⟨r, a, b, c, rfl, q⟩ := h1 x m
    show (match H r with
      | some (.tup [.int a, .int b, .int c]) => (a, b, c)
      | _ => (0, 0, 0)) = (match H' r with
      | some (.tup [.int a, .int b, .int c]) => (a, b, c)
      | _ => (0, 0, 0))
    rw [q, s _ _ _ _ q]
theorem same_at {H H1 : Hp} {f : Addr} {o : HO} (s : Same H H1) (n : H f = none) : Same H (upd H1 f o) := fun b x e => by
  rw [upd_ne (ne_of_none e n)]
  exact s b x e
theorem Trs.updL {H : Hp} {f : Addr} {l : List V} {o : HO} {xs : List V} {ts : List T3} (h : Trs H xs ts) (e : H f = some (.lst l)) : Trs (upd H f o) xs ts :=
  h.keep fun r a b c q => by rw [upd_ne (ne_of q e (by intro z; cases z))]; exact q
theorem Trs.updN {H : Hp} {f : Addr} {o : HO} {xs : List V} {ts : List T3} (h : Trs H xs ts) (e : H f = none) : Trs (upd H f o) xs ts := h.same (same_upd e)
theorem Trs.nil {H : Hp} : Trs H [] [] := ⟨fun x m => by simp at m, rfl⟩
theorem Trs.snoc {H : Hp} {xs : List V} {ts : List T3} {r : Addr} {a b c : Int} (h : Trs H xs ts) (e : H r = some (.tup [.int a, .int b, .int c])) : Trs H (xs ++ [.ref r]) (ts ++ [(a, b, c)]) := by
  obtain ⟨h1, rfl⟩ := h
  refine ⟨fun x m => ?_, ?_⟩
  · rcases List.mem_append.mp m with m | m
    · exact h1 x m
    · rw [List.mem_singleton.mp m]
      exact ⟨r, a, b, c, rfl, e⟩
  · rw [List.map_append]
    show _ = _ ++ [kT H (.ref r)]
    have q : kT H (V.ref r) = (a, b, c) := by
      show (match H r with
        | some (.tup [.int a, .int b, .int c]) => (a, b, c)
        | _ => (0, 0, 0)) = _
      rw [e]
    rw [q]
theorem Trs.get {H : Hp} {xs : List V} {ts : List T3} {i : Nat} {x : V} (h : Trs H xs ts) (e : xs[i]? = some x) : ∃ r a b c, x = .ref r ∧ H r = some (.tup [.int a, .int b, .int c]) ∧ ts[i]? = some (a, b, c) := by
  obtain ⟨h1, rfl⟩ := h
  obtain ⟨r, e1, e2⟩ := (h1 x (List.mem_of_getElem? e)).at
  exact ⟨r, _, _, _, e1, e2, by rw [List.getElem?_map, e]; rfl⟩
theorem Trs.len {H : Hp} {xs : List V} {ts : List T3} (h : Trs H xs ts) : ts.length = xs.length := by
  rw [h.2, List.length_map]
/-- sorted(xs), xs a list of triples of ints -/
def rSorted3 (K : PySem.W.Frag) : List V → Hp → VK → Prop := fun vs H Q => ∃ (a : Addr) (xs : List V) (ts : List T3), vs = [V.ref a] ∧ SqL K H a xs ∧ Trs H xs ts ∧
  ∀ ys us p, Trs H ys us → us.Pairwise (fun p q => lexT q p = false) → us.Perm ts → H p = none → Q (.ref p) (upd H p (.lst ys))
section
variable {X : Cx}
theorem cr_sorted3 : CallR X (.builtin "sorted") (rSorted3 X.K) := by
  intro pins s σ H vs us Q I r h
  obtain ⟨a, xs, ts, rfl, hs, ⟨hx, rfl⟩, q⟩ := h
  obtain ⟨its, rv, hl, hz⟩ := I.list hs
  obtain ⟨u, rfl, ru⟩ := vals1 r
  obtain rfl : u = Value.ref a := ru
  obtain ⟨e1, e2⟩ := refs_back rv fun x m => by
    obtain ⟨t, e, _⟩ := (hx x m).at
    exact ⟨t, e⟩
  refine sorted_tripsO (k := fun u => kT H (backV u)) hl.isList (by rw [← rv.length]; exact hz) (fun v hv => ?_) fun h' d out h1 h2 kp hd hn => ?_
  · obtain ⟨t, rfl⟩ := e2 v hv
    have hm : V.ref t ∈ xs := by rw [e1]; exact List.mem_map.mpr ⟨_, hv, rfl⟩
    obtain ⟨t', e, ht⟩ := (hx _ hm).at
    cases e
    obtain ⟨_, its2, r2, o, ho, hc, n, hd⟩ := I.hok _ _ ht
    cases r2 with
    | cons ra r2 =>
      cases r2 with
      | cons rb r2 =>
        cases r2 with
        | cons rc r2 =>
          cases r2
          obtain ⟨t1, rfl⟩ := ra
          obtain ⟨t2, rfl⟩ := rb
          obtain ⟨t3, rfl⟩ := rc
          exact ⟨t, o, t1, t2, t3, n, rfl, ho, hc, hd⟩
  · have h3 : ∀ u ∈ out, ∃ a, u = Value.ref a := fun u hu => e2 u (h2.perm.mem_iff.mp hu)
    obtain ⟨n, hn⟩ := hn
    have hp : (out.map backV).Perm xs := by
      rw [e1]
      exact h2.perm.map backV
    have hT : ∀ x ∈ out.map backV, IsT3 H x := fun x m => hx x (hp.mem_iff.mp m)
    have hS : ((out.map backV).map (kT H)).Pairwise (fun p q => lexT q p = false) := by
      rw [List.pairwise_map, List.pairwise_map]
      exact h1
    refine ⟨.ref d, upd H d (.lst (out.map backV)), I.laid (t' := s.toks) kp hd ⟨?_, out, n, vals_back h3, hn⟩, rfl, q _ _ d ⟨hT, rfl⟩ hS (hp.map (kT H)) (I.hok.fresh hd)⟩
    rw [hp.length_eq]
    exact hz
end
section
variable {H : Hp} {Q : VK} {K : PySem.W.Frag} {vs : List V}
theorem rd_sorted3 : rSorted3 K vs H Q = ∃ (a : Addr) (xs : List V) (ts : List T3), vs = [V.ref a] ∧ SqL K H a xs ∧ Trs H xs ts ∧
  ∀ ys us p, Trs H ys us → us.Pairwise (fun p q => lexT q p = false) → us.Perm ts → H p = none → Q (.ref p) (upd H p (.lst ys)) := rfl
end
/-! ### triples as data -/
def dT3 (t : T3) : PyData := .tuple [.int t.1, .int t.2.1, .int t.2.2]
theorem dp_t3 {K : PySem.W.Frag} {H : Hp} {x : V} (h : IsT3 H x) : Dp K H x (dT3 (kT H x)) := by
  obtain ⟨r, rfl, e⟩ := h.at
  exact .tup (SqT.of e) (.cons (.int _) (.cons (.int _) (.cons (.int _) .nil)))
theorem dp_trs {K : PySem.W.Frag} {H : Hp} : ∀ {xs : List V} {ts : List T3}, Trs H xs ts → DpAll K H xs (ts.map dT3) := fun {xs ts} h => by
  obtain ⟨h1, rfl⟩ := h
  induction xs with
  | nil => exact .nil
  | cons x xs ih => exact .cons (dp_t3 (h1 x List.mem_cons_self)) (ih fun y m => h1 y (List.mem_cons_of_mem _ m))
theorem lay_t3 : ∀ ts : List T3, PyData.canLayAll0 (ts.map dT3) = true
  | [] => rfl
  | t :: ts => by
    show (PyData.canLay0 (dT3 t) && PyData.canLayAll0 (ts.map dT3)) = true
    rw [lay_t3 ts]
    rfl
theorem depth_t3 : ∀ ts : List T3, PyData.depthAll (ts.map dT3) ≤ 3
  | [] => by decide
  | t :: ts => by
    have := depth_t3 ts
    show max (PyData.depth (dT3 t)) (PyData.depthAll (ts.map dT3)) ≤ 3
    have e : PyData.depth (dT3 t) = 1 := rfl
    omega
theorem shaped_t3 (ts : List T3) : SeqAt.shaped (.tuple (ts.map dT3)) = true := by
  unfold SeqAt.shaped
  have a : PyData.canLay0 (.tuple (ts.map dT3)) = true := lay_t3 ts
  have b : PyData.depth (.tuple (ts.map dT3)) ≤ 64 := by
    have := depth_t3 ts
    show PyData.depthAll (ts.map dT3) + 1 ≤ 64
    omega
  rw [a, decide_eq_true b]
  rfl
end CB
/-! try with several clauses, each with a name or without -/
namespace CB
open PySem PySem.Spec PyProof.Rows L2
abbrev Cl := Value × Option Nat × (Addr → Value → Option Addr → TS)
def endA (i : Option Nat) (D : Ends) : Ends := match i with
  | none => D
  | some i => { nx := fun p q => D.nx (p.set i none) q, rt := D.rt, bk := fun p q => D.bk (p.set i none) q, ct := fun p q => D.ct (p.set i none) q }
def setA (i : Option Nat) (p : L2.St) (a : Addr) : L2.St := match i with
  | none => p
  | some i => p.set i (some (.ref a))
def wA (K : PySem.W.Frag) (Wo : WX) (D : Ends) : List Cl → WX
  | [] => Wo
  | (c, i, ts) :: r => fun cls d p H => ∃ b, PySem.W.exmOne K cls c = some b ∧ (b = true → ∀ a, H a = none → ts a cls d (endA i D) (setA i p a) H) ∧ (b = false → wA K Wo D r cls d p H)
/-- the clauses of the text -/
inductive HdA (X : Cx) : List ExceptHandler → List Cl → Prop
  | nil : HdA X [] []
  | bare {x : Str} {c : Value} {ts : Addr → Value → Option Addr → TS} {b1 : Stmt} {su : List Stmt} {np pp : Pos} {hs : List ExceptHandler} {l : List Cl} (hc : Names X x c)
      (hw : ∀ (a : Addr) (o : Obj) (cls : Value) (d : Option Addr) (pn : List (Addr × Obj)), Zc cls d o → (∃ vs, o.data = .fields vs) → PSs (X.suite a ((a, o) :: pn)) (b1 :: su) (ts a cls d)) (r : HdA X hs l) :
      HdA X (.ExceptHandler (some (.Name x np)) none (b1 :: su) pp :: hs) ((c, none, ts) :: l)
  | named {x n : Str} {c : Value} {i : Nat} {ts : Addr → Value → Option Addr → TS} {b1 : Stmt} {su : List Stmt} {np pp : Pos} {hs : List ExceptHandler} {l : List Cl} (hc : Names X x c) (hi : X.N[i]? = some n) (hn : X.env.kindOf n = some .local)
      (hw : ∀ (a : Addr) (o : Obj) (cls : Value) (d : Option Addr) (pn : List (Addr × Obj)), Zc cls d o → (∃ vs, o.data = .fields vs) → PSs (X.suite a ((a, o) :: pn)) (b1 :: su) (ts a cls d)) (r : HdA X hs l) :
      HdA X (.ExceptHandler (some (.Name x np)) (some n) (b1 :: su) pp :: hs) ((c, some i, ts) :: l)
section
variable {X : Cx} {body : List Stmt} {h1 : ExceptHandler} {hs : List ExceptHandler} {l : List Cl} {pos : Pos} {tb : WX → TS} {Wo : WX}
theorem ps_tryA (hst : X.stack = X.env :: X.outer) (hf : X.env.frame = some X.env.locals) (hN : X.N.Nodup) (tk : Takes X Wo)
    (hb : ∀ (W : WX) (pn : List (Addr × Obj)) (xe : Value → Shared → Prop), Takes (X.tr pn xe) W → PassesOwn (model X.prog X.w) X.A X.env xe → PSs (X.tr pn xe) body (tb W))
    (hh : HdA X (h1 :: hs) l) : PS X (.Try body (h1 :: hs) [] [] pos) (fun D p H => tb (wA X.K Wo D l) D p H) := by
  refine ⟨fun pins s p H D I hgo => ?_⟩
  have ok := I.ok
  have frm : X.A.frames = some (X.env :: X.outer) := by rw [ok.frames, hst]
  refine wpAny_Try_except (wpAny_mono ((hb (wA X.K Wo D l) (X.pn ++ pins) (fun e s₁ => wpAny (model X.prog X.w) X.A (noteFrame e X.env) (fun _ s₂ => wpAny (model X.prog X.w) X.A (setFlight e none) (fun _ s₃ => wpAny (model X.prog X.w) X.A (handleBy e X.env (h1 :: hs)) (SP X pins D) X.xe s₃) X.xe s₂) X.xe s₁)
    (fun u s' xx => ?_) PassesOwn.looking).run [] s p H D (I.toTry _) hgo) (fun f s1 hsp => ?_) (fun e s1 he => he))
  · obtain ⟨a, B, sI, pins', p', H', cls, d, rfl, Jt, nb, up, sky, na, os, ag, wish⟩ := xx
    have J : Inv X pins p' H' sI := Jt.ofTry ok
    have skyB : Sky B (X.env :: X.outer) a (Zc cls d) X.env.locals s'.heap := by rw [← hst]; exact sky
    show wpAny (model X.prog X.w) X.A (noteFrame (.ref a) X.env) _ _ _
    refine Sky.land Zc.steady frm hf skyB fun hp3 fl3 up3 => ?_
    have J3 : Inv X pins p' H' { s' with heap := hp3 } := J.landed nb fl3.1 (up.trans up3) os ag
    obtain ⟨o3, v3, g3, z3, d3⟩ := fl3.there
    have out : ∀ {hp : Heap} {o : Obj} {vs : Array Value}, hp.FunFrames B (X.env :: X.outer) → hp.get? a = some o → o.data = .fields vs → a ∉ frs (X.env :: X.outer) := fun {hp o vs} ff e dd hm => by
      obtain ⟨_, o', e', hnf⟩ := ff.mem hm; rw [e] at e'; cases e'; exact hnf _ dd
    have nfr := out fl3.2.2.1 g3 d3
    have nL : a ≠ X.env.locals := fun z => nfr (List.mem_filterMap.mpr ⟨X.env, List.mem_cons_self, by rw [hf, z]⟩)
    have nF : a ∉ X.fs := fun hm => by obtain ⟨e, he, q⟩ := List.mem_filterMap.mp hm; exact nfr (List.mem_filterMap.mpr ⟨e, List.mem_cons_of_mem _ he, q⟩)
    have S3 := J3.suite g3 d3 na nL nF
    have LT : PySem.W.Looks (model X.prog X.w) hp3 (typeOf (.ref a)) cls := fun A Q E s k q => wpAny_typeOf_ref (k _ _ g3) (by rw [z3.1]; exact q)
    have test : ∀ {x : Str} {np : Pos} {c : Value} (hc : Names X x c) {Q : Value → Shared → Prop} {E : Value → Shared → Prop}, Q c { s' with heap := hp3 } → wpAny (model X.prog X.w) (X.A.mark (some (.ref a))) (eval (.Name x np) X.env) Q E { s' with heap := hp3 } := fun {x np c} hc {Q E} q => by
      obtain ⟨hg, hdb, hm | ⟨hm, hv, hnn⟩⟩ := hc
      · exact ld_glob (X := X.suite a ((a, o3) :: (X.pn ++ pins))) S3 hg hm q hdb
      · exact ld_blt (X := X.suite a ((a, o3) :: (X.pn ++ pins))) S3 hg hm hv q hnn hdb
    have go : ∀ {hs' : List ExceptHandler} {l' : List Cl}, HdA X hs' l' → wA X.K Wo D l' cls d p' H' → wpAny (model X.prog X.w) X.A (handleBy (.ref a) X.env hs') (SP X pins D) X.xe { s' with heap := hp3 } := by
      intro hs' l' hk
      induction hk with
      | nil =>
        intro w
        refine wpAny_handleBy_nil ?_
        obtain ⟨k1, k2, k3, oe, vs, T, oT, ts', he, hz, hd, h1', hr⟩ := id fl3
        unfold PySem.passOn
        refine wpAny_bind (wpAny_field he hd h1' ?_)
        rw [if_neg (show ¬ ((Value.ref T == Value.none) = true) from by simp)]
        have fin : wpAny (model X.prog X.w) X.A (setFlight (.ref a) X.env.frame) (fun _ s4 => wpAny (model X.prog X.w) X.A (throw (.ref a) : Sem Flow) (SP X pins D) X.xe s4) X.xe { s' with heap := hp3 } := by
          rw [hf]
          refine HandSPX.setFlight_upZ fl3 fun h4 hh4 up4 => wpAny_throw (tk _ _ ?_)
          exact ⟨a, B, sI, pins, p', H', cls, d, rfl, J, nb, (up.trans up3).trans up4, .inr (.inr (by rw [hst]; exact hh4)), na, os, ag, w⟩
        first | exact wpAny_bind (wpAny_pure (wpAny_bind fin)) | exact wpAny_bind fin
      | @bare x c ts b1 su np pp hs2 l2 hc hw r ih =>
        intro w
        obtain ⟨b, hb1, hyes, hno⟩ := w
        refine wpAny_handleBy_cons (codeAny_handlers_test ?_) (by intro q; cases q)
        have LM := PySem.W.exm_one (M := model X.prog X.w) (J3.kIn) LT hb1
        refine test hc (LM.here ?_)
        cases b with
        | true =>
          refine codeAny_handlers_suite (HandSPX.lands_againZ fl3 fun h4 fl4 up4 => ?_)
          have J4 : Inv X pins p' H' { s' with heap := h4 } := J.landed nb fl4.1 ((up.trans up3).trans up4) os ag
          obtain ⟨o4, v4, g4, z4, d4⟩ := fl4.there
          have S4 := J4.suite g4 d4 na nL nF
          refine wpAny_mono ((hw a o4 cls d (X.pn ++ pins) z4 ⟨_, d4⟩).run [] _ _ H' _ S4 (hyes rfl a na)) (fun f s6 hsp => ?_) (fun _ _ z => False.elim z)
          cases f with
          | ret u => obtain ⟨v6, p6, H6, S6, r6, q6⟩ := hsp; exact ⟨_, _, _, S6.unsuite ok, r6, q6⟩
          | _ => obtain ⟨p6, H6, S6, q6⟩ := hsp; exact ⟨_, _, S6.unsuite ok, q6⟩
        | false => exact ih (hno rfl)
      | @named x n c i ts b1 su np pp hs2 l2 hc hi hn hw r ih =>
        intro w
        obtain ⟨b, hb1, hyes, hno⟩ := w
        refine wpAny_handleBy_cons (codeAny_handlers_test ?_) (by intro q; cases q)
        have LM := PySem.W.exm_one (M := model X.prog X.w) (J3.kIn) LT hb1
        refine test hc (LM.here ?_)
        cases b with
        | true =>
          refine codeAny_handlers_suite_as (HandSPX.lands_againZ fl3 fun h4 fl4 up4 => ?_)
          have J4 : Inv X pins p' H' { s' with heap := h4 } := J.landed nb fl4.1 ((up.trans up3).trans up4) os ag
          obtain ⟨o4, v4, g4, z4, d4⟩ := fl4.there
          have S4 := J4.suite g4 d4 na nL nF
          refine store_ok (X := X.suite a ((a, o4) :: (X.pn ++ pins))) (v := .ref a) S4 hN hi (.inl hn) rfl (fun s5 S5 => ?_) (.inr hn)
          refine wpAny_mono ((hw a o4 cls d (X.pn ++ pins) z4 ⟨_, d4⟩).run [] s5 _ H' _ S5 (hyes rfl a na)) (fun f s6 hsp => ?_) (fun _ _ z => False.elim z)
          have gone : ∀ {p6 : L2.St} {H6 : Hp} {Q : Shared → Prop}, Inv (X.suite a ((a, o4) :: (X.pn ++ pins))) [] p6 H6 s6 → (∀ s7, Inv X pins (p6.set i none) H6 s7 → Q s7) →
              wpAny (model X.prog X.w) X.A (do bindName X.env n .none; unbindBehindTheSuite X.env n pp) (fun _ s7 => Q s7) X.xe s6 := fun {p6 H6 Q} S6 hq => gone_ok (S6.unsuite ok) hN hi hn hq
          cases f with
          | ret u => obtain ⟨v6, p6, H6, S6, r6, q6⟩ := hsp; exact gone S6 fun s7 J7 => ⟨_, _, _, J7, r6, q6⟩
          | next => obtain ⟨p6, H6, S6, q6⟩ := hsp; exact gone S6 fun s7 J7 => ⟨_, _, J7, q6⟩
          | brk => obtain ⟨p6, H6, S6, q6⟩ := hsp; exact gone S6 fun s7 J7 => ⟨_, _, J7, q6⟩
          | cont => obtain ⟨p6, H6, S6, q6⟩ := hsp; exact gone S6 fun s7 J7 => ⟨_, _, J7, q6⟩
        | false => exact ih (hno rfl)
    exact go hh wish
  · cases f with
    | ret u => obtain ⟨v, p', H', J', r, q⟩ := hsp; exact ⟨v, p', H', J'.ofTry ok, r, q⟩
    | next => obtain ⟨p', H', J', q⟩ := hsp; exact wpAny_execs_nil ⟨p', H', J'.ofTry ok, q⟩
    | brk => obtain ⟨p', H', J', q⟩ := hsp; exact ⟨p', H', J'.ofTry ok, q⟩
    | cont => obtain ⟨p', H', J', q⟩ := hsp; exact ⟨p', H', J'.ofTry ok, q⟩
end
end CB
/-! the program's errors: Malformed (no own __init__), Refused (with its reason) -/
namespace CB
open PySem PySem.Spec PyProof.Rows L2
structure CalX (P : Program) (w : World) (K : PySem.W.Frag) (mg : Str → Option Value) (base : Heap) (x : Str) (k : Nat) (ps : List Str) (sp : Sp) : Prop where
  ok : ∃ f fd, FnOk P w K mg base (L2.CX P w) k f fd ps sp ∧ mg x = some (.ref f) ∧ PySem.W.keepIn K (.ref f) = true ∧ Binds K fd ps []
section
variable {P : Program} {w : World} {K : PySem.W.Frag} {mg : Str → Option Value} {base : Heap}
theorem Dn.calX {x : Str} {st : Stmt} {N ps : List Str} {k : Nat} {sp : Sp} (D : Dn K mg x st ps) (S : FnScope N ps (defScope st)) (len : ∀ vs H Q E, sp vs H Q E → vs.length = ps.length)
    (hbody : ∀ (f : Addr) (cdv : Value) (A : Around) (outer : List Env) (s : Shared) (H : Hp) (vs : List V) (Q : VK) (E : XK), Room k (A.deeper (envOfC x (defScope st) s.heap.objs.size f cdv)) → sp vs H Q E →
      ∃ t, PSs (cxOf (L2.CX P w) P w K mg base N x (defScope st) f cdv A outer s H E) (defBody st) t ∧ t { nx := fun _ H' => Q .non H', rt := Q } (start N vs) H) : CalX P w K mg base x (k + 1) ps sp := by
  obtain ⟨f, fd, F, hm, hb⟩ := D.ok
  exact ⟨f, fd, F.okX S len fun cdv A outer s H vs Q E hr h => hbody f cdv A outer s H vs Q E hr h, hm, F.kp, hb⟩
end
section
variable {X : Cx} {k : Nat} {ps : List Str} {sp : Sp} {x : Str} {p pos : Pos} {e : Expr} {es : List Expr} {t : TA} {W : WX}
/-- a call that may raise, W what is wished of what it raises -/
theorem pe_calS (C : CalX X.prog X.w X.K X.mg X.base x k ps sp) (tk : Takes X W) (hr : Room k X.A) (hg : Gl X x) (ha : PA X (e :: es) t) (hdb : (x == ("__debug__" : Str)) = false := by decide)
    (he : starEach (e :: es) X.env = (false, eval e X.env) :: starEach es X.env := by rfl) (hpl : (backTo pos (starEach es X.env)).any (·.1) = false := by rfl) : PE X (.Call (.Name x p) (e :: es) [] pos) (tCallS sp (WE W) t) := by
  obtain ⟨f, fd, F, hm, hk, hb⟩ := C.ok
  exact pe_callS F hr hg hm hk hb (fun σ => passAt tk σ) ha hdb he hpl
end
abbrev veB : List Value := [.type "ValueError", .type "Exception", .type "BaseException", .type "object"]
structure ErrM (K : PySem.W.Frag) (mg : Str → Option Value) (C : Addr) : Prop where
  g : mg "Malformed" = some (.ref C)
  x : PySem.W.excIn K C veB "ValueError.__new__" = true
  k : PySem.W.keepIn K (.ref C) = true
  b : PySem.W.subIn K (.ref C) (.type "BaseException") = some true
  t : PySem.W.typeIn K (.ref C) = some (.type "type")
  mm : PySem.W.exmOne K (.ref C) (.ref C) = some true
structure ErrO (K : PySem.W.Frag) (mg : Str → Option Value) (C : Addr) : Prop where
  m : ErrM K mg C
structure ErrR (K : PySem.W.Frag) (mg : Str → Option Value) (M C f : Addr) : Prop where
  g : mg "Refused" = some (.ref C)
  ox : OexC K C
  i : PySem.W.findIn K (.ref C) "__init__" = some (some (.ref f))
  t : PySem.W.typeIn K (.ref f) = some (.type "function")
  n : PySem.W.findIn K (.ref C) "reason" = some none
  xf : XfC K C
  rm : PySem.W.exmOne K (.ref C) (.ref M) = some false
  rr : PySem.W.exmOne K (.ref C) (.ref C) = some true
/-- Refused.__init__(self, reason) -/
def spRI (K : PySem.W.Frag) : Sp := fun vs H Q _ => ∃ (a C : Addr) (v : V), vs = [.ref a, v] ∧ OexC K C ∧ PySem.W.findIn K (.ref C) "reason" = some none ∧ H a = some (exo a C none) ∧
  ∀ dx, H dx = none → dx ≠ a → Q .non (upd (upd H dx (exd dx [("reason", v)])) a (exo a C (some dx)))
structure ErrI (P : Program) (w : World) (K : PySem.W.Frag) (mg : Str → Option Value) (base : Heap) (M C : Addr) : Prop where
  m : ErrM K mg M
  r : ∃ f fd, ErrR K mg M C f ∧ FnOk P w K mg base CX0 1 f fd ["self", "reason"] (spRI K) ∧ Binds K fd ["self", "reason"] []
section
variable {P : Program} {w : World} {K : PySem.W.Frag} {mg : Str → Option Value} {base : Heap} {M C : Addr}
end
/-- raise Malformed('..') -/
theorem ps_mal {X : Cx} {W : WX} {M : Addr} {m : Str} {j : Nat} {p p2 pos pp : Pos} (E : ErrM X.K X.mg M) (hc : X.calm = true) (tk : Takes X W) (hg : Gl X "Malformed") : PS X (.Raise (some (.Call (.Name "Malformed" p) [.Constant (.str m) j p2] [] pos)) none pp) (fun _ σ H => W (.ref M) none σ H) :=
  ps_raise hc tk (pmk_own PySem.F.excBase_ValueError E.x E.g E.k (raises_own E.b E.t) hg)
/-- raise Refused('..') -/
theorem ps_ref {X : Cx} {W : WX} {M C : Addr} {m : Str} {j : Nat} {p p2 pos pp : Pos} (E : ErrI X.prog X.w X.K X.mg X.base M C) (hc : X.calm = true) (tk : Takes X W) (hr : Room 2 X.A) (hg : Gl X "Refused") (hs : starEach [Expr.Constant (.str m) j p2] X.env = (false, eval (Expr.Constant (.str m) j p2) X.env) :: starEach [] X.env := by rfl)
    (hpl : (backTo pos (starEach [] X.env)).any (·.1) = false := by rfl) :
    PS X (.Raise (some (.Call (.Name "Refused" p) [.Constant (.str m) j p2] [] pos)) none pp) (fun _ σ H => ∀ d H', Same H H' → H d = none → H' d = some (.xd [("reason", .str m)]) → W (.ref C) (some d) σ H') := by
  obtain ⟨f, fd, R, F, b⟩ := E.r
  refine ⟨fun pins s σ H D I h => ?_⟩
  refine (ps_raise hc tk (pmk_oex R.ox R.i R.t F hr b .nil pass0 hg R.g (pa_cons pe_str pa_nil hs) rfl hs hpl)).run pins s σ H D I ?_
  show ([V.str m].length ≤ 1000 ∧ _)
  refine ⟨by show 1 ≤ 1000; decide, fun a na => ⟨a, C, .str m, rfl, R.ox, R.n, upd_same, fun dx ndx ne => ⟨rfl, dx, [("reason", .str m)], upd_same, ?_, ?_, ?_⟩⟩⟩
  · rw [upd_ne ne, upd_same]
  · rw [upd_ne ne] at ndx
    exact ndx
  · rw [upd_ne ne] at ndx
    refine h dx _ (fun b o e => ?_) ndx upd_same
    have hbd : b ≠ dx := ne_of_none e ndx
    have hba : b ≠ a := ne_of_none e na
    rw [upd_ne hbd, del_ne hba, upd_ne hba, upd_ne hbd, upd_ne hba]
    exact e
end CB
namespace CB
open PySem PySem.Spec PyProof.Rows L2
theorem exm_b {K : PySem.W.Frag} {S C : Addr} {b : Bool} (h1 : PySem.W.subIn K (.ref C) (.type "BaseException") = some true) (h2 : PySem.W.isClsIn K C = true) (h3 : PySem.W.typeIn K (.ref C) = some (.type "type")) (h4 : PySem.W.subIn K (.ref S) (.ref C) = some b) :
    PySem.W.exmOne K (.ref S) (.ref C) = some b := by
  unfold PySem.W.exmOne
  rw [if_pos (by rw [h1] <;> rfl)]
  show (if ((PySem.W.clsIn K C).isSome && PySem.W.typeIn K (.ref C) == some (.type "type")) = true then PySem.W.subIn K (.ref S) (.ref C) else none) = some b
  have h5 : (PySem.W.clsIn K C).isSome = true := h2
  rw [h5, h3, if_pos (by rfl)]
  exact h4
theorem dn_mk {K : PySem.W.Frag} {h : Heap} {mg : Str → Option Value} {x : Str} {st : Stmt} {ps : List Str} {f : Addr} {oc : Value} {od an : Option Addr} {osl : Array (Option Value)} {kV doc pm cdv ct : Value} (X : K.In h) (G : h.Ns mainGlobals mg)
    (a : PySem.W.nsIn K mainGlobals x = some (some (.ref f))) (l : K.lookup f = some ⟨oc, od, .func (PySem.W.fnOf x x (defArgs st) (defBody st) (defScope st) .none kV doc pm an cdv ct), osl⟩) (c : PySem.W.codeIn K cdv x = true) (k : PySem.W.keepIn K (.ref f) = true)
    (hb : ∀ (kV doc pm : Value) (an : Option Addr) (cdv ct : Value) (us : List Value), us.length = ps.length → bindArgs (PySem.W.fnOf x x (defArgs st) (defBody st) (defScope st) .none kV doc pm an cdv ct) ⟨us, []⟩ = pure (ps.zip us)) : Dn K mg x st ps :=
  ⟨f, _, fun_mk l c k, PySem.W.mg_of X G a, (fun_mk l c k).binds hb⟩
end CB
/-! sorted of a list of pairs of pairs of ints -/
namespace CB
open PySem PySem.Spec PyProof.Rows Srt SrtO L2
abbrev M4 := (Int × Int) × (Int × Int)
def dM (m : M4) : PyData := .tuple [.tuple [.int m.1.1, .int m.1.2], .tuple [.int m.2.1, .int m.2.2]]
def lexM (p q : M4) : Bool := if p.1 = q.1 then lexB p.2 q.2 else lexB p.1 q.1
theorem alike_M (p q : M4) : PySem.W.alike (dM p) (dM q) = true := by
  simp [dM, PySem.W.alike, PySem.W.alikeAll]
theorem eqv_pp (a b c d : Int) : PyData.eqv (.tuple [.int a, .int b]) (.tuple [.int c, .int d]) = decide ((a, b) = (c, d)) := by
  have e : PyData.eqv (.tuple [.int a, .int b]) (.tuple [.int c, .int d]) = ((a == c) && ((b == d) && true)) := rfl
  rw [e]
  by_cases h1 : a = c
  · by_cases h2 : b = d
    · simp [h1, h2]
    · simp [h2]
  · simp [h1]
theorem lt_pp (p q : Int × Int) : PySem.W.dataLt (.tuple [.int p.1, .int p.2]) (.tuple [.int q.1, .int q.2]) = lexB p q := by
  rw [PySem.W.dataLt_ii]
  have h := @lexB_iff p q
  cases hb : lexB p q with
  | true => exact decide_eq_true (h.mp hb)
  | false => exact decide_eq_false fun z => by rw [h.mpr z] at hb; cases hb
theorem lt_M (p q : M4) : PySem.W.dataLt (dM p) (dM q) = lexM p q := by
  unfold dM lexM
  rw [PySem.W.dataLt_pair (by simp [PySem.W.alike, PySem.W.alikeAll]) (by simp [PySem.W.alike, PySem.W.alikeAll]), eqv_pp, eqv_pp, lt_pp, lt_pp]
  by_cases h1 : p.1 = q.1
  · rw [if_pos (decide_eq_true h1), if_pos h1]
    by_cases h2 : p.2 = q.2
    · rw [if_pos (decide_eq_true h2), h2]
      symm
      cases hb : lexB q.2 q.2 with
      | false => rfl
      | true =>
        have := lexB_iff.mp hb
        omega
    · rw [if_neg (fun z => h2 (of_decide_eq_true z))]
  · rw [if_neg (fun z => h1 (of_decide_eq_true z)), if_neg h1]
theorem lexM_iff {p q : M4} : lexM p q = true ↔ (p.1.1 < q.1.1 ∨ (p.1.1 = q.1.1 ∧ (p.1.2 < q.1.2 ∨ (p.1.2 = q.1.2 ∧ (p.2.1 < q.2.1 ∨ (p.2.1 = q.2.1 ∧ p.2.2 < q.2.2)))))) := by
  obtain ⟨⟨a, b⟩, ⟨c, d⟩⟩ := p
  obtain ⟨⟨a', b'⟩, ⟨c', d'⟩⟩ := q
  unfold lexM
  by_cases e : (a, b) = (a', b')
  · rw [if_pos e, lexB_iff]
    have e1 : a = a' := congrArg Prod.fst e
    have e2 : b = b' := congrArg Prod.snd e
    simp only
    omega
  · rw [if_neg e, lexB_iff]
    have : ¬ (a = a' ∧ b = b') := fun z => e (by rw [z.1, z.2])
    simp only
    omega
theorem lexM_no {p q : M4} : lexM p q = false ↔ ¬ (p.1.1 < q.1.1 ∨ (p.1.1 = q.1.1 ∧ (p.1.2 < q.1.2 ∨ (p.1.2 = q.1.2 ∧ (p.2.1 < q.2.1 ∨ (p.2.1 = q.2.1 ∧ p.2.2 < q.2.2)))))) := by
  rw [← lexM_iff]
  cases lexM p q <;> simp
theorem lexM_eq {p q : M4} (h1 : lexM p q = false) (h2 : lexM q p = false) : p = q := by
  have a := lexM_no.mp h1
  have b := lexM_no.mp h2
  obtain ⟨⟨p1, p2⟩, ⟨p3, p4⟩⟩ := p
  obtain ⟨⟨q1, q2⟩, ⟨q3, q4⟩⟩ := q
  simp only at a b
  have e1 : p1 = q1 := by omega
  have e2 : p2 = q2 := by omega
  have e3 : p3 = q3 := by omega
  have e4 : p4 = q4 := by omega
  rw [e1, e2, e3, e4]
theorem srtM_uniq {l m : List M4} (h1 : l.Pairwise (fun p q => lexM q p = false)) (h2 : m.Pairwise (fun p q => lexM q p = false)) (h : l.Perm m) : l = m :=
  List.Perm.eq_of_pairwise (le := fun p q => lexM q p = false) (fun a b _ _ x y => lexM_eq y x) h1 h2 h
/-- x is, in H, the tuple m of tuples -/
def IsM (H : Hp) (x : V) (m : M4) : Prop := ∃ r r1 r2, x = V.ref r ∧ H r = some (.tup [.ref r1, .ref r2]) ∧ H r1 = some (.tup [.int m.1.1, .int m.1.2]) ∧ H r2 = some (.tup [.int m.2.1, .int m.2.2])
theorem IsM.fn {H : Hp} {x : V} {m m' : M4} (h : IsM H x m) (h' : IsM H x m') : m = m' := by
  obtain ⟨r, r1, r2, rfl, e, e1, e2⟩ := h
  obtain ⟨_, _, _, q, f, f1, f2⟩ := h'
  cases q
  rw [e] at f
  cases f
  rw [e1] at f1
  rw [e2] at f2
  obtain ⟨⟨a, b⟩, ⟨c, d⟩⟩ := m
  obtain ⟨⟨a', b'⟩, ⟨c', d'⟩⟩ := m'
  simp only [Option.some.injEq, HO.tup.injEq, List.cons.injEq, V.int.injEq, and_true] at f1 f2
  rw [f1.1, f1.2, f2.1, f2.2]
theorem IsM.same {H H' : Hp} {x : V} {m : M4} (s : Same H H') (h : IsM H x m) : IsM H' x m := by
  obtain ⟨r, r1, r2, q, e, e1, e2⟩ := h
  exact ⟨r, r1, r2, q, s _ _ e, s _ _ e1, s _ _ e2⟩
open Classical in
noncomputable def kM (H : Hp) (x : V) : M4 := if h : ∃ m, IsM H x m then h.choose else ((0, 0), (0, 0))
theorem IsM.k {H : Hp} {x : V} {m : M4} (h : IsM H x m) : kM H x = m := by
  unfold kM
  rw [dif_pos ⟨m, h⟩]
  exact (Exists.choose_spec (⟨m, h⟩ : ∃ m, IsM H x m)).fn h
/-- the list of such tuples at the xs -/
def Mats (H : Hp) (xs : List V) (ms : List M4) : Prop := (∀ x ∈ xs, IsM H x (kM H x)) ∧ ms = xs.map (kM H)
theorem Mats.same {H H' : Hp} {xs : List V} {ms : List M4} (s : Same H H') (h : Mats H xs ms) : Mats H' xs ms := by
  obtain ⟨h1, rfl⟩ := h
  have e : ∀ x ∈ xs, kM H' x = kM H x := fun x m => ((h1 x m).same s).k
  exact ⟨fun x m => by rw [e x m]; exact (h1 x m).same s, List.map_congr_left fun x m => (e x m).symm⟩
theorem Mats.keep {H H' : Hp} {xs : List V} {ms : List M4} (s : ∀ r us, H r = some (.tup us) → H' r = some (.tup us)) (h : Mats H xs ms) : Mats H' xs ms := by
  obtain ⟨h1, rfl⟩ := h
  have g : ∀ x ∈ xs, IsM H' x (kM H x) := fun x m => by
    obtain ⟨r, r1, r2, q, e, e1, e2⟩ := h1 x m
    exact ⟨r, r1, r2, q, s _ _ e, s _ _ e1, s _ _ e2⟩
  exact ⟨fun x m => by rw [(g x m).k]; exact g x m, List.map_congr_left fun x m => ((g x m).k).symm⟩
theorem Mats.updL {H : Hp} {f : Addr} {l : List V} {o : HO} {xs : List V} {ms : List M4} (h : Mats H xs ms) (e : H f = some (.lst l)) : Mats (upd H f o) xs ms :=
  h.keep fun r us q => by rw [upd_ne (ne_of q e (by intro z; cases z))]; exact q
theorem Mats.updN {H : Hp} {f : Addr} {o : HO} {xs : List V} {ms : List M4} (h : Mats H xs ms) (e : H f = none) : Mats (upd H f o) xs ms := h.same (same_upd e)
theorem Mats.nil {H : Hp} : Mats H [] [] := ⟨fun x m => by simp at m, rfl⟩
theorem Mats.snoc {H : Hp} {xs : List V} {ms : List M4} {x : V} {m : M4} (h : Mats H xs ms) (e : IsM H x m) : Mats H (xs ++ [x]) (ms ++ [m]) := by
  obtain ⟨h1, rfl⟩ := h
  refine ⟨fun y hy => ?_, ?_⟩
  · rcases List.mem_append.mp hy with hy | hy
    · exact h1 y hy
    · rw [List.mem_singleton.mp hy, e.k]
      exact e
  · rw [List.map_append, List.map_singleton, e.k]
theorem Mats.get {H : Hp} {xs : List V} {ms : List M4} {i : Nat} {x : V} (h : Mats H xs ms) (e : xs[i]? = some x) : ∃ m, IsM H x m ∧ ms[i]? = some m := by
  obtain ⟨h1, rfl⟩ := h
  exact ⟨_, h1 x (List.mem_of_getElem? e), by rw [List.getElem?_map, e]; rfl⟩
theorem Mats.len {H : Hp} {xs : List V} {ms : List M4} (h : Mats H xs ms) : ms.length = xs.length := by
  rw [h.2, List.length_map]
theorem dp_M {K : PySem.W.Frag} {H : Hp} {x : V} {m : M4} (h : IsM H x m) : Dp K H x (dM m) := by
  obtain ⟨r, r1, r2, rfl, e, e1, e2⟩ := h
  exact .tup (SqT.of e) (.cons (.tup (SqT.of e1) (.cons (.int _) (.cons (.int _) .nil))) (.cons (.tup (SqT.of e2) (.cons (.int _) (.cons (.int _) .nil))) .nil))
theorem dp_Ms {K : PySem.W.Frag} {H : Hp} : ∀ {xs : List V} {ms : List M4}, Mats H xs ms → DpAll K H xs (ms.map dM) := fun {xs ms} h => by
  obtain ⟨h1, rfl⟩ := h
  induction xs with
  | nil => exact .nil
  | cons x xs ih => exact .cons (dp_M (h1 x List.mem_cons_self)) (ih fun y m => h1 y (List.mem_cons_of_mem _ m))
theorem lay_M : ∀ ms : List M4, PyData.canLayAll0 (ms.map dM) = true
  | [] => rfl
  | m :: ms => by
    show (PyData.canLay0 (dM m) && PyData.canLayAll0 (ms.map dM)) = true
    rw [lay_M ms]
    rfl
theorem depth_M : ∀ ms : List M4, PyData.depthAll (ms.map dM) ≤ 3
  | [] => by decide
  | m :: ms => by
    have := depth_M ms
    show max (PyData.depth (dM m)) (PyData.depthAll (ms.map dM)) ≤ 3
    have e : PyData.depth (dM m) = 2 := rfl
    omega
theorem shaped_M (ms : List M4) : SeqAt.shaped (.tuple (ms.map dM)) = true := by
  unfold SeqAt.shaped
  have a : PyData.canLay0 (.tuple (ms.map dM)) = true := lay_M ms
  have b : PyData.depth (.tuple (ms.map dM)) ≤ 64 := by
    have := depth_M ms
    show PyData.depthAll (ms.map dM) + 1 ≤ 64
    omega
  rw [a, decide_eq_true b]
  rfl
/-- sorted(xs), xs a list of pairs of pairs -/
def rSortedM (K : PySem.W.Frag) : List V → Hp → VK → Prop := fun vs H Q => ∃ (a : Addr) (xs : List V) (ms : List M4), vs = [V.ref a] ∧ SqL K H a xs ∧ Mats H xs ms ∧
  ∀ ys us p, Mats H ys us → us.Pairwise (fun p q => lexM q p = false) → us.Perm ms → H p = none → Q (.ref p) (upd H p (.lst ys))
theorem rd_sortedM {K : PySem.W.Frag} {vs : List V} {H : Hp} {Q : VK} : rSortedM K vs H Q = ∃ (a : Addr) (xs : List V) (ms : List M4), vs = [V.ref a] ∧ SqL K H a xs ∧ Mats H xs ms ∧
  ∀ ys us p, Mats H ys us → us.Pairwise (fun p q => lexM q p = false) → us.Perm ms → H p = none → Q (.ref p) (upd H p (.lst ys)) := rfl
section
variable {X : Cx}
theorem each_vals : ∀ {vs : List Value} {xs : List V}, Vals xs vs → PySem.W.EachIs (fun v x => RelV x v) vs xs
  | _, _, .nil => .nil
  | _, _, .cons r h => .cons r (each_vals h)
theorem vals_each : ∀ {vs : List Value} {xs : List V}, PySem.W.EachIs (fun v x => RelV x v) vs xs → Vals xs vs
  | _, _, .nil => .nil
  | _, _, .cons r h => .cons r (vals_each h)
theorem cr_sortedM (hu : X.A.units + 64 < cLine) : CallR X (.builtin "sorted") (rSortedM X.K) := by
  intro pins s σ H vs us Q I r h
  obtain ⟨a, xs, ms, rfl, hs, ⟨hx, rfl⟩, q⟩ := h
  obtain ⟨its, rv, hl, hz⟩ := I.list hs
  obtain ⟨u, rfl, ru⟩ := vals1 r
  obtain rfl : u = Value.ref a := ru
  have hlen := rv.length
  have e0 : PySem.W.EachIs (fun v x => RelV x v) its xs := each_vals rv
  have mem : PySem.W.EachIs (fun v (x : V) => ∃ as, Reads s.heap v (dM (kM H x)) as) its xs := by
    refine PySem.W.EachIs.of_zip (by omega) fun p hp => ?_
    exact Dp.reads I _ _ _ (dp_M (hx p.2 (List.of_mem_zip hp).2)) (e0.zip p hp)
  refine PySem.W.sorted_data (s := s) (β := V) (R := fun v x => RelV x v) (enc := fun x => dM (kM H x)) hl.isList e0 mem (PySem.W.AllAlike.of fun b b' => alike_M _ _) (PySem.W.Sortable.tuples fun b => ⟨_, _, rfl⟩) (by omega) (fun b _ => ?_) fun out ho eo => ?_
  · have : PyData.depth (dM (kM H b)) = 2 := rfl
    omega
  · have ep : (fun b b' : V => PySem.W.dataLe false (fun x => dM (kM H x)) b b') = fun b b' => !lexM (kM H b') (kM H b) := by
      rw [PySem.W.dataLe_eq]
      funext b b'
      show (!PySem.W.dataLt (dM (kM H b')) (dM (kM H b))) = _
      rw [lt_M]
    have hp : (xs.mergeSort (PySem.W.dataLe false (fun x => dM (kM H x)))).Perm xs := List.mergeSort_perm xs _
    have hT : ∀ x ∈ xs.mergeSort (PySem.W.dataLe false (fun x => dM (kM H x))), IsM H x (kM H x) := fun x m => hx x (hp.mem_iff.mp m)
    have hS : ((xs.mergeSort (PySem.W.dataLe false (fun x => dM (kM H x)))).map (kM H)).Pairwise (fun p q => lexM q p = false) := by
      rw [List.pairwise_map]
      have := List.pairwise_mergeSort (le := fun b b' : V => !lexM (kM H b') (kM H b)) (fun x y z h1 h2 => ?_) (fun x y => ?_) xs
      · rw [show PySem.W.dataLe false (fun x => dM (kM H x)) = fun b b' => !lexM (kM H b') (kM H b) from ep]
        exact this.imp fun h => by simpa using h
      · have a1 := lexM_no.mp (by simpa using h1 : lexM (kM H y) (kM H x) = false)
        have a2 := lexM_no.mp (by simpa using h2 : lexM (kM H z) (kM H y) = false)
        have : lexM (kM H z) (kM H x) = false := lexM_no.mpr (by omega)
        simp [this]
      · by_cases c : lexM (kM H y) (kM H x) = true
        · have a1 := lexM_iff.mp c
          have : lexM (kM H x) (kM H y) = false := lexM_no.mpr (by omega)
          simp [this]
        · simp [Bool.not_eq_true _ |>.mp c]
    obtain ⟨n, hn⟩ := sortedAll_at s.heap its (List.toArray out)
    refine ⟨.ref (s.heap.objs.size + 1), upd H (s.heap.objs.size + 1) (.lst (xs.mergeSort (PySem.W.dataLe false (fun x => dM (kM H x))))), I.laid (t' := s.toks) (fun b o e => sortedAll_old e) (Nat.le_succ _) ⟨?_, out, n, vals_each eo, hn⟩, rfl, q _ _ _ ⟨hT, rfl⟩ hS (hp.map (kM H)) (I.hok.fresh (Nat.le_succ _))⟩
    rw [hp.length_eq]
    omega
end
end CB
/-! a call of what an expression tells, one of several defs -/
namespace CB
open PySem PySem.Spec PyProof.Rows L2
structure HeldE (P : Program) (w : World) (K : PySem.W.Frag) (mg : Str → Option Value) (base : Heap) (kk : Nat) (f : Addr) (sp : Sp) : Prop where
  ex : ∃ (k : Nat) (fd : FuncData) (ps : List Str), k ≤ kk ∧ FnOk P w K mg base (L2.CX P w) k f fd ps sp ∧ PySem.W.keepIn K (.ref f) = true ∧ Binds K fd ps []
def tCallE (S : Addr → Sp → Prop) (E : L2.St → XK) (tf : TE) (t : TA) : TE := fun σ H Q => tf σ H fun y H1 => ∃ f sp, y = V.ref f ∧ S f sp ∧ t σ H1 fun vs H2 => sp vs H2 Q (E σ)
section
variable {X : Cx} {S : Addr → Sp → Prop} {kk : Nat} {p pos : Pos} {fe e : Expr} {es : List Expr} {tf : TE} {t : TA} {W : WX}
theorem pe_callE (A : ∀ f sp, S f sp → HeldE X.prog X.w X.K X.mg X.base kk f sp) (tk : Takes X W) (hr : Room kk X.A) (hf : PE X fe tf) (ha : PA X (e :: es) t)
    (ht : eval (.Call fe (e :: es) [] pos) X.env = (do callWith pos (← eval fe X.env) [] (backTo pos (starEach (e :: es) X.env)) (backToKw pos (keywordEach [] X.env))) := by rfl)
    (he : starEach (e :: es) X.env = (false, eval e X.env) :: starEach es X.env := by rfl) (hpl : (backTo pos (starEach es X.env)).any (·.1) = false := by rfl) : PE X (.Call fe (e :: es) [] pos) (tCallE S (WE W) tf t) := by
  refine ⟨fun pins s σ H Q I h => ?_⟩
  refine Call_ (thn (hf.run pins s σ H _ I h) fun u s1 ⟨y, H1, I1, ry, f, sp, ey, hS, q⟩ => ?_) ht
  subst ey
  obtain rfl : u = Value.ref f := ry
  obtain ⟨k, fd, ps, hk, F, hkeep, hb⟩ := (A f sp hS).ex
  refine PySem.W.callWith_K (h₀ := X.base) I1.ok.mod.kin hkeep (thn (ha.run pos pins s1 σ H1 _ I1 q) fun us s2 ⟨vs, H2, I2, r, q2⟩ => ⟨I2.kIn, ?_⟩) he hpl
  exact run_fnS F (hr.mono hk) hb (passAt tk σ) I2 r q2
end
theorem rd_callE {S : Addr → Sp → Prop} {E : L2.St → XK} {tf : TE} {t : TA} {σ : L2.St} {H : Hp} {Q : VK} : tCallE S E tf t σ H Q = tf σ H fun y H1 => ∃ f sp, y = V.ref f ∧ S f sp ∧ t σ H1 fun vs H2 => sp vs H2 Q (E σ) := rfl
theorem CalX.held {P : Program} {w : World} {K : PySem.W.Frag} {mg : Str → Option Value} {base : Heap} {x : Str} {k kk : Nat} {ps : List Str} {sp : Sp} (C : CalX P w K mg base x k ps sp) (h : k ≤ kk) : ∃ f, mg x = some (.ref f) ∧ HeldE P w K mg base kk f sp := by
  obtain ⟨f, fd, F, hm, hk, hb⟩ := C.ok
  exact ⟨f, hm, ⟨k, fd, ps, h, F, hk, hb⟩⟩
end CB
/-! dicts with int keys, list.pop: readings unfolded -/
namespace CB
open PySem PySem.Spec PyProof.Rows L2
section
variable {K : PySem.W.Frag} {σ : L2.St} {H : Hp} {Q : VK} {td ty tx tv to : TE} {D : Ends}
theorem rd_pop : tBM0 K "list" rPop to σ H Q = to σ H fun x H1 => tyV K "list" x H1 ∧ ∃ l xs y, x = .ref l ∧ H1 l = some (.lst xs) ∧ xs[xs.length - 1]? = some y ∧ Q y (upd H1 l (.lst xs.dropLast)) := by
  show (to σ H fun x H1 => tyV K "list" x H1 ∧ ∃ l xs y, x = V.ref l ∧ ([] : List V) = [] ∧ _) = _
  congr 1
  funext x H1
  simp
theorem rd_dnew : tDNewK σ H Q = ∀ p, H p = none → Q (.ref p) (upd H p (.dK [])) := rfl
theorem rd_dget : tDGet td ty σ H Q = td σ H fun x H1 => ty σ H1 fun y H2 => ∃ a v, x = .ref a ∧ DGet H2 a y (some v) ∧ Q v H2 := rfl
theorem rd_dget2 : tDGet2 td ty tx σ H Q = td σ H fun x H1 => ∃ a, x = .ref a ∧ IsD H1 a ∧ ty σ H1 fun y H2 => tx σ H2 fun z H3 => ∃ o, DGet H3 a y o ∧ Q (o.getD z) H3 := rfl
theorem rd_dput : sDPut td ty tv D σ H = tv σ H fun v H1 => td σ H1 fun x H2 => ty σ H2 fun y H3 => ∃ a H4, x = .ref a ∧ DPut H3 a y v H4 ∧ D.nx σ H4 := rfl
end
/-- a dict of ints by a list of pairs -/
def dI (l : List (Nat × Nat)) : List (Key × V) := l.map fun q => (Sum.inl (q.1 : Int), V.int (q.2 : Int))
def getC (l : List (Nat × Nat)) (p : Nat) : Option Nat := (l.find? fun q => decide (q.1 = p)).map (·.2)
theorem val_dI (l : List (Nat × Nat)) (p : Nat) : valV (dI l) (Sum.inl (p : Int)) = (getC l p).map fun c : Nat => V.int (c : Int) := by
  unfold valV dI getC
  induction l with
  | nil => rfl
  | cons q l ih =>
    rw [List.map_cons, List.find?_cons, List.find?_cons]
    have e : decide ((Sum.inl (q.1 : Int) : Key) = Sum.inl (p : Int)) = decide (q.1 = p) := by
      by_cases c : q.1 = p
      · rw [decide_eq_true c, decide_eq_true (by rw [c])]
      · rw [decide_eq_false c, decide_eq_false (fun z => c (by have := Sum.inl.inj z; omega))]
    show Option.map _ (match decide ((Sum.inl (q.1 : Int) : Key) = Sum.inl (p : Int)) with | true => _ | false => _) = _
    rw [e]
    cases decide (q.1 = p) with
    | true => rfl
    | false => exact ih
/-- one more of p -/
def bumpC (l : List (Nat × Nat)) (p c : Nat) : List (Nat × Nat) := if (l.any fun q => decide (q.1 = p)) = true then l.map (fun q => if q.1 = p then (q.1, c) else q) else l ++ [(p, c)]
theorem put_dI (l : List (Nat × Nat)) (p c : Nat) : putK (dI l) (Sum.inl (p : Int)) (V.int (c : Int)) = dI (bumpC l p c) := by
  have e : ∀ n : Nat, decide ((Sum.inl (n : Int) : Key) = Sum.inl (p : Int)) = decide (n = p) := fun n => by
    by_cases c : n = p
    · rw [decide_eq_true c, decide_eq_true (by rw [c])]
    · rw [decide_eq_false c, decide_eq_false (fun z => c (by have := Sum.inl.inj z; omega))]
  have ea : (dI l).any (fun kv => decide (kv.1 = (Sum.inl (p : Int) : Key))) = l.any fun q => decide (q.1 = p) := by
    unfold dI
    rw [List.any_map]
    congr 1
    funext q
    exact e q.1
  unfold putK bumpC
  rw [ea]
  by_cases h : (l.any fun q => decide (q.1 = p)) = true
  · rw [if_pos h, if_pos h]
    unfold dI
    rw [List.map_map, List.map_map]
    refine List.map_congr_left fun q _ => ?_
    show (if (Sum.inl (q.1 : Int) : Key) = Sum.inl (p : Int) then _ else _) = _
    by_cases c : q.1 = p
    · rw [if_pos (by rw [c])]
      show _ = (fun q : Nat × Nat => ((Sum.inl (q.1 : Int) : Key), V.int (q.2 : Int))) (if q.1 = p then _ else _)
      rw [if_pos c]
    · rw [if_neg (fun z => c (by have := Sum.inl.inj z; omega))]
      show _ = (fun q : Nat × Nat => ((Sum.inl (q.1 : Int) : Key), V.int (q.2 : Int))) (if q.1 = p then _ else _)
      rw [if_neg c]
  · rw [if_neg h, if_neg h]
    unfold dI
    rw [List.map_append]
    rfl
theorem dget_I {H : Hp} {a : Addr} {l : List (Nat × Nat)} {p : Nat} (e : H a = some (.dK (dI l))) : DGet H a (.int (p : Int)) ((getC l p).map fun c : Nat => V.int (c : Int)) := by
  have := DGet.k (k := Sum.inl (p : Int)) e
  rw [val_dI] at this
  exact this
theorem dput_I {H : Hp} {a : Addr} {l : List (Nat × Nat)} {p c : Nat} (e : H a = some (.dK (dI l))) (hl : l.length < sizeLine) : DPut H a (.int (p : Int)) (.int (c : Int)) (upd H a (.dK (dI (bumpC l p c)))) := by
  have := DPut.k (k := Sum.inl (p : Int)) (v := .int (c : Int)) e (by unfold dI; rw [List.length_map]; exact hl)
  rw [put_dI] at this
  exact this
end CB
/-! any of ints; enumerate of a tuple; a tuple times an int, few times -/
namespace CB
open PySem PySem.Spec PyProof.Rows L2
/-! ### any(ints), a list or a tuple -/
theorem vals_int : ∀ {ns : List Int} {us : List Value}, Vals (ns.map V.int) us → ∃ ts : List Tok, ts.length = ns.length ∧ us = List.zipWith Value.int ns ts
  | [], us, h => by
    rw [List.map_nil] at h
    cases h
    exact ⟨[], rfl, rfl⟩
  | n :: ns, us, h => by
    rw [List.map_cons] at h
    cases h with
    | cons r t =>
      obtain ⟨tk, rfl⟩ := r
      obtain ⟨ts, hl, rfl⟩ := vals_int t
      exact ⟨tk :: ts, by rw [List.length_cons, List.length_cons, hl], rfl⟩
theorem truth_ints {prog : Program} {w : World} {A : Around} {ns : List Int} {us : List Value} (h : Vals (ns.map V.int) us) :
    TruthOf prog w A (fun i v => us.toArray[i]? = some v) (fun i => ns.getD i 0 != 0) := by
  intro i v s Q E hv hq
  obtain ⟨ts, hl, rfl⟩ := vals_int h
  have hv : (List.zipWith Value.int ns ts)[i]? = some v := by simpa using hv
  rw [List.getElem?_zipWith] at hv
  cases hn : ns[i]? with
  | none => rw [hn] at hv; cases ht : ts[i]? <;> rw [ht] at hv <;> cases hv
  | some n =>
    cases ht : ts[i]? with
    | none => rw [hn, ht] at hv; cases hv
    | some t =>
      rw [hn, ht] at hv
      cases hv
      have e : ns.getD i 0 = n := by rw [List.getD_eq_getElem?_getD, hn]; rfl
      have hq : Q (ns.getD i 0 != 0) s := hq
      rw [e] at hq
      exact PySem.P.truthy_int hq
theorem any_ints : ∀ ns : List Int, (List.range ns.length).any (fun i => ns.getD i 0 != 0) = ns.any (· != 0)
  | [] => rfl
  | n :: ns => by
    rw [List.length_cons, List.range_succ_eq_map, List.any_cons, List.any_map, List.any_cons, ← any_ints ns]
    all_goals rfl
section
variable {X : Cx}
def rAnyI (K : PySem.W.Frag) : List V → Hp → VK → Prop := fun vs H Q => ∃ (a : Addr) (ns : List Int), vs = [V.ref a] ∧ (SqL K H a (ns.map V.int) ∨ SqT K H a (ns.map V.int)) ∧ Q (.bl (ns.any (· != 0))) H
theorem iter_tupA {prog : Program} {w : World} {A : Around} {E : Value → Shared → Prop} {s : Shared} {l : Addr} {items : Array Value} {Q : Value → Shared → Prop} (ht : s.heap.IsTuple l items)
    (h : ∀ s2 : Shared, s2 = { s with heap := s.heap.push { cls := .type "tuple_iterator", data := .fields #[.ref l, .int 0 0] } } → (s2.heap.IsTupleIter s.heap.objs.size l 0 ∧ s2.heap.IsTuple l items) → l ≠ s.heap.objs.size → Q (.ref s.heap.objs.size) s2) : wpAny (model prog w) A (pyIter (.ref l)) Q E s := by
  have lt : l < s.heap.objs.size := by
    obtain ⟨_, e, _⟩ := ht
    exact Heap.lt_size e
  exact wpAny_pyIter_tuple ht (h _ rfl ⟨⟨_, Heap.get?_push_size _ rfl, rfl, rfl⟩, ht.at fun o e => Heap.get?_push_of_some _ e⟩ (Nat.ne_of_lt lt))
theorem cr_anyI (hc : X.calm = true) : CallR X (.builtin "any") (rAnyI X.K) := by
  intro pins s σ H vs us Q I r h
  obtain ⟨a, ns, rfl, hs, q⟩ := h
  rw [Vals.ref1 r]
  have fin : ∀ {us : List Value} {h' : Heap} {tk : Nat} {o : Obj}, Vals (ns.map V.int) us → (∀ b ob, b ∉ [s.heap.objs.size] → (s.heap.push o).get? b = some ob → h'.get? b = some ob) →
      (∃ x H', Inv X pins σ H' { s with heap := h', toks := tk } ∧ RelV x (Value.bool ((List.range us.toArray.size).any fun i => ns.getD i 0 != 0)) ∧ Q x H') := fun {us h' tk o} rv hk => by
    refine ⟨.bl _, H, I.kept fun b ob eo => hk b ob (fun hm => ?_) (Heap.get?_push_of_some _ eo), ?_, q⟩
    · have hm := List.mem_singleton.mp hm
      subst hm
      exact absurd (Heap.lt_size eo) (Nat.lt_irrefl _)
    · have e : us.toArray.size = ns.length := by
        rw [List.size_toArray, ← rv.length, List.length_map]
      rw [e, any_ints]
      rfl
  rcases hs with hs | hs
  · obtain ⟨its, rv, hl, _⟩ := I.list hs
    refine call_any_walk (iter_any hl.isList fun s2 e2 st hne => ?_)
    subst e2
    exact ⟨_, _, _, _, _, _, _, rfl, Walks.list (A := X.A.in1) (I.ok.hd hc) _ a hne its.toArray, st, truth_ints rv, fun h' tk hk => fin rv hk⟩
  · obtain ⟨its, rv, hl, _⟩ := I.tuple hs
    refine call_any_walk (iter_tupA (show s.heap.IsTuple a its.toArray from hl) fun s2 e2 st hne => ?_)
    subst e2
    exact ⟨_, _, _, _, _, _, _, rfl, Walks.tuple (A := X.A.in1) (I.ok.hd hc) _ a hne its.toArray, st, truth_ints rv, fun h' tk hk => fin rv hk⟩
theorem rd_anyI {K : PySem.W.Frag} {vs : List V} {H : Hp} {Q : VK} : rAnyI K vs H Q = ∃ (a : Addr) (ns : List Int), vs = [V.ref a] ∧ (SqL K H a (ns.map V.int) ∨ SqT K H a (ns.map V.int)) ∧ Q (.bl (ns.any (· != 0))) H := rfl
end
/-! ### enumerate(t), t a tuple -/
theorem meets_enum1 {v : Value} {o : Obj} {Hh : Heap → Prop} (Bg : Begins v o Hh) : Meets (Builtin.«enumerate.__new__» ⟨[.type "enumerate", v], []⟩)
    (fun _ R s => Hh s.heap ∧ R (.ok (.ret (.ref (s.heap.push o).objs.size))) { s with heap := (s.heap.push o).push { cls := .type "enumerate", data := .fields #[.none, .bool false, .ref s.heap.objs.size, rawInt 0, .none, .none] } }) :=
  .of_wp fun prog w A R s h => by
    obtain ⟨hp, g, d, tk, os⟩ := s
    obtain ⟨hv, h⟩ := h
    have sube := sub_enumerate
    have go : ∀ {A1 : Around} {E1 : Value → Shared → Prop} {Q1 : Value → Shared → Prop}, Q1 (.ref hp.objs.size) ⟨hp.push o, g, d, tk, os⟩ → wpAny (model prog w) A1 (pyIter v) Q1 E1 ⟨hp, g, d, tk, os⟩ := fun q => Bg.iter prog w _ _ ⟨hp, g, d, tk, os⟩ _ hv q
    wp_walk using go
    refine wpAny_stack_any fun st => wpAny_pure ?_
    split
    · rename_i cl _ _ _ _ _
      cases (cl == Value.type "enumerate") <;> (wp_walk using go; exact ⟨_, rfl, h⟩)
    · wp_walk using go
      exact ⟨_, rfl, h⟩
section
variable {prog : Program} {w : World} {A : Around} {E : Value → Shared → Prop} {s : Shared}
theorem enum1_at {v : Value} {o : Obj} {Hh : Heap → Prop} {Q : Value → Shared → Prop} (Bg : Begins v o Hh) (hv : Hh s.heap)
    (h : ∀ h1, IsEnum h1 (s.heap.objs.size + 1) s.heap.objs.size 0 .none → h1.get? s.heap.objs.size = some o → (∀ b ob, s.heap.get? b = some ob → h1.get? b = some ob) → Q (.ref (s.heap.objs.size + 1)) { s with heap := h1 }) :
    wpAny (model prog w) A (call (.type "enumerate") [v]) Q E s := by
  have sz : (s.heap.push o).objs.size = s.heap.objs.size + 1 := Heap.size_push ..
  have en : IsEnum ((s.heap.push o).push { cls := .type "enumerate", data := .fields #[.none, .bool false, .ref s.heap.objs.size, rawInt 0, .none, .none] }) (s.heap.objs.size + 1) s.heap.objs.size 0 .none := by
    have z := Heap.get?_push_size (s.heap.push o) (o := { cls := .type "enumerate", data := .fields #[.none, .bool false, .ref s.heap.objs.size, rawInt 0, .none, .none] }) rfl
    rw [sz] at z
    exact z
  refine callType_new F.called_enumerate (by decide) (F.typeCall_enumerate_1 _) (F.newCall_enumerate_1 _) (fun ob => F.args_object_init_2 ob _) F.entry_enumerate_new (meets_enum1 Bg) ⟨hv, ?_⟩
  show _ ∧ _
  rw [sz]
  exact ⟨⟨_, en, rfl⟩, h _ en (Heap.get?_push_of_some _ (Heap.get?_push_size _ Bg.free)) fun b ob x => Heap.get?_push_of_some _ (Heap.get?_push_of_some _ x)⟩
end
def IteT (K : PySem.W.Frag) (a : Addr) : It :=
  ⟨fun i H => ∃ (xs : List V) (x : V), SqT K H a xs ∧ xs[i]? = some x, fun i H v H1 => ∃ T x, v = .ref T ∧ H T = none ∧ H1 = upd H T (.tup [.int (i : Nat), x]) ∧ ∀ xs, SqT K H a xs → xs[i]? = some x, fun i H => ∃ xs : List V, SqT K H a xs ∧ xs.length = i⟩
theorem turn_enumT {P : Program} {w : World} {K : PySem.W.Frag} {elts : List Expr} {kk : Nat} {tpos : Pos} (a e it : Addr) :
    Turn P w K (.Tuple elts kk tpos) (IteT K a) [e, it] e (fun i h => (∃ old, IsEnum h e it ((i : Nat) : Int) old) ∧ h.IsTupleIter it a i ∧ e ≠ it ∧ e ≠ a ∧ a ≠ it) where
  mem := List.mem_cons_self
  obj := fun i h st b hb => by
    obtain ⟨⟨old, en⟩, ⟨o, ho, _, hd⟩, _⟩ := st
    rcases (by simpa using hb : b = e ∨ b = it) with rfl | rfl
    · exact ⟨_, en, fun v q => nomatch q⟩
    · refine ⟨o, ho, fun v q => ?_⟩
      rw [hd] at q
      cases q
  keep := fun i h h1 st k => by
    obtain ⟨⟨old, en⟩, hi, ne⟩ := st
    exact ⟨⟨old, k e List.mem_cons_self _ en⟩, hi.at fun o q => k it (List.mem_cons_of_mem _ List.mem_cons_self) o q, ne⟩
  item := by
    intro X hP hw hK hc i pins s σ H E I hf st hg
    subst hP hw hK
    obtain ⟨⟨old, en⟩, hit, ne, nea, nai⟩ := st
    obtain ⟨xs, x, hq, hx⟩ := hg
    obtain ⟨its, rv, tp, _⟩ := I.tuple hq
    obtain ⟨u, hu, ru⟩ := rv.get hx
    have lte : e < s.heap.objs.size := Heap.lt_size en
    have lti : it < s.heap.objs.size := by
      obtain ⟨_, q, _⟩ := hit
      exact Heap.lt_size q
    have ilt : i < its.toArray.size := by
      rw [List.size_toArray]
      exact (List.getElem?_eq_some_iff.mp hu).1
    refine wpAny_pyNext_enum_itemD (Draws.tuple (A := X.A.in1) (I.ok.hd hc) it a nai its.toArray) en ⟨hit, show s.heap.IsTuple a its.toArray from tp⟩ ilt ne (by simp [ne, nea]) fun x1 h1 tk hx1 ho st1 hT sz hk => ?_
    have ex1 : x1 = u := by
      have z : its[i]? = some x1 := by simpa using hx1
      rw [hu] at z
      cases z
      rfl
    subst ex1
    refine ⟨_, rfl, wpAny_letOwnedTupleGo_enum (s := { s with heap := h1, toks := tk + 1 }) ho fun h2 en2 sb => ?_⟩
    have hT2 : h2.get? s.heap.objs.size = some { cls := .type "tuple", data := .seq #[.int i tk, x1] } := (sb.2 _ (Nat.ne_of_gt lte)).trans hT
    have fresh : ObjOk X.prog X.w (upd H s.heap.objs.size (.tup [.int (i : Nat), x])) h2 s.heap.objs.size (.tup [.int (i : Nat), x]) :=
      ⟨by show 2 ≤ sizeLine; decide, [.int i tk, x1], .cons ⟨_, rfl⟩ (.cons ru .nil), ⟨_, hT2, rfl, _, rfl⟩⟩
    have I2 : Inv X pins σ (upd H s.heap.objs.size (.tup [.int (i : Nat), x])) { s with heap := h2, toks := tk + 1 } :=
      I.turnedNew (ch := [e, it]) (fun b ob hb q => (sb.2 b (fun z => hb (by simp [z]))).trans (hk b ob (fun z => hb (by simp [z])) (fun z => hb (by simp [z])) q)) hf (Nat.le_refl _) fresh
    refine ⟨.ref s.heap.objs.size, _, I2, rfl, ⟨_, x, rfl, I.hok.fresh (Nat.le_refl _), rfl, fun ys hy => by rw [I.tuple_inj hy hq]; exact hx⟩, ⟨⟨x1, ?_⟩, st1.1.at fun o q => (sb.2 it (Ne.symm ne)).trans q, ne, nea, nai⟩, fun b hb => ?_⟩
    · rw [show ((i + 1 : Nat) : Int) = (i : Int) + 1 by omega]
      exact en2
    · have lt : b < s.heap.objs.size := by
        rcases (by simpa using hb : b = e ∨ b = it) with rfl | rfl
        · exact lte
        · exact lti
      rw [upd_ne (Nat.ne_of_lt lt)]
      exact (hf b hb).1
  done := by
    intro X hP hw hK hc i pins s σ H E I hf st hg
    subst hP hw hK
    obtain ⟨⟨old, en⟩, hit, ne, nea, nai⟩ := st
    obtain ⟨xs, hq, hx⟩ := hg
    obtain ⟨its, rv, tp, _⟩ := I.tuple hq
    obtain ⟨g0, g1, g2, g3, g4, g5⟩ := hf it (List.mem_cons_of_mem _ List.mem_cons_self)
    have sz : its.toArray.size = i := by
      have := rv.length
      rw [List.size_toArray]
      omega
    subst sz
    exact wpAny_pyNext_enum_endD (Draws.tuple (A := X.A.in1) (I.ok.hd hc) it a nai its.toArray) en ⟨hit, show s.heap.IsTuple a its.toArray from tp⟩ fun h1 eb => ⟨rfl, I.turned (t' := s.toks) (fun b o hb q => eb b o hb q) g0 g1 g3 g4 g5⟩
  self := fun A i s Q E st h => let ⟨⟨_, en⟩, _⟩ := st; wpAny_pyIter_enum en h
def iEnumT (K : PySem.W.Frag) (ta : TA) : TI := fun σ H R => ta σ H fun vs H1 => ∃ a xs, vs = [.ref a] ∧ SqT K H1 a xs ∧ R (IteT K a) H1
theorem pi_enumT {X : Cx} {e : Expr} {ta : TA} {p pos tpos : Pos} {elts : List Expr} {kk : Nat} (hg : Gl X "enumerate") (hm : X.mg "enumerate" = none) (ha : PA X [e] ta) (hs : starEach [e] X.env = [(false, eval e X.env)] := by rfl) :
    PI X (.Tuple elts kk tpos) (.Call (.Name "enumerate" p) [e] [] pos) (iEnumT X.K ta) := by
  refine ⟨fun pins s σ H R I h => ?_⟩
  refine Call_ (ld_blt I hg hm boot_enumerate (PyProof.Rows.callWith_type1 (thn (ha.run pos pins s σ H _ I h) fun us s1 ⟨vs, H1, I1, r1, a, xs, ex, hq, q⟩ => ?_) hs rfl))
  subst ex
  rw [Vals.ref1 r1]
  obtain ⟨its, rv, tp, _⟩ := I1.tuple hq
  have tp' : s1.heap.IsTuple a its.toArray := tp
  have lta : a < s1.heap.objs.size := by
    obtain ⟨_, z, _⟩ := tp'
    exact Heap.lt_size z
  refine enum1_at (begins_tuple a its.toArray) tp' fun h1 en hi hk => wpAny_pyIter_enum en ?_
  have I2 : Inv X pins σ H1 { s1 with heap := h1 } := I1.kept (t' := s1.toks) hk
  refine ⟨s1.heap.objs.size + 1, [s1.heap.objs.size + 1, s1.heap.objs.size], _, _, H1, rfl, I2, turn_enumT a (s1.heap.objs.size + 1) s1.heap.objs.size, ⟨⟨.none, en⟩, ⟨_, hi, rfl, rfl⟩, Nat.succ_ne_self _, Nat.ne_of_gt (Nat.lt_succ_of_lt lta), Nat.ne_of_lt lta⟩, fun b hb => ?_, q⟩
  have le : s1.heap.objs.size ≤ b := by
    rcases (by simpa using hb : b = s1.heap.objs.size + 1 ∨ b = s1.heap.objs.size) with rfl | rfl
    · exact Nat.le_succ _
    · exact Nat.le_refl _
  exact I1.fpOk le (I1.hok.fresh le)
/-- a loop over an enumerated tuple, by a word -/
def ForE (K : PySem.W.Frag) (a : Addr) := ForJ (IteT K a)
section
variable {K : PySem.W.Frag} {a : Addr} {xs : List V} {g : TG} {tb : TS} {D : Ends} {σ : L2.St} {H : Hp} {ta : TA} {tt : TT} {te : TE} {vs : List Nat} {Q : VK}
theorem rd_forE : tFor (iEnumT K ta) g tb D σ H = ta σ H fun us H1 => ∃ a xs, us = [.ref a] ∧ SqT K H1 a xs ∧ ForE K a g tb D σ H1 := rfl
theorem ForE.w (Pw : Nat → L2.St → Hp → Prop) (h0 : Pw 0 σ H) (hl : ∀ i σ H, i ≤ xs.length → Pw i σ H → SqT K H a xs)
    (hs : ∀ (i : Nat) (x : V) (T : Addr) σ H, xs[i]? = some x → Pw i σ H → H T = none → ∀ N : L2.St → Hp → Prop, (∀ σ' H', Pw (i + 1) σ' H' → N σ' H') → g (.ref T) σ (upd H T (.tup [.int (i : Nat), x])) fun σ2 H2 => tb { D with nx := N, ct := N, bk := D.nx } σ2 H2)
    (hd : ∀ σ H, Pw xs.length σ H → D.nx σ H) : ForE K a g tb D σ H := by
  refine ⟨fun i m σ H => m = xs.length - i ∧ i ≤ xs.length ∧ Pw i σ H, ⟨_, rfl, Nat.zero_le _, h0⟩, ?_⟩
  rintro i m σ H ⟨rfl, hi, p⟩
  have hq := hl i σ H hi p
  rcases Nat.lt_or_ge i xs.length with c | c
  · have hx : xs[i]? = some xs[i] := List.getElem?_eq_getElem c
    refine .inr ⟨⟨xs, _, hq, hx⟩, Pw (i + 1), fun σ' H' p' => ⟨xs.length - (i + 1), by omega, rfl, c, p'⟩, fun v H' y => ?_⟩
    obtain ⟨T, x, rfl, hT, rfl, f⟩ := y
    exact hs i x T σ H (f xs hq) p hT _ fun _ _ h => h
  · have e : i = xs.length := by omega
    subst e
    exact .inl ⟨⟨xs, hq, rfl⟩, hd σ H p⟩
/-- a comprehension over an enumerated tuple -/
def LcE (K : PySem.W.Frag) (a : Addr) := LcJ (IteT K a)
theorem rd_lcE : tLc (iEnumT K ta) g tt te vs σ H Q = ta σ H fun us H1 => ∃ a xs, us = [.ref a] ∧ SqT K H1 a xs ∧ LcE K a g tt te vs σ H1 Q := rfl
theorem LcE.w (Pw : Nat → Addr → List V → Hp → Prop) (h0 : ∀ D, H D = none → Pw 0 D [] (upd H D (.lst []))) (hl : ∀ D i ys H, i ≤ xs.length → Pw i D ys H → SqT K H a xs)
    (hs : ∀ D (i : Nat) x (T : Addr) ys H, xs[i]? = some x → Pw i D ys H → H T = none → ∀ N : Hp → Prop, (∀ ys' H', Pw (i + 1) D ys' H' → N H') → g (.ref T) (wipe σ vs) (upd H T (.tup [.int (i : Nat), x])) fun σ2 H2 => wipe σ2 vs = wipe σ vs ∧ tt σ2 H2 fun b H3 =>
      if b = true then te σ2 H3 fun y H4 => ∃ acc, H4 D = some (.lst acc) ∧ acc.length < sizeLine ∧ N (upd H4 D (.lst (acc ++ [y]))) else N H3) (hd : ∀ D ys H', H D = none → Pw xs.length D ys H' → Q (.ref D) H') : LcE K a g tt te vs σ H Q := by
  intro D hD
  refine ⟨fun i m H => m = xs.length - i ∧ i ≤ xs.length ∧ ∃ ys, Pw i D ys H, ⟨_, rfl, Nat.zero_le _, _, h0 D hD⟩, ?_⟩
  rintro i m H ⟨rfl, hi, ys, p⟩
  have hq := hl D i ys H hi p
  rcases Nat.lt_or_ge i xs.length with c | c
  · have hx : xs[i]? = some xs[i] := List.getElem?_eq_getElem c
    refine .inr ⟨⟨xs, _, hq, hx⟩, fun H' => ∃ ys, Pw (i + 1) D ys H', fun H' p' => ⟨xs.length - (i + 1), by omega, rfl, c, p'⟩, fun v H' y => ?_⟩
    obtain ⟨T, x, rfl, hT, rfl, f⟩ := y
    exact hs D i x T ys H (f xs hq) p hT _ fun ys' H' h => ⟨ys', h⟩
  · have e : i = xs.length := by omega
    subst e
    exact .inl ⟨⟨xs, hq, rfl⟩, hd D ys H hD p⟩
end
end CB
/-! the least of data alike, a list or a tuple; the place of a datum in a list -/
namespace CB
open PySem PySem.Spec PyProof.Rows L2
section
variable {X : Cx}
theorem un65 {k : Nat} {A : Around} (r : Room k A) : A.units + 65 < cLine := by
  have := r.un
  omega
theorem minD_in (x : PyData) : ∀ xs : List PyData, PySem.W.minD x xs ∈ x :: xs := by
  intro xs
  unfold PySem.W.minD
  induction xs generalizing x with
  | nil => exact List.mem_cons_self
  | cons y r ih =>
    rw [List.foldl_cons]
    have h := ih (if PySem.W.dataLt y x then y else x)
    rcases List.mem_cons.mp h with h | h
    · rw [h]
      split
      · exact List.mem_cons_of_mem _ List.mem_cons_self
      · exact List.mem_cons_self
    · exact List.mem_cons_of_mem _ (List.mem_cons_of_mem _ h)
theorem lay_of {x : PyData} : ∀ {xs : List PyData}, PyData.canLayAll0 xs = true → x ∈ xs → PyData.canLay0 x = true
  | [], _, h => by simp at h
  | y :: r, l, h => by
    have l' : (PyData.canLay0 y && PyData.canLayAll0 r) = true := l
    rw [Bool.and_eq_true] at l'
    rcases List.mem_cons.mp h with h | h
    · rw [h]; exact l'.1
    · exact lay_of l'.2 h
theorem read_one {h : Heap} {v : Value} {d d' : PyData} {as bs : List Addr} (r : Reads h v d as) (r' : Reads h v d' bs) (l : PyData.canLay0 d = true) (l' : PyData.canLay0 d' = true) : d = d' := by
  have e1 := SeqAt.readsAll_map [d] [v] _ (by show (PyData.canLay0 d && true) = true; rw [l]; rfl) (.cons r .nil)
  have e2 := SeqAt.readsAll_map [d'] [v] _ (by show (PyData.canLay0 d' && true) = true; rw [l']; rfl) (.cons r' .nil)
  rw [e1] at e2
  exact (List.cons.inj e2).1
/-- min(xs), xs a list or a tuple of data alike -/
def rMinD (K : PySem.W.Frag) : List V → Hp → VK → Prop := fun vs H Q => ∃ (a : Addr) (ys : List V) (x : PyData) (xs : List PyData), vs = [V.ref a] ∧ (SqL K H a ys ∨ SqT K H a ys) ∧ DpAll K H ys (x :: xs) ∧ PyData.canLayAll0 (x :: xs) = true ∧ PySem.W.AlikeAll (x :: xs) ∧ PyData.depthAll (x :: xs) ≤ 60 ∧
  ∀ (i : Nat) v, ys[i]? = some v → (x :: xs)[i]? = some (PySem.W.minD x xs) → Q v H
theorem cr_minD (hc : X.calm = true) (hu : X.A.units + 65 < cLine) : CallR X (.builtin "min") (rMinD X.K) := by
  intro pins s σ H vs us Q I r h
  obtain ⟨a, ys, x, xs, rfl, hs, hd, lay, al, dp, q⟩ := h
  rw [Vals.ref1 r]
  have fin : ∀ {its : List Value} {as : List Addr} {i : Nat} {v : Value} {h' : Heap} {tk : Nat} {bs : List Addr}, Vals ys its → ReadsAll s.heap its (x :: xs) as → its.toArray[i]? = some v → Reads h' v (PySem.W.minD x xs) bs → (∀ b o, s.heap.get? b = some o → h'.get? b = some o) →
      (∃ y H', Inv X pins σ H' { s with heap := h', toks := tk } ∧ RelV y v ∧ Q y H') := fun {its as i v h' tk bs} rv ra hv rd hk => by
    have hv' : its[i]? = some v := by simpa using hv
    obtain ⟨b2, r2, hi, _, _⟩ := PySem.W.readsAll_at ra i v hv'
    have hx : (x :: xs)[i]? = some ((x :: xs).getD i .none) := by
      rw [List.getD_eq_getElem?_getD, List.getElem?_eq_getElem hi]
      rfl
    have mem := List.mem_of_getElem? hx
    have e := read_one (Reads.keeps hk r2) rd (lay_of lay mem) (lay_of lay (minD_in x xs))
    have hl := rv.length
    have hil : i < its.length := by
      obtain ⟨z, _⟩ := List.getElem?_eq_some_iff.mp hv'
      exact z
    have hy : ys[i]? = some ys[i] := List.getElem?_eq_getElem (by omega)
    obtain ⟨u, hu, ru⟩ := rv.get hy
    rw [hu] at hv'
    cases hv'
    exact ⟨ys[i], H, I.kept hk, ru, q i _ hy (by rw [hx, e])⟩
  have ar : X.A.units + 1 + PyData.depthAll (x :: xs) < cLine := by omega
  rcases hs with hs | hs
  · obtain ⟨its, rv, hl, _⟩ := I.list hs
    obtain ⟨as, ra⟩ := Dp.readsAll I _ _ its hd rv
    exact PySem.W.min_list_data (I.ok.hd hc) hl.isList (by simpa using ra) al ar fun i v h' tk bs hv rd hk => fin rv ra hv rd hk
  · obtain ⟨its, rv, hl, _⟩ := I.tuple hs
    obtain ⟨as, ra⟩ := Dp.readsAll I _ _ its hd rv
    exact PySem.W.min_tuple_data (I.ok.hd hc) (show s.heap.IsTuple a its.toArray from hl) (by simpa using ra) al ar fun i v h' tk bs hv rd hk => fin rv ra hv rd hk
theorem rd_minD {K : PySem.W.Frag} {vs : List V} {H : Hp} {Q : VK} : rMinD K vs H Q = ∃ (a : Addr) (ys : List V) (x : PyData) (xs : List PyData), vs = [V.ref a] ∧ (SqL K H a ys ∨ SqT K H a ys) ∧ DpAll K H ys (x :: xs) ∧ PyData.canLayAll0 (x :: xs) = true ∧ PySem.W.AlikeAll (x :: xs) ∧ PyData.depthAll (x :: xs) ≤ 60 ∧
  ∀ (i : Nat) v, ys[i]? = some v → (x :: xs)[i]? = some (PySem.W.minD x xs) → Q v H := rfl
theorem rd_indexD {K : PySem.W.Frag} {x : V} {xs : List V} {H : Hp} {Q : VK} : rIndexD K x xs H Q = ∃ (a : Addr) (y : V) (d : PyData) (ds : List PyData) (j : Nat) (z : PyData), x = V.ref a ∧ xs = [y] ∧ Dp K H (V.ref a) (.list ds) ∧ Dp K H y d ∧
  SeqAt.shaped (.list ds) = true ∧ SeqAt.shaped d = true ∧ ds[j]? = some z ∧ PyData.eqv z d = true ∧ (∀ (m : Nat) (z' : PyData), m < j → ds[m]? = some z' → PyData.eqv z' d = false) ∧ Q (.int (j : Nat)) H := rfl
end
end CB
/-! divmod; comprehensions by what holds beside the list that is made -/
namespace CB
open PySem PySem.Spec PyProof.Rows L2
/-! ### divmod of any size -/
def rDm : List V → Hp → VK → Prop := fun xs H Q => ∃ i j : Int, xs = [.int i, .int j] ∧ CDivP i j ∧ ∀ p, H p = none → Q (.ref p) (upd H p (.tup [.int (i / j), .int (i % j)]))
theorem cr_dm {X : Cx} : CallR X (.builtin "divmod") rDm := call_divmodW
theorem rd_dm {xs : List V} {H : Hp} {Q : VK} : rDm xs H Q = ∃ i j : Int, xs = [.int i, .int j] ∧ CDivP i j ∧ ∀ p, H p = none → Q (.ref p) (upd H p (.tup [.int (i / j), .int (i % j)])) := rfl
/-! ### a comprehension: what holds beside the list that is made -/
section
variable {K : PySem.W.Frag} {a : Addr} {xs : List V} {g : TG} {tt : TT} {te : TE} {vs : List Nat} {σ : L2.St} {H : Hp} {Q : VK} {lo : Int} {n : Nat}
/-- lists made since H stand as they were -/
def Kn (H H1 H2 : Hp) : Prop := ∀ D l, H D = none → H1 D = some (.lst l) → H2 D = some (.lst l)
theorem Kn.same {H H1 H2 : Hp} (s : Same H1 H2) : Kn H H1 H2 := fun D l _ e => s _ _ e
theorem Kn.refl {H H1 : Hp} : Kn H H1 H1 := fun _ _ _ e => e
theorem Kn.trans {H H1 H2 H3 : Hp} (a : Kn H H1 H2) (b : Kn H H2 H3) : Kn H H1 H3 := fun D l n e => b D l n (a D l n e)
/-- what does not speak of lists made since H -/
def Ind (H : Hp) (I : Hp → Prop) : Prop := ∀ H1 D l l', I H1 → H D = none → H1 D = some (.lst l) → I (upd H1 D (.lst l'))
theorem same_updD {H H1 : Hp} {D : Addr} {o : HO} (s : Same H H1) (n : H D = none) : Same H (upd H1 D o) := fun b x e => by
  rw [upd_ne (ne_of_none e n)]
  exact s _ _ e
theorem Ind.same {H : Hp} : Ind H (Same H) := fun H1 D l l' s n _ => same_updD s n
abbrev Turn1 (H : Hp) (g : TG) (tt : TT) (te : TE) (vs : List Nat) (σ : L2.St) (I : Nat → List V → Hp → Prop) (i : Nat) (x : V) : Prop :=
  ∀ zs H1, I i zs H1 → ∀ (M : VK) (S : Hp → Prop), (∀ v H2, Kn H H1 H2 → I (i + 1) (zs ++ [v]) H2 → M v H2) → (∀ H2, Kn H H1 H2 → I (i + 1) zs H2 → S H2) →
    g x (wipe σ vs) H1 fun σ2 H2 => wipe σ2 vs = wipe σ vs ∧ tt σ2 H2 fun b H3 => if b = true then te σ2 H3 M else S H3
theorem turn1 {I : Nat → List V → Hp → Prop} {i : Nat} {x : V} (hi : ∀ i zs, Ind H (I i zs)) (hz : ∀ i zs H1, I i zs H1 → zs.length < sizeLine) (t : Turn1 H g tt te vs σ I i x) {D : Addr} (nD : H D = none) {zs : List V} {H1 : Hp}
    (p : I i zs H1 ∧ H1 D = some (.lst zs)) {N : Hp → Prop} (hN : ∀ ys' H', I (i + 1) ys' H' ∧ H' D = some (.lst ys') → N H') : g x (wipe σ vs) H1 fun σ2 H2 => wipe σ2 vs = wipe σ vs ∧ tt σ2 H2 fun b H3 =>
      if b = true then te σ2 H3 fun y H4 => ∃ acc, H4 D = some (.lst acc) ∧ acc.length < sizeLine ∧ N (upd H4 D (.lst (acc ++ [y]))) else N H3 :=
  t zs H1 p.1 (fun y H4 => ∃ acc, H4 D = some (.lst acc) ∧ acc.length < sizeLine ∧ N (upd H4 D (.lst (acc ++ [y])))) N
    (fun v H2 k q => ⟨zs, k D zs nD p.2, hz _ _ _ p.1, hN (zs ++ [v]) _ ⟨hi _ _ H2 D zs _ q nD (k D zs nD p.2), upd_same⟩⟩) (fun H2 k q => hN zs _ ⟨q, k D zs nD p.2⟩)
theorem LcT.i (I : Nat → List V → Hp → Prop) (hi : ∀ i zs, Ind H (I i zs)) (h0 : ∀ H1, Same H H1 → I 0 [] H1) (hl : ∀ i zs H1, I i zs H1 → SqT K H1 a xs) (hz : ∀ i zs H1, I i zs H1 → zs.length < sizeLine)
    (hs : ∀ i x, xs[i]? = some x → Turn1 H g tt te vs σ I i x) (hd : ∀ D zs H', H D = none → I xs.length zs H' → H' D = some (.lst zs) → Q (.ref D) H') : LcT K a g tt te vs σ H Q :=
  LcT.w (xs := xs) (fun i D zs H1 => (I i zs H1 ∧ H1 D = some (.lst zs)) ∧ H D = none) (fun D nD => ⟨⟨h0 _ (same_upd nD), upd_same⟩, nD⟩) (fun D i zs H1 _ p => hl i zs H1 p.1.1)
    (fun D i x zs H1 hx p N hN => turn1 hi hz (hs i x hx) p.2 p.1 fun ys' H' q => hN ys' H' ⟨q, p.2⟩) (fun D zs H' _ p => hd D zs H' p.2 p.1.1 p.1.2)
theorem LcL.i (I : Nat → List V → Hp → Prop) (hi : ∀ i zs, Ind H (I i zs)) (h0 : ∀ H1, Same H H1 → I 0 [] H1) (hl : ∀ i zs H1, I i zs H1 → SqL K H1 a xs) (hz : ∀ i zs H1, I i zs H1 → zs.length < sizeLine)
    (hs : ∀ i x, xs[i]? = some x → Turn1 H g tt te vs σ I i x) (hd : ∀ D zs H', H D = none → I xs.length zs H' → H' D = some (.lst zs) → Q (.ref D) H') : LcL K a g tt te vs σ H Q :=
  LcL.w (xs := xs) (fun i D zs H1 => (I i zs H1 ∧ H1 D = some (.lst zs)) ∧ H D = none) (fun D nD => ⟨⟨h0 _ (same_upd nD), upd_same⟩, nD⟩) (fun D i zs H1 _ p => hl i zs H1 p.1.1)
    (fun D i x zs H1 hx p N hN => turn1 hi hz (hs i x hx) p.2 p.1 fun ys' H' q => hN ys' H' ⟨q, p.2⟩) (fun D zs H' _ p => hd D zs H' p.2 p.1.1 p.1.2)
theorem LcR.i (I : Nat → List V → Hp → Prop) (hi : ∀ i zs, Ind H (I i zs)) (h0 : ∀ H1, Same H H1 → I 0 [] H1) (hz : ∀ i zs H1, I i zs H1 → zs.length < sizeLine)
    (hs : ∀ i, i < n → Turn1 H g tt te vs σ I i (.int (lo + i))) (hd : ∀ D zs H', H D = none → I n zs H' → H' D = some (.lst zs) → Q (.ref D) H') : LcR lo n g tt te vs σ H Q :=
  LcR.w (fun i D zs H1 => (I i zs H1 ∧ H1 D = some (.lst zs)) ∧ H D = none) (fun D nD => ⟨⟨h0 _ (same_upd nD), upd_same⟩, nD⟩)
    (fun D i zs H1 hx p N hN => turn1 hi hz (hs i hx) p.2 p.1 fun ys' H' q => hN ys' H' ⟨q, p.2⟩) (fun D zs H' _ p => hd D zs H' p.2 p.1.1 p.1.2)
/-- the items are told: y i is what the turn i adds, if it adds any -/
def pureI (H : Hp) (m : Nat) (y : Nat → Option V) (i : Nat) (zs : List V) (H1 : Hp) : Prop := Same H H1 ∧ zs = (List.range i).filterMap y ∧ i ≤ m
abbrev Turn2 (H : Hp) (g : TG) (tt : TT) (te : TE) (vs : List Nat) (σ : L2.St) (y : Option V) (x : V) : Prop :=
  ∀ H1, Same H H1 → ∀ (M : VK) (S : Hp → Prop), (∀ v H2, y = some v → Same H1 H2 → M v H2) → (∀ H2, y = none → Same H1 H2 → S H2) →
    g x (wipe σ vs) H1 fun σ2 H2 => wipe σ2 vs = wipe σ vs ∧ tt σ2 H2 fun b H3 => if b = true then te σ2 H3 M else S H3
theorem turn2 {m : Nat} {y : Nat → Option V} {i : Nat} {x : V} (hm : i < m) (t : Turn2 H g tt te vs σ (y i) x) : Turn1 H g tt te vs σ (pureI H m y) i x := by
  rintro zs H1 ⟨s1, rfl, _⟩ M S hM hS
  refine t H1 s1 M S (fun v H2 e s2 => hM v H2 (.same s2) ⟨s1.trans s2, ?_, hm⟩) (fun H2 e s2 => hS H2 (.same s2) ⟨s1.trans s2, ?_, hm⟩)
  · rw [List.range_succ, List.filterMap_append, List.filterMap_cons, e]
    rfl
  · rw [List.range_succ, List.filterMap_append, List.filterMap_cons, e, List.filterMap_nil, List.append_nil]
theorem pureI.ind {m : Nat} {y : Nat → Option V} (i : Nat) (zs : List V) : Ind H (pureI H m y i zs) := fun H1 D l l' p n _ => ⟨same_updD p.1 n, p.2⟩
theorem pureI.z {m : Nat} {y : Nat → Option V} (hm : m ≤ 10000000) (i : Nat) (zs : List V) (H1 : Hp) (p : pureI H m y i zs H1) : zs.length < sizeLine := by
  obtain ⟨_, rfl, hi⟩ := p
  have := List.length_filterMap_le y (List.range i)
  rw [List.length_range] at this
  rw [PySem.sizeLine_eq]
  omega
theorem LcT.p (y : Nat → Option V) (hm : xs.length ≤ 10000000) (hx : ∀ H1, Same H H1 → SqT K H1 a xs) (hs : ∀ i x, xs[i]? = some x → Turn2 H g tt te vs σ (y i) x)
    (hd : ∀ D H', H D = none → Same H H' → H' D = some (.lst ((List.range xs.length).filterMap y)) → Q (.ref D) H') : LcT K a g tt te vs σ H Q :=
  LcT.i (pureI H xs.length y) pureI.ind (fun H1 s => ⟨s, rfl, Nat.zero_le _⟩) (fun i zs H1 p => hx H1 p.1) (pureI.z hm) (fun i x h => turn2 (List.getElem?_eq_some_iff.mp h).1 (hs i x h)) (fun D zs H' nD p e => hd D H' nD p.1 (by rw [← p.2.1]; exact e))
theorem LcL.p (y : Nat → Option V) (hm : xs.length ≤ 10000000) (hx : ∀ H1, Same H H1 → SqL K H1 a xs) (hs : ∀ i x, xs[i]? = some x → Turn2 H g tt te vs σ (y i) x)
    (hd : ∀ D H', H D = none → Same H H' → H' D = some (.lst ((List.range xs.length).filterMap y)) → Q (.ref D) H') : LcL K a g tt te vs σ H Q :=
  LcL.i (pureI H xs.length y) pureI.ind (fun H1 s => ⟨s, rfl, Nat.zero_le _⟩) (fun i zs H1 p => hx H1 p.1) (pureI.z hm) (fun i x h => turn2 (List.getElem?_eq_some_iff.mp h).1 (hs i x h)) (fun D zs H' nD p e => hd D H' nD p.1 (by rw [← p.2.1]; exact e))
theorem LcR.p (y : Nat → Option V) (hm : n ≤ 10000000) (hs : ∀ i, i < n → Turn2 H g tt te vs σ (y i) (.int (lo + i)))
    (hd : ∀ D H', H D = none → Same H H' → H' D = some (.lst ((List.range n).filterMap y)) → Q (.ref D) H') : LcR lo n g tt te vs σ H Q :=
  LcR.i (pureI H n y) pureI.ind (fun H1 s => ⟨s, rfl, Nat.zero_le _⟩) (pureI.z hm) (fun i h => turn2 h (hs i h)) (fun D zs H' nD p e => hd D H' nD p.1 (by rw [← p.2.1]; exact e))
end
theorem small_size {n : Nat} (h : n ≤ 10000000) : n < sizeLine := by rw [PySem.sizeLine_eq]; omega
theorem iabs (i : Int) : (if i < 0 then -i else i) = (i.natAbs : Int) := by
  split <;> omega
theorem fm_self {α : Type} : ∀ l : List α, (List.range l.length).filterMap (fun i => l[i]?) = l
  | [] => rfl
  | a :: l => by
    rw [List.length_cons, List.range_succ_eq_map, List.filterMap_cons, List.filterMap_map]
    show a :: _ = _
    congr 1
    exact fm_self l
theorem fm_get {α β : Type} (l : List α) (g : α → Option β) : (List.range l.length).filterMap (fun i => l[i]?.bind g) = l.filterMap g := by
  rw [← List.filterMap_filterMap, fm_self]
theorem fm_ite {α β : Type} (l : List α) (p : α → Bool) (f : α → β) : l.filterMap (fun a => if p a = true then some (f a) else none) = (l.filter p).map f := by
  induction l with
  | nil => rfl
  | cons a l ih =>
    rw [List.filterMap_cons, List.filter_cons]
    by_cases h : p a = true
    · rw [if_pos h, if_pos h, List.map_cons, ← ih]
    · rw [if_neg h, if_neg h, ← ih]
theorem lg_int {n : Int} (h : n.natAbs ≤ 1000000000000000000000000) : n.natAbs.log2 < 9000 := by
  have := log_lt (n := n.natAbs) (k := 80) (Nat.lt_of_le_of_lt h (by decide))
  omega
/-- a def that is never called so -/
def spNev : Sp := fun _ _ _ _ => False
theorem Dn.never {P : Program} {w : World} {K : PySem.W.Frag} {mg : Str → Option Value} {base : Heap} {x : Str} {st : Stmt} {N ps : List Str} (D : Dn K mg x st ps) (S : FnScope N ps (defScope st)) : Cal P w K mg base x 1 ps spNev :=
  D.cal S (fun _ _ _ _ h => h.elim) (fun _ _ _ _ _ _ _ _ _ _ h => h.elim)
theorem ixNk {n j : Nat} (hj : j < n) : ixN n (j : Int) = some j := by
  have h1 : (0 : Int) ≤ (j : Int) := by omega
  have h2 : (j : Int) < (n : Int) := by omega
  unfold ixN
  rw [if_pos h1, if_pos h2, Int.toNat_natCast]
/-- targets within a comprehension -/
theorem pg_tupK {X : Cx} {K : PySem.W.Frag} {es : List Expr} {k : Nat} {pos : Pos} {t : TGs} {n : Nat} (hK : X.K = K) (hc : X.calm = true) (h : PGs X es t)
    (hn : (assignEach es X.env).length = n) (hst : (assignEach es X.env).findIdx? (·.1) = none) : PG X (.Tuple es k pos) (gTup K n t) := by
  subst hK
  exact pg_tup hc h hn hst
/-! ### tuples of ints -/
section
variable {K : PySem.W.Frag} {H : Hp}
def dIs (ns : List Int) : PyData := .tuple (ns.map PyData.int)
theorem lay_ints : ∀ ts : List Int, PyData.canLayAll0 (ts.map PyData.int) = true
  | [] => rfl
  | t :: ts => by
    show (PyData.canLay0 (.int t) && PyData.canLayAll0 (ts.map PyData.int)) = true
    rw [lay_ints ts]
    rfl
theorem depth_ints : ∀ ts : List Int, PyData.depthAll (ts.map PyData.int) ≤ 1
  | [] => by decide
  | t :: ts => by
    have := depth_ints ts
    show max (PyData.depth (.int t)) (PyData.depthAll (ts.map PyData.int)) ≤ 1
    have e : PyData.depth (.int t) = 0 := rfl
    omega
theorem shaped_ints (ts : List Int) : SeqAt.shaped (dIs ts) = true := by
  unfold SeqAt.shaped dIs
  have a : PyData.canLay0 (.tuple (ts.map PyData.int)) = true := lay_ints ts
  have b : PyData.depth (.tuple (ts.map PyData.int)) ≤ 64 := by
    have := depth_ints ts
    show PyData.depthAll (ts.map PyData.int) + 1 ≤ 64
    omega
  rw [a, decide_eq_true b]
  rfl
theorem eqvAll_ints : ∀ xs ys : List Int, PyData.eqvAll (xs.map PyData.int) (ys.map PyData.int) = decide (xs = ys)
  | [], [] => rfl
  | [], _ :: _ => rfl
  | _ :: _, [] => rfl
  | x :: xs, y :: ys => by
    show ((x == y) && PyData.eqvAll (xs.map PyData.int) (ys.map PyData.int)) = _
    rw [eqvAll_ints xs ys]
    by_cases h1 : x = y
    · by_cases h2 : xs = ys
      · simp [h1, h2]
      · simp [h2]
    · simp [h1]
theorem eqv_ints (xs ys : List Int) : PyData.eqv (dIs xs) (dIs ys) = decide (xs = ys) := eqvAll_ints xs ys
theorem dp_I {p : Addr} {ns : List Int} (h : H p = some (.tup (ns.map V.int))) : Dp K H (.ref p) (dIs ns) := .tup (SqT.of h) (dp_ints ns)
end
/-! ### sums, slices, multiples of tuples of any size; isinstance of several classes -/
theorem rd_catA {K : PySem.W.Frag} {x y : V} {H : Hp} {Q : VK} : rCatA K x y H Q = ∃ a b xs ys, x = .ref a ∧ y = .ref b ∧ SqT K H a xs ∧ SqT K H b ys ∧ xs.length + ys.length ≤ sizeLine ∧
  (xs = [] → Q (.ref b) H) ∧ (xs ≠ [] → ys = [] → Q (.ref a) H) ∧ (xs ≠ [] → ys ≠ [] → ∀ p, H p = none → Q (.ref p) (upd H p (.tup (xs ++ ys)))) := rfl
theorem rd_slA {K : PySem.W.Frag} {x : V} {lo hi : Option Int} {H : Hp} {Q : VK} : rSlA K x lo hi H Q = ∃ a xs, x = .ref a ∧ SqT K H a xs ∧
  (HT.sIx xs.length 0 lo = 0 ∧ HT.sIx xs.length xs.length hi = xs.length → Q (.ref a) H) ∧ (¬ (HT.sIx xs.length 0 lo = 0 ∧ HT.sIx xs.length xs.length hi = xs.length) → ∀ p, H p = none → Q (.ref p) (upd H p (.tup (cutV xs lo hi)))) := rfl
theorem rd_repT {K : PySem.W.Frag} {x y : V} {H : Hp} {Q : VK} : rRepT K x y H Q = ∃ l k xs, x = .ref l ∧ y = .int k ∧ SqT K H l xs ∧ xs ≠ [] ∧ 2 ≤ k ∧ k ≤ 1000 ∧ xs.length ≤ 1000 ∧ ∀ p, H p = none → Q (.ref p) (upd H p (.tup (List.replicate k.toNat xs).flatten)) := rfl
theorem rd_isiT {K : PySem.W.Frag} {xs : List V} {H : Hp} {Q : VK} : rIsiT K xs H Q = ∃ (x : V) (tp : Addr) (cs : List V) (t : Value) (us : List Value) (b : Bool), xs = [x, .ref tp] ∧ H tp = some (.tup cs) ∧ Paired ClsV cs us ∧ TyX K H x t ∧ PySem.W.kitAny K t us = some b ∧ Q (.bl b) H := rfl
theorem isiT_mk {K : PySem.W.Frag} {x : V} {T t1 t2 : String} {b1 b2 : Bool} {H : Hp} {tp : Addr} {Q : VK} (hT : H tp = some (.tup [.ty t1, .ty t2])) (ty : TyX K H x (.type T)) (e1 : kitB T t1 = some b1) (e2 : kitB T t2 = some b2) (q : Q (.bl (b1 || b2)) H) : rIsiT K [x, .ref tp] H Q := by
  refine ⟨x, tp, _, _, [.type t1, .type t2], b1 || b2, rfl, hT, .cons (.ty t1) (.cons (.ty t2) .nil), ty, kitAny_cons (kit_ty e1) (fun h => kitAny_cons (r := b1 || b2) (kit_ty e2) (fun h2 => ?_) (fun h2 => ?_)) (fun h => ?_), q⟩
  · rw [h, h2]; rfl
  · rw [h2, Bool.or_true]
  · rw [h]; rfl
/-! ### rows of ints that stand in a list or a tuple -/
def RowsAt (H : Hp) (xs : List V) (rs : List (List Int)) : Prop := xs.length = rs.length ∧ ∀ (i : Nat) (r : List Int), rs[i]? = some r → ∃ p : Addr, xs[i]? = some (V.ref p) ∧ H p = some (.tup (r.map V.int))
section
variable {K : PySem.W.Frag} {H H' : Hp} {xs : List V} {rs : List (List Int)}
theorem RowsAt.nil : RowsAt H [] [] := ⟨rfl, fun i r e => by simp at e⟩
theorem RowsAt.same (h : RowsAt H xs rs) (s : Same H H') : RowsAt H' xs rs := ⟨h.1, fun i r e => by
  obtain ⟨p, h1, h2⟩ := h.2 i r e
  exact ⟨p, h1, s _ _ h2⟩⟩
theorem RowsAt.snoc {p : Addr} {r : List Int} (h : RowsAt H xs rs) (hp : H p = some (.tup (r.map V.int))) : RowsAt H (xs ++ [V.ref p]) (rs ++ [r]) := by
  refine ⟨by rw [List.length_append, List.length_append, h.1]; rfl, fun i r' e => ?_⟩
  rcases Nat.lt_or_ge i rs.length with c | c
  · rw [List.getElem?_append_left c] at e
    rw [List.getElem?_append_left (by rw [h.1]; exact c)]
    exact h.2 i r' e
  · rw [List.getElem?_append_right c] at e
    rw [List.getElem?_append_right (by rw [h.1]; exact c), h.1]
    cases hi : i - rs.length with
    | zero =>
      rw [hi] at e
      cases e
      exact ⟨p, rfl, hp⟩
    | succ n => rw [hi] at e; simp at e
theorem RowsAt.get (h : RowsAt H xs rs) {i : Nat} {v : V} (e : xs[i]? = some v) : ∃ p r, v = .ref p ∧ rs[i]? = some r ∧ H p = some (.tup (r.map V.int)) := by
  have hi : i < rs.length := by
    rw [← h.1]
    exact (List.getElem?_eq_some_iff.mp e).1
  obtain ⟨p, h1, h2⟩ := h.2 i _ (List.getElem?_eq_getElem hi)
  rw [e] at h1
  cases h1
  exact ⟨p, _, rfl, List.getElem?_eq_getElem hi, h2⟩
theorem RowsAt.updL {D : Addr} {l : List V} {o : HO} (h : RowsAt H xs rs) (hD : H D = some (.lst l)) : RowsAt (upd H D o) xs rs := ⟨h.1, fun i r e => by
  obtain ⟨p, h1, h2⟩ := h.2 i r e
  refine ⟨p, h1, ?_⟩
  rw [upd_ne (ne_of h2 hD (by intro z; cases z))]
  exact h2⟩
end
end CB
/-! a list stored into a slice of a list: from a place on, and from a place on with a step -/
namespace CB
open PySem PySem.Spec PyProof.Rows L2
/-- the items behind the store -/
def putS {α : Type} (xs ys : List α) (d e st : Nat) : List α := if st = 1 then xs.take d ++ ys ++ xs.drop (max d e) else
  (((List.range ys.length).map fun k => d + st * k).zip ys).foldl (fun zs q => zs.set q.1 q.2) xs
theorem foldl_set_map {α β : Type} (f : α → β) : ∀ (ps : List (Nat × α)) (xs : List α), (ps.map fun q => (q.1, f q.2)).foldl (fun zs q => zs.set q.1 q.2) (xs.map f) = (ps.foldl (fun zs q => zs.set q.1 q.2) xs).map f
  | [], _ => rfl
  | q :: ps, xs => by
    show (ps.map fun q => (q.1, f q.2)).foldl (fun zs q => zs.set q.1 q.2) ((xs.map f).set q.1 (f q.2)) = _
    rw [← List.map_set, foldl_set_map f ps]
    rfl
theorem foldl_set_len {α : Type} : ∀ (ps : List (Nat × α)) (xs : List α), (ps.foldl (fun zs q => zs.set q.1 q.2) xs).length = xs.length
  | [], _ => rfl
  | q :: ps, xs => by
    show (ps.foldl (fun zs q => zs.set q.1 q.2) (xs.set q.1 q.2)).length = _
    rw [foldl_set_len ps, List.length_set]
theorem vals_foldl : ∀ {ys : List V} {us : List Value} (ks : List Nat) {xs : List V} {ts : List Value}, Vals ys us → Vals xs ts →
    Vals ((ks.zip ys).foldl (fun zs q => zs.set q.1 q.2) xs) ((ks.zip us).foldl (fun zs q => zs.set q.1 q.2) ts)
  | _, _, [], _, _, _, r => r
  | _, _, k :: ks, _, _, .nil, r => r
  | _, _, k :: ks, _, _, .cons h t, r => vals_foldl ks t (r.set h k)
theorem arr_foldl {α : Type} : ∀ (ps : List (Nat × α)) (xs : List α), ps.foldl (fun (zs : Array α) q => zs.setIfInBounds q.1 q.2) xs.toArray = (ps.foldl (fun zs q => zs.set q.1 q.2) xs).toArray
  | [], _ => rfl
  | q :: ps, xs => by
    show ps.foldl _ (xs.toArray.setIfInBounds q.1 q.2) = _
    rw [List.setIfInBounds_toArray, arr_foldl ps]
    rfl
section
variable {prog : Program} {w : World} {A : Around} {E : Value → Shared → Prop} {s : Shared}
theorem bounds_from {d n : Nat} {st : Option Int} (hd : d ≤ n) (h1 : 0 < st.getD 1) : sliceBounds (some (d : Int)) none st n = ((d : Int), (n : Int), st.getD 1) := by
  simp only [sliceBounds]
  have a : ¬ ((d : Int) < 0) := by omega
  simp only [a, h1, gt_iff_lt, if_true, if_false]
  congr 1
  omega
/-- the write of a list's slots, whatever it is -/
theorem store_slice {l b sl : Addr} {us ws : Array Value} {n m d st : Nat} {vl vs : Value} {so : Option Int} {Q : Unit → Shared → Prop}
    (hl : s.heap.get? l = some { cls := .type "list", data := .seq us n }) (hb : s.heap.get? b = some { cls := .type "list", data := .seq ws m }) (ne : l ≠ b)
    (hs : s.heap.IsSliceOf sl vl .none vs) (pl : IsPart vl (some (d : Int))) (ps : IsPart vs so) (hso : so.getD 1 = (st : Int)) (s0 : 0 < st) (hd : d ≤ us.size)
    (hz : us.size + ws.size ≤ sizeLine) (hc : st ≠ 1 → ws.size = (sliceRange (d : Int) (us.size : Int) (st : Int)).length)
    (h : Q () { s with heap := s.heap.update l (Obj.mapSeq fun xs => if st = 1 then xs.extract 0 d ++ ws ++ xs.extract (max d us.size) xs.size else
      ((sliceRange (d : Int) (us.size : Int) (st : Int)).zip ws.toList).foldl (fun xs q => xs.setIfInBounds q.1 q.2) xs) }) :
    wpAny (model prog w) A (setItem (.ref l) (.ref sl) (.ref b)) Q E s := by
  have il := PySem.IsL.isList hl
  have ib := PySem.IsL.isList hb
  obtain ⟨os, hos, hcs, hds⟩ := id hs
  have ty : s.TypeIs (.ref sl) "slice" := ⟨os, hos, hcs⟩
  have s1 : so ≠ some 0 := fun z => by rw [z] at hso; have : (0 : Int) = (st : Int) := hso; omega
  have raw0 : ¬ ((rawPart so == rawInt 0) = true) := by
    cases so with
    | none => exact Bool.false_ne_true
    | some c => exact fun z => s1 (by have : c = 0 := by simpa [rawPart, rawInt] using z
                                      rw [this])
  have diff : Builtin.List.listSameRef (.ref l) (.ref b) = false := beq_eq_false_iff_ne.mpr ne
  have mx : (max (d : Int) (us.size : Int)).toNat = max d us.size := by omega
  unfold setItem
  try with_reducible refine wpAny_holding ?_
  first | refine wpAny_bind (wpAny_pure ?_) | skip
  refine wpAny_bind (wpAny_sequenceKey il.typeIs (by decide) (wpAny_bind (wpAny_callSpecial?_slot (name := Str.ofString "__setitem__") il.typeIs slot_list_setitem (wpAny_call_entry slot_list_setitem il.typeIs entry_list_setitem ?_ (args_list_setitem _ _ _)))))
  show wpAny _ _ (Builtin.List.listSubscript? (.ref sl) >>= fun _ => _) _ _ s
  refine wpAny_bind (m := Builtin.List.listSubscript? (.ref sl)) ?_
  unfold Builtin.List.listSubscript?
  refine wpAny_bind (wpAny_specialOf ty slice_no_index ?_)
  rw [if_pos (by rfl)]
  refine wpAny_pure ?_
  show wpAny _ _ (typeOf (.ref sl) >>= fun _ => _) _ _ s
  refine wpAny_bind (wpAny_typeOf ty ?_)
  first | rw [if_neg (by decide)] | refine PySem.W.KFB.if_not (by decide) ?_
  rw [listSliceParts_eq]
  refine wpAny_bind (wpAny_bind (wpAny_field hos hds (x := vs) rfl (wpAny_bind (wpAny_listPart ps ?_))))
  rw [if_neg raw0]
  refine wpAny_bind (wpAny_field hos hds (x := vl) rfl (wpAny_bind (wpAny_listPart pl (wpAny_bind (wpAny_field hos hds (x := .none) rfl (wpAny_bind (wpAny_listPart .none (wpAny_pure ?_))))))))
  first
    | refine PySem.W.KFB.if_not diff ?_
    | (dsimp only
       rw [if_neg (by rw [diff]; exact Bool.false_ne_true)])
  refine wpAny_bind (m := Builtin.List.listAllItems (.ref b) "must assign iterable to extended slice") ?_
  unfold Builtin.List.listAllItems
  refine wpAny_bind (wpAny_typeOf ib.typeIs ?_)
  first | refine PySem.W.KFB.if_so (by decide) ?_ | rw [if_pos (by decide)]
  unfold Builtin.List.listItems
  refine wpAny_bind (wpAny_seqItems hb rfl (wpAny_pure (wpAny_bind (wpAny_bind (wpAny_seqItems hl rfl (wpAny_pure ?_))))))
  refine wpAny_bind (wpAny_of_eq ((sliceIndices_raw (some (d : Int)) none so us.size s1).trans (congrArg (pure : Int × Int × Int → Sem (Int × Int × Int)) (bounds_from hd (by omega)))) ?_)
  rw [hso]
  show wpAny _ _ (if ((st : Int) == 1) = true then _ else _) _ _ s
  by_cases one : st = 1
  · subst one
    rw [if_pos (by decide)]
    refine wpAny_bind (wpAny_rule ?_)
    first | refine PySem.W.KFB.if_not (notLongL hz) ?_ | (rw [notLongL hz, if_neg Bool.false_ne_true])
    first | refine wpAny_bind (wpAny_pure ?_) | skip
    show wpAny _ _ (updateSeq l (fun xs => xs.extract 0 ((d : Int)).toNat ++ ws ++ xs.extract (max (d : Int) (us.size : Int)).toNat xs.size) >>= fun _ => _) _ _ s
    rw [mx, Int.toNat_natCast]
    refine wpAny_bind (wpAny_updateSeq (hz := by omega) (_hz' := by simp only [Array.size_append, Array.size_extract]; omega) hl rfl ?_)
    refine wpAny_bind (wpAny_letGo ?_)
    first
      | exact wpAny_bind (wpAny_pure (wpAny_pure ⟨.none, rfl, wpAny_pure h⟩))
      | exact wpAny_pure ⟨.none, rfl, wpAny_pure h⟩
  · rw [if_neg (by rw [beq_iff_eq]; omega)]
    have hc := hc one
    have np : (ws.size != (sliceRange (d : Int) (us.size : Int) (st : Int)).length) = false := by rw [hc]; exact bne_self_eq_false _
    first | refine PySem.W.KFB.if_not np ?_ | (dsimp only; rw [np, if_neg Bool.false_ne_true])
    first | refine wpAny_bind (wpAny_pure ?_) | skip
    refine wpAny_bind (wpAny_rule ?_)
    have z2 : ∀ (ps : List (Nat × Value)) (xs : Array Value), (ps.foldl (fun xs q => xs.setIfInBounds q.1 q.2) xs).size = xs.size := by
      intro ps
      induction ps with
      | nil => intro xs; rfl
      | cons q ps ih => intro xs; exact (ih _).trans (Array.size_setIfInBounds ..)
    show wpAny _ _ (updateSeq l (fun xs => ((sliceRange (d : Int) (us.size : Int) (st : Int)).zip ws.toList).foldl (fun xs q => xs.setIfInBounds q.1 q.2) xs) >>= fun _ => _) _ _ s
    refine wpAny_bind (wpAny_updateSeq (hz := by omega) (_hz' := by rw [z2]; omega) hl rfl ?_)
    simp only [if_neg one] at h
    refine wpAny_bind (wpAny_letGo ?_)
    first
      | exact wpAny_bind (wpAny_pure (wpAny_pure ⟨.none, rfl, wpAny_pure h⟩))
      | exact wpAny_pure ⟨.none, rfl, wpAny_pure h⟩
theorem range_from {d n st : Nat} (s0 : 0 < st) : sliceRange (d : Int) (n : Int) (st : Int) = (List.range ((n - d + (st - 1)) / st)).map fun k => d + st * k := by
  unfold sliceRange
  rw [if_pos (show (st : Int) > 0 by omega)]
  have e : (if (d : Int) < (n : Int) then ((n : Int) - d + st - 1) / (st : Int) else 0).toNat = (n - d + (st - 1)) / st := by
    by_cases c : d < n
    · rw [if_pos (by omega)]
      have : (n : Int) - d + st - 1 = ((n - d + (st - 1) : Nat) : Int) := by omega
      rw [this]
      show (((n - d + (st - 1)) / st : Nat) : Int).toNat = _
      rw [Int.toNat_natCast]
    · rw [if_neg (by omega)]
      have : n - d = 0 := by omega
      rw [this, Nat.zero_add, Nat.div_eq_of_lt (by omega)]
      rfl
  show List.map _ (List.range (if (d : Int) < (n : Int) then ((n : Int) - d + st - 1) / (st : Int) else 0).toNat) = _
  rw [e]
  refine List.map_congr_left fun k _ => ?_
  show ((d : Int) + (st : Int) * (k : Int)).toNat = _
  have : (st : Int) * (k : Int) = ((st * k : Nat) : Int) := (Int.natCast_mul _ _).symm
  rw [this]
  omega
end
section
variable {X : Cx} {pos p2 : Pos}
/-- o[lo:] = v, o[lo::st] = v: by values -/
def rPutS : V → Option Int → Option Int → V → Hp → (Hp → Prop) → Prop := fun o lo so v H Q => ∃ (l b : Addr) (xs ys : List V) (d st : Nat), o = .ref l ∧ v = .ref b ∧ l ≠ b ∧ H l = some (.lst xs) ∧ H b = some (.lst ys) ∧
  lo = some (d : Int) ∧ so.getD 1 = (st : Int) ∧ 0 < st ∧ d ≤ xs.length ∧ xs.length + ys.length ≤ sizeLine ∧ (st ≠ 1 → ys.length = (xs.length - d + (st - 1)) / st) ∧ Q (upd H l (.lst (putS xs ys d xs.length st)))
theorem put_slice {pins : List (Addr × Obj)} {s : Shared} {σ : L2.St} {H : Hp} {o v : V} {lo so : Option Int} {ov u vl vs : Value} {sl : Addr} {Q : Hp → Prop} (I : Inv X pins σ H s) (ro : RelV o ov) (rv : RelV v u)
    (hs : s.heap.IsSliceOf sl vl .none vs) (pl : IsPart vl lo) (ps : IsPart vs so) (h : rPutS o lo so v H Q) : wpAny (model X.prog X.w) X.A (setItem ov (.ref sl) u) (fun _ s' => ∃ H', Inv X pins σ H' s' ∧ Q H') X.xe s := by
  obtain ⟨l, b, xs, ys, d, st, rfl, rfl, ne, hl, hb, rfl, hst, s0, hd, hz, hc, q⟩ := h
  cases ro
  cases rv
  obtain ⟨z, its, n, r, el, e⟩ := I.lstM hl
  obtain ⟨z2, ws, m, r2, el2, e2⟩ := I.lstM hb
  refine store_slice (d := d) (st := st) e e2 ne hs pl ps hst s0 (by rw [List.size_toArray]; omega) (by rw [List.size_toArray, List.size_toArray]; omega) (fun c => ?_) ⟨_, ?_, q⟩
  · rw [range_from s0, List.length_map, List.length_range, List.size_toArray, List.size_toArray, ← el2, ← el]
    exact hc c
  · unfold putS
    by_cases one : st = 1
    · refine I.lset (its' := its.take d ++ ws ++ its.drop (max d xs.length)) (t' := s.toks) hl e ?_ ?_ ?_
      · simp only [if_pos one]
        show its.toArray.extract 0 d ++ ws.toArray ++ its.toArray.extract (max d its.toArray.size) its.toArray.size = _
        rw [splice_eq, List.size_toArray, ← el]
      · rw [if_pos one]
        exact Vals.append (Vals.append (r.take _) r2) (r.drop _)
      · rw [if_pos one, List.length_append, List.length_append, List.length_take, List.length_drop]
        omega
    · refine I.lset (its' := (((List.range ys.length).map fun k => d + st * k).zip ws).foldl (fun zs q => zs.set q.1 q.2) its) (t' := s.toks) hl e ?_ ?_ ?_
      · simp only [if_neg one]
        show ((sliceRange (d : Int) (its.toArray.size : Int) (st : Int)).zip ws).foldl (fun xs q => xs.setIfInBounds q.1 q.2) its.toArray = _
        rw [arr_foldl, range_from s0, List.size_toArray, ← el, hc one]
      · rw [if_neg one]
        exact vals_foldl _ r2 r
      · rw [if_neg one, foldl_set_len]
        omega
def gPutS (te : TE) (tl ts : TO) : TG := fun v σ H Q => te σ H fun o H1 => tl σ H1 fun lo H2 => ts σ H2 fun so H3 => rPutS o lo so v H3 fun H4 => Q σ H4
theorem pg_putS {o : Expr} {lo so : Option Expr} {te : TE} {tl ts : TO} (ho : PE X o te) (hl : PO X lo tl) (hs : PO X so ts)
    (ha : ∀ v, assign (.Subscript o (.Slice lo none so p2) pos) X.env v = (do
      let a ← holding [v] (eval o X.env)
      let i ← holding [v, a] (eval (.Slice lo none so p2) X.env)
      standAt pos
      holding [v, a, i] (setItem a i v)
      release [v, a, i] []) := by intro _; rfl) : PG X (.Subscript o (.Slice lo none so p2) pos) (gPutS te tl ts) := by
  refine ⟨fun pins s σ H v u Q I r h => ?_⟩
  rw [ha]
  refine wpAny_bind (wpAny_holding (thn (ho.run pins s σ H _ I h) fun a s1 ⟨x, H1, I1, r1, q1⟩ => ?_))
  refine wpAny_bind (wpAny_holding ?_)
  refine wpAny_Slice (thn (hl.run pins s1 σ H1 _ I1 q1) fun vl s2 ⟨lo, H2, I2, pl, q2⟩ => ?_)
  rw [evalPart_none]
  refine wpAny_pure (thn (hs.run pins s2 σ H2 _ I2 q2) fun vs s3 ⟨so, H3, I3, ps, q3⟩ => ?_)
  have I4 : Inv X pins σ H3 { s3 with heap := s3.heap.push { cls := .type "slice", data := .fields #[vl, .none, vs] } } := I3.kept (t' := s3.toks) fun b ob q => Heap.get?_push_of_some _ q
  refine wpAny_bind (wpAny_standAt (wpAny_bind (wpAny_holding (thn (put_slice (sl := s3.heap.objs.size) I4 r1 r (Heap.IsSliceOf.new ..) pl ps q3) fun _ s5 ⟨H5, I5, q5⟩ => ?_))))
  exact wpAny_release ⟨σ, H5, I5, q5⟩
theorem rd_putS {te : TE} {tl ts : TO} : gPutS te tl ts v σ H Q = te σ H fun o H1 => tl σ H1 fun lo H2 => ts σ H2 fun so H3 => rPutS o lo so v H3 fun H4 => Q σ H4 := rfl
theorem rPutS.w {l b : Addr} {xs ys : List V} {d st : Nat} {lo so : Option Int} {H : Hp} {Q : Hp → Prop} (ne : l ≠ b) (hl : H l = some (.lst xs)) (hb : H b = some (.lst ys)) (e1 : lo = some (d : Int)) (e2 : so.getD 1 = (st : Int)) (s0 : 0 < st)
    (hd : d ≤ xs.length) (hz : xs.length + ys.length ≤ sizeLine) (hc : st ≠ 1 → ys.length = (xs.length - d + (st - 1)) / st) (q : Q (upd H l (.lst (putS xs ys d xs.length st)))) : rPutS (.ref l) lo so (.ref b) H Q :=
  ⟨l, b, xs, ys, d, st, rfl, rfl, ne, hl, hb, e1, e2, s0, hd, hz, hc, q⟩
end
end CB
namespace CB
open PySem PySem.Spec PyProof.Rows L2
/-! ### Refused alone, where a law has no Malformed -/
structure ErrP (K : PySem.W.Frag) (mg : Str → Option Value) (C f : Addr) : Prop where
  g : mg "Refused" = some (.ref C)
  ox : OexC K C
  i : PySem.W.findIn K (.ref C) "__init__" = some (some (.ref f))
  t : PySem.W.typeIn K (.ref f) = some (.type "function")
  n : PySem.W.findIn K (.ref C) "reason" = some none
  xf : XfC K C
  rr : PySem.W.exmOne K (.ref C) (.ref C) = some true
structure ErrQ (P : Program) (w : World) (K : PySem.W.Frag) (mg : Str → Option Value) (base : Heap) (C : Addr) : Prop where
  r : ∃ f fd, ErrP K mg C f ∧ FnOk P w K mg base CX0 1 f fd ["self", "reason"] (spRI K) ∧ Binds K fd ["self", "reason"] []
theorem ps_refQ {X : Cx} {W : WX} {C : Addr} {m : Str} {j : Nat} {p p2 pos pp : Pos} (E : ErrQ X.prog X.w X.K X.mg X.base C) (hc : X.calm = true) (tk : Takes X W) (hr : Room 2 X.A) (hg : Gl X "Refused") (hs : starEach [Expr.Constant (.str m) j p2] X.env = (false, eval (Expr.Constant (.str m) j p2) X.env) :: starEach [] X.env := by rfl)
    (hpl : (backTo pos (starEach [] X.env)).any (·.1) = false := by rfl) :
    PS X (.Raise (some (.Call (.Name "Refused" p) [.Constant (.str m) j p2] [] pos)) none pp) (fun _ σ H => ∀ d H', Same H H' → H d = none → H' d = some (.xd [("reason", .str m)]) → W (.ref C) (some d) σ H') := by
  obtain ⟨f, fd, R, F, b⟩ := E.r
  refine ⟨fun pins s σ H D I h => ?_⟩
  refine (ps_raise hc tk (pmk_oex R.ox R.i R.t F hr b .nil pass0 hg R.g (pa_cons pe_str pa_nil hs) rfl hs hpl)).run pins s σ H D I ?_
  show ([V.str m].length ≤ 1000 ∧ _)
  refine ⟨by show 1 ≤ 1000; decide, fun a na => ⟨a, C, .str m, rfl, R.ox, R.n, upd_same, fun dx ndx ne => ⟨rfl, dx, [("reason", .str m)], upd_same, ?_, ?_, ?_⟩⟩⟩
  · rw [upd_ne ne, upd_same]
  · rw [upd_ne ne] at ndx
    exact ndx
  · rw [upd_ne ne] at ndx
    refine h dx _ (fun b o e => ?_) ndx upd_same
    have hbd : b ≠ dx := ne_of_none e ndx
    have hba : b ≠ a := ne_of_none e na
    rw [upd_ne hbd, del_ne hba, upd_ne hba, upd_ne hbd, upd_ne hba]
    exact e
end CB
namespace CB
open PySem PySem.Spec PyProof.Rows L2
/-- a tuple of ints that a module's name holds -/
abbrev TC (K : PySem.W.Frag) (mg : Str → Option Value) (x : Str) (ns : List Int) : Prop := ∃ a : Addr, mg x = some (.ref a) ∧ ∀ H : Hp, SqT K H a (ns.map V.int)
end CB
namespace CB
open PySem PySem.Spec PyProof.Rows L2
/-- a loop whose test leaves another heap -/
theorem while_h {c : TT} {tb : TS} {D : Ends} {σ : L2.St} {H : Hp} (Pw : L2.St → Hp → Prop) (μ : L2.St → Hp → Nat) (h0 : Pw σ H)
    (hs : ∀ σ H, Pw σ H → ∀ N : L2.St → Hp → Prop, (∀ σ' H', Pw σ' H' → μ σ' H' < μ σ H → N σ' H') →
      ∀ R : Bool → Hp → Prop, (∀ H1, tb { D with nx := N, ct := N, bk := D.nx } σ H1 → R true H1) → (∀ H1, D.nx σ H1 → R false H1) → c σ H R) : tWhile c tb D σ H := by
  refine ⟨fun m σ H => m = μ σ H ∧ Pw σ H, ⟨_, rfl, h0⟩, ?_⟩
  rintro m σ H ⟨rfl, p⟩
  refine hs σ H p (fun σ' H' => Pw σ' H' ∧ μ σ' H' < μ σ H) (fun σ' H' a b => ⟨a, b⟩) _ (fun H1 h => ?_) (fun H1 h => ?_)
  · rw [if_pos rfl]
    exact ⟨_, fun σ' H' ⟨p', l⟩ => ⟨_, l, rfl, p'⟩, h⟩
  · rw [if_neg Bool.false_ne_true]
    exact h
end CB
namespace CB
open PySem PySem.Spec PyProof.Rows L2
/-- a value's truth within a comprehension -/
theorem pt_truthK {X : Cx} {K : PySem.W.Frag} (h : X.K = K) {a : Expr} {ta : TE} (ha : PE X a ta) (he : ∀ whole, isTrue a X.env whole = (do let v ← whole; standAt a.pos; holding [v] (truthy v))) :
    PT X a (fun σ H Q => ta σ H fun x H' => ∃ k, TruV K x H' k ∧ Q k H') := by
  subst h
  exact pt_truth ha he
end CB
namespace L06
open PySem PySem.Spec PyProof.Rows L2 CB
def top (i : Nat) : Stmt := PySem.Challenge.pw_classledger_k06_primes_told.main.body.getD i (.Pass ⟨0, 0, 0, 0⟩)
structure Bl (mg : Str → Option Value) : Prop where
  abs : mg "abs" = none
  int : mg "int" = none
  bool : mg "bool" = none
  str : mg "str" = none
  tuple : mg "tuple" = none
  max : mg "max" = none
  min : mg "min" = none
  range : mg "range" = none
  isinstance : mg "isinstance" = none
  len : mg "len" = none
  all : mg "all" = none
  isqrt : mg "isqrt" = some (.builtin "math.isqrt")
  c_BOUND : ∃ t, mg "BOUND" = some (.int 3317044064679887385961981 t)
  c_TRIED_TO : ∃ t, mg "TRIED_TO" = some (.int 1000 t)
local macro_rules | `(tactic| walk_at "rd") => `(tactic| simp (maxSteps := 2000000) only [CB.rd_var, CB.rd_C, CB.rd_op, CB.rd_un, CB.rd_I, CB.rd_I0, CB.rd_U, CB.rd_Eq, CB.rd_Ne, CB.rd_test, CB.rd_B, CB.rd_and, CB.rd_or, CB.rd_not, CB.rd_andV, CB.rd_orV, CB.rd_notV, CB.rd_if, CB.rd_chain, CB.rd_chain3,
  CB.rd_next, CB.rd_seq, CB.rd_drop, CB.rd_ret, CB.rd_retN, CB.rd_break, CB.rd_cont, CB.rd_ifS, CB.rd_asg, CB.rd_name, CB.rd_gsub, CB.rd_gtup, CB.rd_gcons, CB.rd_gnil, CB.rd_par, CB.rd_aug, CB.rd_ipI, CB.rd_nil, CB.rd_cons, CB.rd_tup, CB.rd_lst, CB.rd_CB, CB.rd_call, CB.rd_callS, CB.rd_ixL, CB.rd_ixT, CB.rd_setL, CB.rd_putS, CB.rd_isqrt, CB.rd_sum, CB.rd_append, CB.rd_forL, CB.rd_forT, CB.rd_forR1, CB.rd_forR2, CB.rd_forR3, CB.rd_lcL, CB.rd_lcT, CB.rd_lcR1, CB.rd_lcR2, CB.rd_yes, CB.rd_sl, CB.rd_noPart, CB.rd_part, CB.rd_slL, CB.rd_wipe0, CB.rd_rep, CB.rd_tupOf, CB.rd_lenS, CB.rd_gcd, CB.rd_wipe1, CB.rd_sorted3, CB.rd_any, CB.rd_all, CB.rd_ext, CB.rd_glst, CB.rd_sortedM, CB.rd_minD, CB.rd_indexD, CB.rd_pop, CB.rd_dnew, CB.rd_dget, CB.rd_dget2, CB.rd_dput, CB.rd_dm, CB.rd_catA, CB.rd_slA, CB.rd_repT, CB.rd_anyI,
  L2.start, List.map_cons, List.map_nil, List.length_cons, List.length_nil, Nat.reduceAdd, Nat.reduceSub, List.replicate_succ, List.replicate_zero,
  V.int.injEq, V.ref.injEq, V.bl.injEq, V.str.injEq, Option.some.injEq, List.cons.injEq, exists_and_left, exists_eq_left', exists_eq_left, reduceCtorEq, false_and, and_false, or_false, false_or, exists_false, exists_const, and_assoc, true_and, and_true,
  CB.scal_int, CB.scal_str, CB.dec_ii, CB.ite_dec, CB.ite_ndec, List.getElem?_cons_zero, List.getElem?_cons_succ, List.set_cons_zero, List.set_cons_succ, List.append_nil, List.cons_append, List.nil_append, if_true, if_false, Bool.false_eq_true, Bool.not_true, Bool.not_false, CB.K_nox, CB.K_cxOf, eq_self])
local macro_rules | `(tactic| walk_at "rs") => `(tactic| simp (maxSteps := 2000000) only [CB.rd_var, CB.rd_C, CB.rd_op, CB.rd_un, CB.rd_I, CB.rd_I0, CB.rd_U, CB.rd_Eq, CB.rd_Ne, CB.rd_test, CB.rd_B, CB.rd_and, CB.rd_or, CB.rd_not, CB.rd_andV, CB.rd_orV, CB.rd_notV, CB.rd_if, CB.rd_chain, CB.rd_chain3,
  CB.rd_next, CB.rd_drop, CB.rd_ret, CB.rd_retN, CB.rd_break, CB.rd_cont, CB.rd_ifS, CB.rd_asg, CB.rd_name, CB.rd_gsub, CB.rd_gtup, CB.rd_gcons, CB.rd_gnil, CB.rd_par, CB.rd_aug, CB.rd_ipI, CB.rd_nil, CB.rd_cons, CB.rd_tup, CB.rd_lst, CB.rd_CB, CB.rd_call, CB.rd_callS, CB.rd_ixL, CB.rd_ixT, CB.rd_setL, CB.rd_putS, CB.rd_isqrt, CB.rd_sum, CB.rd_append, CB.rd_forL, CB.rd_forT, CB.rd_forR1, CB.rd_forR2, CB.rd_forR3, CB.rd_lcL, CB.rd_lcT, CB.rd_lcR1, CB.rd_lcR2, CB.rd_yes, CB.rd_sl, CB.rd_noPart, CB.rd_part, CB.rd_slL, CB.rd_wipe0, CB.rd_rep, CB.rd_tupOf, CB.rd_lenS, CB.rd_gcd, CB.rd_wipe1, CB.rd_sorted3, CB.rd_any, CB.rd_all, CB.rd_ext, CB.rd_glst, CB.rd_sortedM, CB.rd_minD, CB.rd_indexD, CB.rd_pop, CB.rd_dnew, CB.rd_dget, CB.rd_dget2, CB.rd_dput, CB.rd_dm, CB.rd_catA, CB.rd_slA, CB.rd_repT, CB.rd_anyI,
  L2.start, List.map_cons, List.map_nil, List.length_cons, List.length_nil, Nat.reduceAdd, Nat.reduceSub, List.replicate_succ, List.replicate_zero,
  V.int.injEq, V.ref.injEq, V.bl.injEq, V.str.injEq, Option.some.injEq, List.cons.injEq, exists_and_left, exists_eq_left', exists_eq_left, reduceCtorEq, false_and, and_false, or_false, false_or, exists_false, exists_const, and_assoc, true_and, and_true,
  CB.scal_int, CB.scal_str, CB.dec_ii, CB.ite_dec, CB.ite_ndec, List.getElem?_cons_zero, List.getElem?_cons_succ, List.set_cons_zero, List.set_cons_succ, List.append_nil, List.cons_append, List.nil_append, if_true, if_false, Bool.false_eq_true, Bool.not_true, Bool.not_false, CB.K_nox, CB.K_cxOf, eq_self])

local macro_rules | `(tactic| walk_at "nx") => `(tactic| (show tSeq _ _ _ _ _; rw [CB.rd_seq]; walk_at "rs"))


section
variable {P : Program} {w : World} {K : PySem.W.Frag} {mg : Str → Option Value} {base : Heap}
/-! ### the draws -/
abbrev s__law_take : Stmt := top 17
theorem sc__law_take : FnScope ["state", "m", "value"] ["state", "m"] (defScope s__law_take) := ⟨rfl, rfl, rfl, by decide +kernel, rfl, by decide +kernel, by decide +kernel⟩

def spTake : Sp := fun vs H Q _ => ∃ (a : Addr) (x y m : Int), vs = [.ref a, .int m] ∧ H a = some (.lst [.int x, .int y]) ∧ 0 < m ∧ m.natAbs.log2 < 9000 ∧
  ∀ v x' y' : Int, 0 ≤ v → v < m → Q (.int v) (upd H a (.lst [.int x', .int y']))
theorem cal_take (D : Dn K mg "_law_take" s__law_take ["state", "m"]) (B : Bl mg) : Cal P w K mg base "_law_take" 1 ["state", "m"] spTake := by
  refine D.cal sc__law_take (fun vs H Q E h => ?_) (fun f cdv A outer s H vs Q E hr h => ?_)
  · obtain ⟨a, x, y, m, rfl, _⟩ := h
    rfl
  · obtain ⟨a, x, y, m, rfl, ha, hm, hz, q⟩ := h
    refine ⟨_, (pss_cons (ps_if (pt_cmpR op_gt (pe_ix ix_list (pv 0) pe_int (fun _ _ => rfl)) pe_int (nomark _)) (pss_cons (ps_set (i := 2) sc__law_take.nd rfl (Or.inl rfl) (pe_op op_mod (pe_callTy call_int1 rfl B.int boot_int (pa_cons (pe_ix ix_list (pv 0) pe_int (fun _ _ => rfl)) pa_nil)) (pv 1)))
  (pss_cons (ps_asg (pe_op op_fdivW (pe_ix ix_list (pv 0) pe_int (fun _ _ => rfl)) (pv 1)) (pg_sub (pv 0) pe_int set_list))
  (pss_one (ps_ret (pv 2))))) pss_nil)
  (pss_cons (ps_asg (pe_op op_mod (pe_callTy call_int1 rfl B.int boot_int (pa_cons (pe_op op_add (pe_op op_mulI (pe_ix ix_list (pv 0) pe_int (fun _ _ => rfl)) pe_int) pe_int) pa_nil)) pe_int) (pg_sub (pv 0) pe_int set_list))
  (pss_one (ps_ret (pe_op op_mod (pe_callTy call_int1 rfl B.int boot_int (pa_cons (pe_op op_fdivW (pe_ix ix_list (pv 0) pe_int (fun _ _ => rfl)) pe_int) pa_nil)) (pv 1)))))), ?_⟩
    walk_at "rd"
    refine ⟨_, SqL.of ha, _, rfl, _, rfl, ite2 (fun h => ?_) (fun h => ?_)⟩
    · refine ⟨_, SqL.of ha, _, rfl, .inl ⟨_, rfl, hm, _, SqL.of ha, _, rfl, _, rfl, ⟨hm, hz⟩, _, ha, _, rfl, ?_⟩⟩
      exact q _ _ _ (Int.emod_nonneg _ (by omega)) (Int.emod_lt_of_pos _ hm)
    · refine ⟨_, SqL.of ha, _, rfl, _, rfl, mulR (by decide), by decide, _, ha, _, rfl, _, SqL.of upd_same, _, rfl, _, rfl, ⟨by decide, by decide +kernel⟩, hm, ?_⟩
      exact q _ _ _ (Int.emod_nonneg _ (by omega)) (Int.emod_lt_of_pos _ hm)
abbrev s__law_state : Stmt := top 16
theorem sc__law_state : FnScope ["script", "seed", "total", "cell"] ["script"] (defScope s__law_state) := ⟨rfl, rfl, rfl, by decide +kernel, rfl, by decide +kernel, by decide +kernel⟩

def spState (K : PySem.W.Frag) : Sp := fun vs H Q _ => ∃ (a : Addr) (ns : List Int), vs = [.ref a] ∧ SqL K H a (ns.map V.int) ∧ ns.length ≤ 63 ∧
  ∀ (p : Addr) (x y : Int) (H' : Hp), Same H H' → H p = none → H' p = some (.lst [.int x, .int y]) → Q (.ref p) H'
theorem cutV63 {ns : List Int} (h : ns.length ≤ 63) : cutV (ns.map V.int) none (some 63) = ns.map V.int := by
  unfold cutV
  rw [HT.sIx_none, show HT.sIx (ns.map V.int).length (ns.map V.int).length (some 63) = min 63 (ns.map V.int).length from HT.sIx_nat _ _ 63, List.length_map, List.drop_zero]
  rw [show min 63 ns.length - 0 = (ns.map V.int).length by rw [List.length_map]; omega, List.take_length]
theorem cal_state (D : Dn K mg "_law_state" s__law_state ["script"]) (B : Bl mg) : Cal P w K mg base "_law_state" 1 ["script"] (spState K) := by
  refine D.cal sc__law_state (fun vs H Q E h => ?_) (fun f cdv A outer s H vs Q E hr h => ?_)
  · obtain ⟨a, ns, rfl, _⟩ := h
    rfl
  · obtain ⟨a, ns, rfl, hS, hl, q⟩ := h
    refine ⟨_, (pss_cons (ps_set (i := 1) sc__law_state.nd rfl (Or.inl rfl) pe_int)
  (pss_cons (ps_set (i := 2) sc__law_state.nd rfl (Or.inl rfl) pe_int)
  (pss_cons (ps_for PassesOwn.never rfl (pi_list (pe_slice sl_list (pv 0) po_none (po_some pe_int))) (pg_name (i := 3) sc__law_state.nd rfl (Or.inl rfl)) (pss_cons (ps_set (i := 1) sc__law_state.nd rfl (Or.inl rfl) (pe_op op_add (pe_op op_mulI (pv 1) pe_int) (pe_callB call_abs rfl B.abs (by decide +kernel) (pa_cons (pv 3) pa_nil))))
  (pss_one (ps_set (i := 2) sc__law_state.nd rfl (Or.inl rfl) (pe_op op_mod (pe_callTy call_int1 rfl B.int boot_int (pa_cons (pe_op op_add (pe_op op_mulI (pv 2) pe_int) (pv 3)) pa_nil)) pe_int)))))
  (pss_one (ps_ret (pe_lst (pa_cons (pv 1) (pa_cons (pv 2) pa_nil)))))))), ?_⟩
    walk_at "rd"
    refine ⟨_, hS, fun c nc => ?_⟩
    rw [cutV63 hl]
    have hc : SqL K (upd H c (.lst (ns.map V.int))) c (ns.map V.int) := SqL.of upd_same
    refine ⟨⟨_, hc⟩, ForL.mk (xs := ns.map V.int) (fun _ σ H' => ∃ x y z, σ = [some (.ref a), some (.int x), some (.int y), z] ∧ H' = upd H c (.lst (ns.map V.int))) ⟨_, _, _, rfl, rfl⟩ ?_ ?_ ?_⟩
    · rintro i σ H' _ ⟨x, y, z, rfl, rfl⟩
      exact hc
    · rintro i v σ H' hv ⟨x, y, z, rfl, rfl⟩
      rw [List.getElem?_map] at hv
      obtain ⟨n, _, rfl⟩ := Option.map_eq_some_iff.mp hv
      walk_at "rd"
      exact ⟨mulR (by decide), mulR (by decide), by decide, _, rfl⟩
    · rintro σ H' ⟨x, y, z, rfl, rfl⟩
      walk_at "rd"
      refine ⟨by decide, fun p np => q p x y _ ((same_upd nc).trans (same_upd np)) ((same_upd nc).free np) upd_same⟩
/-! ### kinds of values -/
def kinds : List String := ["int", "bool", "NoneType", "str", "tuple", "list"]
theorem kit_k {T c : String} (hT : T ∈ kinds) (hc : c ∈ ["int", "bool", "str", "tuple"]) : kitB T c = some (T == c || (T == "bool" && c == "int")) := by
  unfold kinds at hT
  simp only [List.mem_cons, List.not_mem_nil, or_false] at hT hc
  rcases hT with rfl | rfl | rfl | rfl | rfl | rfl <;> rcases hc with rfl | rfl | rfl | rfl <;> decide +kernel
end

section
variable {P : Program} {w : World} {K : PySem.W.Frag} {mg : Str → Option Value} {base : Heap} {CM CR : Addr}
/-! ### values of any kind, told by the heap -/
/-- tuples are kept, and all lists but the one at st -/
def Kp (st : Addr) (H H' : Hp) : Prop := (∀ b us, H b = some (.tup us) → H' b = some (.tup us)) ∧ ∀ b us, b ≠ st → H b = some (.lst us) → H' b = some (.lst us)
/-- all but the list at st is kept -/
def But (st : Addr) (H H' : Hp) : Prop := ∀ b o, b ≠ st → H b = some o → H' b = some o
theorem But.refl {st : Addr} {H : Hp} : But st H H := fun _ _ _ e => e
theorem But.trans {st : Addr} {H H1 H2 : Hp} (a : But st H H1) (b : But st H1 H2) : But st H H2 := fun c o n e => b c o n (a c o n e)
theorem But.same {st : Addr} {H H1 H2 : Hp} (a : But st H H1) (b : Same H1 H2) : But st H H2 := fun c o n e => b c o (a c o n e)
theorem But.of {st : Addr} {H H1 : Hp} (b : Same H H1) : But st H H1 := fun c o n e => b c o e
theorem But.upd {st : Addr} {H H1 : Hp} {o : HO} (a : But st H H1) : But st H (upd H1 st o) := fun c o n e => by
  rw [upd_ne n]
  exact a c o n e
theorem Kp.refl {st : Addr} {H : Hp} : Kp st H H := ⟨fun _ _ e => e, fun _ _ _ e => e⟩
theorem Kp.of {st : Addr} {H H' : Hp} (s : Same H H') : Kp st H H' := ⟨fun _ _ e => s _ _ e, fun _ _ _ e => s _ _ e⟩
theorem But.kp {st : Addr} {H H' : Hp} {l : List V} (s : But st H H') (hs : H st = some (.lst l)) : Kp st H H' := ⟨fun _ _ e => s _ _ (ne_of e hs (by intro z; cases z)) e, fun _ _ n e => s _ _ n e⟩
theorem Kp.trans {st : Addr} {H H1 H2 : Hp} (a : Kp st H H1) (b : Kp st H1 H2) : Kp st H H2 := ⟨fun _ _ e => b.1 _ _ (a.1 _ _ e), fun _ _ n e => b.2 _ _ n (a.2 _ _ n e)⟩
def kdV : V → String
  | .bl _ => "bool"
  | .non => "NoneType"
  | .str _ => "str"
  | _ => "int"
def flV : V → Bool
  | .int _ => true
  | .bl _ => true
  | .non => true
  | .str _ => true
  | _ => false
/-- v is of the kind T -/
def KdH (st : Addr) (H : Hp) (v : V) (T : String) : Prop := (flV v = true ∧ T = kdV v) ∨ ∃ p, v = .ref p ∧ ((p ≠ st ∧ T = "list" ∧ ∃ l, H p = some (.lst l)) ∨ (T = "tuple" ∧ ∃ l, H p = some (.tup l)))
theorem KdH.ty {st : Addr} {H : Hp} {v : V} {T : String} (h : KdH st H v T) : TyX K H v (.type T) ∧ T ∈ kinds := by
  rcases h with ⟨hf, rfl⟩ | ⟨p, rfl, ⟨_, rfl, l, e⟩ | ⟨rfl, l, e⟩⟩
  · cases v with
    | int n => exact ⟨.base (.int _), by show "int" ∈ kinds; decide⟩
    | bl b => exact ⟨.base (.bl _), by show "bool" ∈ kinds; decide⟩
    | non => exact ⟨.base .non, by show "NoneType" ∈ kinds; decide⟩
    | str s => exact ⟨.base (.str _), by show "str" ∈ kinds; decide⟩
    | _ => cases hf
  · exact ⟨.base (.lst e), by decide⟩
  · exact ⟨.base (.tup e), by decide⟩
theorem KdH.kp {st : Addr} {H H' : Hp} {v : V} {T : String} (s : Kp st H H') (h : KdH st H v T) : KdH st H' v T := by
  rcases h with h | ⟨p, rfl, ⟨n, rfl, l, e⟩ | ⟨rfl, l, e⟩⟩
  · exact .inl h
  · exact .inr ⟨p, rfl, .inl ⟨n, rfl, l, s.2 _ _ n e⟩⟩
  · exact .inr ⟨p, rfl, .inr ⟨rfl, l, s.1 _ _ e⟩⟩
def ItsH (st : Addr) (H : Hp) (xs : List V) (ts : List String) : Prop := ts.length = xs.length ∧ ∀ (i : Nat) (x : V) (t : String), xs[i]? = some x → ts[i]? = some t → KdH st H x t
theorem ItsH.kp {st : Addr} {H H' : Hp} {xs : List V} {ts : List String} (s : Kp st H H') (h : ItsH st H xs ts) : ItsH st H' xs ts := ⟨h.1, fun i x t hx ht => (h.2 i x t hx ht).kp s⟩
theorem itsH_flat {st : Addr} {H : Hp} {xs : List V} (h : xs.all flV = true) : ItsH st H xs (xs.map kdV) := by
  refine ⟨List.length_map _, fun i x t hx ht => ?_⟩
  rw [List.getElem?_map, hx] at ht
  cases ht
  exact .inl ⟨List.all_eq_true.mp h x (List.mem_of_getElem? hx), rfl⟩
theorem itsH_one {st : Addr} {H : Hp} {p : Addr} {xs : List V} (h : H p = some (.tup xs)) : ItsH st H [V.ref p] ["tuple"] := by
  refine ⟨rfl, fun i x t hx ht => ?_⟩
  match i, hx, ht with
  | 0, hx, ht =>
    cases hx
    cases ht
    exact .inr ⟨p, rfl, .inr ⟨rfl, _, h⟩⟩
  | n + 1, hx, ht => simp at hx
/-- no row of n integers -/
def BadH (n : Nat) (st : Addr) (H : Hp) (v : V) : Prop := (∃ T, KdH st H v T ∧ (T == "tuple") = false) ∨ ∃ (p : Addr) (xs : List V) (ts : List String), v = .ref p ∧ H p = some (.tup xs) ∧ ItsH st H xs ts ∧ xs.length < 1000 ∧ (xs.length ≠ n ∨ ts.all (· == "int") = false)
theorem BadH.kp {n : Nat} {st : Addr} {H H' : Hp} {v : V} (s : Kp st H H') (h : BadH n st H v) : BadH n st H' v := by
  rcases h with ⟨T, h, e⟩ | ⟨p, xs, ts, rfl, hp, hI, hl, hb⟩
  · exact .inl ⟨T, h.kp s, e⟩
  · exact .inr ⟨p, xs, ts, rfl, s.1 _ _ hp, hI.kp s, hl, hb⟩
end

/-! ### whole roots -/
def isq (n : Int) : Int := ((Float64.isqrt n.toNat : Nat) : Int)
theorem isq_nn (n : Int) : 0 ≤ isq n := Int.natCast_nonneg _
theorem isq_le {n : Int} (h : 0 ≤ n) : isq n * isq n ≤ n := by
  have a := (isqrt_spec n.toNat).1
  have b : ((Float64.isqrt n.toNat * Float64.isqrt n.toNat : Nat) : Int) ≤ ((n.toNat : Nat) : Int) := Int.ofNat_le.mpr a
  rw [Int.natCast_mul] at b
  unfold isq
  omega
theorem isq_lt {n : Int} (h : 0 ≤ n) : n < (isq n + 1) * (isq n + 1) := by
  have a := (isqrt_spec n.toNat).2
  have b : ((n.toNat : Nat) : Int) < (((Float64.isqrt n.toNat + 1) * (Float64.isqrt n.toNat + 1) : Nat) : Int) := Int.ofNat_lt.mpr a
  rw [Int.natCast_mul, Int.natCast_add] at b
  unfold isq
  have e : ((1 : Nat) : Int) = 1 := rfl
  rw [e] at b
  omega
theorem sq_lt {r s : Int} (hr : 0 ≤ r) (h : r * r < (s + 1) * (s + 1)) (hs : 0 ≤ s) : r ≤ s := by
  rcases Int.lt_or_le s r with q | q
  · have a : (s + 1) * (s + 1) ≤ r * r := Int.mul_le_mul (by omega) (by omega) (by omega) hr
    omega
  · exact q
theorem isq_uniq {n r : Int} (hr : 0 ≤ r) (h1 : r * r ≤ n) (h2 : n < (r + 1) * (r + 1)) : isq n = r := by
  have hn : 0 ≤ n := Int.le_trans (Int.mul_nonneg hr hr) h1
  have a := sq_lt hr (Int.lt_of_le_of_lt h1 (isq_lt hn)) (isq_nn n)
  have b := sq_lt (isq_nn n) (Int.lt_of_le_of_lt (isq_le hn) h2) hr
  omega
theorem isq_iff {n a : Int} (hn : 0 ≤ n) (ha : 0 ≤ a) : a * a ≤ n ↔ a ≤ isq n := by
  refine ⟨fun h => sq_lt ha (Int.lt_of_le_of_lt h (isq_lt hn)) (isq_nn n), fun h => ?_⟩
  exact Int.le_trans (Int.mul_le_mul h h ha (isq_nn n)) (isq_le hn)
theorem isq_self {n : Int} (h0 : 0 ≤ n) (h : n < 2) : isq n = n := by
  have e : n = 0 ∨ n = 1 := by omega
  rcases e with rfl | rfl
  · exact isq_uniq (by omega) (by omega) (by omega)
  · exact isq_uniq (by omega) (by omega) (by omega)
theorem isq_bd {n c : Int} (hn : 0 ≤ n) (hc : 0 ≤ c) (h : n < (c + 1) * (c + 1)) : isq n ≤ c := sq_lt (isq_nn n) (Int.lt_of_le_of_lt (isq_le hn) h) hc
/-- a bound that omega doesn't read -/
def BIG : Int := 2 ^ 3000
theorem BIG_pos : 1000000000000 < BIG := by decide +kernel
theorem BIG_big : BIG < 2 ^ 13000 := by decide +kernel
theorem bigAbs {i : Int} (h1 : -(16 * BIG) < i) (h2 : i < 16 * BIG) : i.natAbs < 2 ^ 3004 := by
  have e : (16 * BIG : Int) = ((2 ^ 3004 : Nat) : Int) := by decide +kernel
  rw [e] at h1 h2
  omega
theorem mulBig {i j : Int} (h1 : -(16 * BIG) < i) (h2 : i < 16 * BIG) (h3 : -(16 * BIG) < j) (h4 : j < 16 * BIG) : IntMulOk i j :=
  (wide_mul (bigAbs h1 h2) (bigAbs h3 h4) (by decide) (by decide) (by decide)).ok
theorem low_le {a n : Int} (h0 : 0 ≤ a) (h : a * a ≤ n) : a ≤ n := by
  rcases Int.lt_or_le 0 a with q | q
  · have := Int.mul_le_mul (show 1 ≤ a by omega) (Int.le_refl a) h0 h0
    omega
  · have e : a = 0 := by omega
    rw [e] at h
    omega
theorem small_size {n : Nat} (h : n ≤ 10000000) : n < sizeLine := by rw [PySem.sizeLine_eq]; omega
theorem iabs (i : Int) : (if i < 0 then -i else i) = (i.natAbs : Int) := by
  split <;> omega

/-! ### forms moved by matrices, products of matrices -/
section
variable {P : Program} {w : World} {K : PySem.W.Frag} {mg : Str → Option Value} {base : Heap} {CM CR : Addr}
/-- small enough for any product here -/
def Sz (n : Nat) (x : Int) : Prop := x.natAbs < 2 ^ n
theorem Sz.mul {m n : Nat} {x y : Int} (h : Sz m x) (h' : Sz n y) : Sz (m + n) (x * y) := by
  unfold Sz at *
  rw [Int.natAbs_mul, Nat.pow_add]
  exact Nat.mul_lt_mul'' h h'
theorem Sz.add {m : Nat} {x y : Int} (h : Sz m x) (h' : Sz m y) : Sz (m + 1) (x + y) := by
  unfold Sz at *
  rw [Nat.pow_succ]
  omega
theorem Sz.sub {m : Nat} {x y : Int} (h : Sz m x) (h' : Sz m y) : Sz (m + 1) (x - y) := by
  unfold Sz at *
  rw [Nat.pow_succ]
  omega
theorem Sz.neg {m : Nat} {x : Int} (h : Sz m x) : Sz m (-x) := by
  unfold Sz at *
  omega
theorem Sz.le {m n : Nat} {x : Int} (h : Sz m x) (hmn : m ≤ n) : Sz n x := Nat.lt_of_lt_of_le h (Nat.pow_le_pow_right (by decide) hmn)
theorem Sz.ok {m n : Nat} {x y : Int} (h : Sz m x) (h' : Sz n y) (hm : m ≤ 450000) (hn : n ≤ 450000) : IntMulOk x y :=
  (wide_mul (a := 450000) (b := 450000) (h.le hm) (h'.le hn) (by decide) (by decide) (by decide)).ok
theorem sz_lit : Sz 3 2 ∧ Sz 3 4 := by unfold Sz; decide
end

/-! ### the last one among the binary digits -/
theorem and_pred_odd (q : Nat) : (2 * q + 1) &&& (2 * q) = 2 * q := by
  have h1 : ((2 * q + 1) &&& (2 * q)) / 2 = q := by
    rw [Nat.and_div_two]
    rw [show (2 * q + 1) / 2 = q by omega, show 2 * q / 2 = q by omega, Nat.and_self]
  have h2 : ((2 * q + 1) &&& (2 * q)) % 2 = 0 := by
    have := Nat.and_mod_two_pow (a := 2 * q + 1) (b := 2 * q) (n := 1)
    rw [show (2 : Nat) ^ 1 = 2 from rfl, show (2 * q + 1) % 2 = 1 by omega, show 2 * q % 2 = 0 by omega] at this
    rw [this]
    rfl
  omega
theorem and_pred_even {b : Nat} (h : 0 < b) : (2 * b) &&& (2 * b - 1) = 2 * (b &&& (b - 1)) := by
  have h1 : ((2 * b) &&& (2 * b - 1)) / 2 = b &&& (b - 1) := by
    rw [Nat.and_div_two]
    rw [show 2 * b / 2 = b by omega, show (2 * b - 1) / 2 = b - 1 by omega]
  have h2 : ((2 * b) &&& (2 * b - 1)) % 2 = 0 := by
    have := Nat.and_mod_two_pow (a := 2 * b) (b := 2 * b - 1) (n := 1)
    rw [show (2 : Nat) ^ 1 = 2 from rfl, show 2 * b % 2 = 0 by omega, show (2 * b - 1) % 2 = 1 by omega] at this
    rw [this]
    rfl
  omega
theorem two_part : ∀ (a : Nat), 0 < a → ∃ v q, a = 2 ^ v * (2 * q + 1) ∧ a &&& (a - 1) = a - 2 ^ v := by
  intro a
  induction a using Nat.strongRecOn with
  | _ a ih =>
    intro h
    rcases Nat.mod_two_eq_zero_or_one a with e | e
    · obtain ⟨b, rfl⟩ : ∃ b, a = 2 * b := ⟨a / 2, by omega⟩
      obtain ⟨v, q, h1, h2⟩ := ih b (by omega) (by omega)
      refine ⟨v + 1, q, ?_, ?_⟩
      · rw [h1, Nat.pow_succ]; grind
      · rw [and_pred_even (by omega), h2, Nat.pow_succ]; omega
    · obtain ⟨q, rfl⟩ : ∃ q, a = 2 * q + 1 := ⟨a / 2, by omega⟩
      refine ⟨0, q, by omega, ?_⟩
      rw [show 2 * q + 1 - 1 = 2 * q by omega, and_pred_odd]
theorem bit_low {a : Nat} (h : 0 < a) : ∃ v q, a = 2 ^ v * (2 * q + 1) ∧ Builtin.bitAnd (a : Int) (-(a : Int)) = ((2 ^ v : Nat) : Int) := by
  obtain ⟨v, q, h1, h2⟩ := two_part a h
  refine ⟨v, q, h1, ?_⟩
  unfold Builtin.bitAnd
  rw [decide_eq_true (show (0 : Int) ≤ (a : Int) by omega), decide_eq_false (show ¬ (0 : Int) ≤ -(a : Int) by omega)]
  show (a : Int) - (((a : Int).toNat &&& (Builtin.bitNot (-(a : Int))).toNat : Nat) : Int) = _
  have e : (Builtin.bitNot (-(a : Int))).toNat = a - 1 := by unfold Builtin.bitNot; omega
  rw [e, Int.toNat_natCast, h2]
  have : 2 ^ v ≤ a := by rw [h1]; exact Nat.le_mul_of_pos_right _ (by omega)
  omega
theorem or_even (x y : Int) : (Builtin.bitOr x y) % 2 = 0 ↔ x % 2 = 0 ∧ y % 2 = 0 := by
  have key : ∀ x y : Int, (Builtin.bitAnd x y) % 2 = 1 ↔ x % 2 = 1 ∧ y % 2 = 1 := by
    intro x y
    have am : ∀ m n : Nat, (m &&& n) % 2 = 1 ↔ m % 2 = 1 ∧ n % 2 = 1 := fun m n => by
      have := Nat.and_mod_two_pow (a := m) (b := n) (n := 1)
      rw [show (2 : Nat) ^ 1 = 2 from rfl] at this
      rw [this]
      rcases Nat.mod_two_eq_zero_or_one m with a | a <;> rcases Nat.mod_two_eq_zero_or_one n with b | b <;> rw [a, b] <;> decide
    have om : ∀ m n : Nat, (m ||| n) % 2 = 0 ↔ m % 2 = 0 ∧ n % 2 = 0 := fun m n => by
      have := Nat.or_mod_two_pow (a := m) (b := n) (n := 1)
      rw [show (2 : Nat) ^ 1 = 2 from rfl] at this
      rw [this]
      rcases Nat.mod_two_eq_zero_or_one m with a | a <;> rcases Nat.mod_two_eq_zero_or_one n with b | b <;> rw [a, b] <;> decide
    unfold Builtin.bitAnd
    by_cases hx : 0 ≤ x <;> by_cases hy : 0 ≤ y
    · rw [decide_eq_true hx, decide_eq_true hy]
      have := am x.toNat y.toNat
      show ((x.toNat &&& y.toNat : Nat) : Int) % 2 = 1 ↔ _
      omega
    · rw [decide_eq_true hx, decide_eq_false hy]
      have := am x.toNat (Builtin.bitNot y).toNat
      show (x - ((x.toNat &&& (Builtin.bitNot y).toNat : Nat) : Int)) % 2 = 1 ↔ _
      have e : ((Builtin.bitNot y).toNat : Int) = -y - 1 := by unfold Builtin.bitNot; omega
      omega
    · rw [decide_eq_false hx, decide_eq_true hy]
      have := am y.toNat (Builtin.bitNot x).toNat
      show (y - ((y.toNat &&& (Builtin.bitNot x).toNat : Nat) : Int)) % 2 = 1 ↔ _
      have e : ((Builtin.bitNot x).toNat : Int) = -x - 1 := by unfold Builtin.bitNot; omega
      omega
    · rw [decide_eq_false hx, decide_eq_false hy]
      have := om (Builtin.bitNot x).toNat (Builtin.bitNot y).toNat
      show (Builtin.bitNot (((Builtin.bitNot x).toNat ||| (Builtin.bitNot y).toNat : Nat) : Int)) % 2 = 1 ↔ _
      have e : ((Builtin.bitNot x).toNat : Int) = -x - 1 := by unfold Builtin.bitNot; omega
      have e2 : ((Builtin.bitNot y).toNat : Int) = -y - 1 := by unfold Builtin.bitNot; omega
      unfold Builtin.bitNot at *
      omega
  unfold Builtin.bitOr
  have k := key (Builtin.bitNot x) (Builtin.bitNot y)
  unfold Builtin.bitNot at *
  omega
theorem and34 (a n : Nat) : (Builtin.bitAnd (Builtin.bitAnd (a : Int) (n : Int)) 3 = 3) ↔ (a % 4 = 3 ∧ n % 4 = 3) := by
  rw [PyProof.Rows.bitAnd_m2]
  have e : Builtin.bitAnd (a : Int) (n : Int) = ((a &&& n : Nat) : Int) := by
    rw [PyProof.Rows.bitAnd_pp (by omega) (by omega), Int.toNat_natCast, Int.toNat_natCast]
  rw [e]
  have := Nat.and_mod_two_pow (a := a) (b := n) (n := 2)
  rw [show (2 : Nat) ^ 2 = 4 from rfl] at this
  have e2 : ((a &&& n : Nat) : Int) % 4 = 3 ↔ (a % 4 &&& n % 4) = 3 := by omega
  rw [e2]
  have h1 : a % 4 < 4 := Nat.mod_lt _ (by decide)
  have h2 : n % 4 < 4 := Nat.mod_lt _ (by decide)
  generalize a % 4 = x at *
  generalize n % 4 = y at *
  have c1 : x = 0 ∨ x = 1 ∨ x = 2 ∨ x = 3 := by omega
  have c2 : y = 0 ∨ y = 1 ∨ y = 2 ∨ y = 3 := by omega
  rcases c1 with rfl | rfl | rfl | rfl <;> rcases c2 with rfl | rfl | rfl | rfl <;> decide

section
variable {P : Program} {w : World} {K : PySem.W.Frag} {mg : Str → Option Value} {base : Heap} {CM CR aU a1 a2 : Addr}
theorem natS {n : Nat} {x y : Int} (h : x.natAbs ≤ y.natAbs) (s : Sz n y) : Sz n x := Nat.lt_of_le_of_lt h s
theorem nzI {n : Int} : (n != 0) = !decide (n = 0) := by
  by_cases h : n = 0
  · subst h; rfl
  · rw [decide_eq_false h]
    simp [h]
theorem pow_stepI {b : Int} {e : Nat} : b ^ e = (if e % 2 = 1 then b else 1) * (b * b) ^ (e / 2) := by
  have h : (b * b) ^ (e / 2) = b ^ (2 * (e / 2)) := by
    rw [Int.pow_mul]
    congr 1
    rw [Int.pow_succ, Int.pow_succ, Int.pow_zero, Int.one_mul]
  rw [h]
  split
  · rw [Int.mul_comm, ← Int.pow_succ]
    congr 1; omega
  · rw [Int.one_mul]
    congr 1; omega
theorem mod_mul_pow {r b m : Int} (e : Nat) : ((r % m) * (b % m) ^ e) % m = (r * b ^ e) % m := by
  rw [Int.mul_emod, Int.emod_emod]
  have : ∀ e : Nat, ((b % m) ^ e) % m = (b ^ e) % m := fun e => by
    induction e with
    | zero => rw [Int.pow_zero, Int.pow_zero]
    | succ n ih =>
      rw [Int.pow_succ, Int.pow_succ, Int.mul_emod, ih, Int.emod_emod, ← Int.mul_emod]
  rw [this, ← Int.mul_emod]
abbrev s_power : Stmt := top 5
theorem sc_power : FnScope ["a", "e", "m", "result"] ["a", "e", "m"] (defScope s_power) := ⟨rfl, rfl, rfl, by decide +kernel, rfl, by decide +kernel, by decide +kernel⟩

def spPow : Sp := fun vs H Q _ => ∃ (a m : Int) (e : Nat), vs = [.int a, .int e, .int m] ∧ 0 < m ∧ Sz 600 m ∧ Q (.int ((a ^ e) % m)) H
theorem cal_pow (D : Dn K mg "power" s_power ["a", "e", "m"]) (B : Bl mg) : Cal P w K mg base "power" 1 ["a", "e", "m"] spPow := by
  refine D.cal sc_power (fun vs H Q E h => ?_) (fun f cdv A outer s H vs Q E hr h => ?_)
  · obtain ⟨a, m, e, rfl, _⟩ := h
    rfl
  · obtain ⟨a, m, e, rfl, m0, zm, q⟩ := h
    refine ⟨_, (pss_cons (ps_set (i := 3) sc_power.nd rfl (Or.inl rfl) (pe_op op_mod pe_int (pv 2)))
  (pss_cons (ps_aug (i := 0) sc_power.nd rfl (Or.inl rfl) (pv 2) iop_mod)
  (pss_cons (ps_while PassesOwn.never (pt_truth (pv 1) (by intro _; rfl)) (pss_cons (ps_if (pt_truth (pe_op op_and (pv 1) pe_int) (by intro _; rfl)) (pss_one (ps_set (i := 3) sc_power.nd rfl (Or.inl rfl) (pe_op op_mod (pe_op op_mulI (pv 3) (pv 0)) (pv 2)))) pss_nil)
  (pss_cons (ps_aug (i := 1) sc_power.nd rfl (Or.inl rfl) pe_int iop_shr)
  (pss_one (ps_if (pt_truth (pv 1) (by intro _; rfl)) (pss_one (ps_set (i := 0) sc_power.nd rfl (Or.inl rfl) (pe_op op_mod (pe_op op_mulI (pv 0) (pv 0)) (pv 2)))) pss_nil)))))
  (pss_one (ps_ret (pv 3)))))), ?_⟩
    rw [CB.rd_seq]
    walk_at "rs"
    refine ⟨m0, ?_⟩
    rw [CB.rd_seq]
    walk_at "rs"
    refine ⟨m0, ?_⟩
    rw [CB.rd_seq]
    have md : ∀ z : Int, 0 ≤ z % m ∧ z % m < m := fun z => ⟨Int.emod_nonneg z (by omega), Int.emod_lt_of_pos z m0⟩
    refine while_w (fun σ H' => ∃ (b r : Int) (e' : Nat), σ = [some (.int b), some (.int e'), some (.int m), some (.int r)] ∧ H' = H ∧ (0 ≤ b ∧ b < m) ∧ (0 ≤ r ∧ r < m) ∧ (r * b ^ e') % m = (a ^ e) % m)
      (fun σ _ => match σ with | [_, some (.int e'), _, _] => e'.toNat | _ => 0) ⟨a % m, 1 % m, e, rfl, rfl, md _, md _, by rw [mod_mul_pow, Int.one_mul]⟩ ?_
    rintro σ H' ⟨b, r, e', rfl, rfl, hb0, hr0, inv⟩ N hN
    refine ⟨decide (e' ≠ 0), fun Q' q' => ?_, fun hb => ?_, fun hb => ?_⟩
    · walk_at "rd"
      refine ⟨_, rfl, ?_⟩
      have e1 : ((e' : Int) != 0) = decide (e' ≠ 0) := by
        rw [nzI]
        by_cases c : e' = 0
        · subst c; rfl
        · rw [decide_eq_true c, decide_eq_false (by omega)]; rfl
      rw [e1]
      exact q'
    · have he : e' ≠ 0 := of_decide_eq_true hb
      have zb : Sz 600 b := natS (by omega) zm
      have zr : Sz 600 r := natS (by omega) zm
      have fin : ∀ r1 : Int, (0 ≤ r1 ∧ r1 < m) → (r1 * (b * b) ^ (e' / 2)) % m = (a ^ e) % m → ∃ k, TruV K (V.int ((e' : Int) / 2 ^ Int.toNat 1)) H' k ∧ if k = true then IntMulOk b b ∧ 0 < m ∧ N [some (V.int ((b * b) % m)), some (V.int ((e' : Int) / 2 ^ Int.toNat 1)), some (V.int m), some (V.int r1)] H' else N [some (V.int b), some (V.int ((e' : Int) / 2 ^ Int.toNat 1)), some (V.int m), some (V.int r1)] H' := fun r1 h1 h2 => by
        have e2 : (e' : Int) / 2 ^ Int.toNat 1 = ((e' / 2 : Nat) : Int) := by
          show (e' : Int) / 2 = _
          omega
        rw [e2]
        refine ⟨_, rfl, ?_⟩
        rw [nzI]
        by_cases c : e' / 2 = 0
        · rw [decide_eq_true (by omega), if_neg (by decide)]
          refine hN _ _ ⟨b, r1, e' / 2, rfl, rfl, hb0, h1, ?_⟩ (by show ((e' / 2 : Nat) : Int).toNat < (e' : Int).toNat; omega)
          rw [c, Int.pow_zero] at h2 ⊢
          exact h2
        · rw [decide_eq_false (by omega), if_pos (show (!false) = true from rfl)]
          refine ⟨zb.ok zb (by decide) (by decide), m0, hN _ _ ⟨(b * b) % m, r1, e' / 2, rfl, rfl, md _, h1, ?_⟩ (by show ((e' / 2 : Nat) : Int).toNat < (e' : Int).toNat; omega)⟩
          have hh := mod_mul_pow (r := r1) (b := b * b) (m := m) (e' / 2)
          rw [Int.emod_eq_of_lt h1.1 h1.2] at hh
          rw [hh]
          exact h2
      rw [pow_stepI] at inv
      walk_at "rd"
      refine ⟨_, rfl, ?_⟩
      rw [PyProof.Rows.bitAnd_m1, nzI]
      by_cases c : e' % 2 = 0
      · rw [decide_eq_true (by omega), if_neg (by decide)]
        rw [if_neg (by omega), Int.one_mul] at inv
        exact ⟨by decide, fin r hr0 inv⟩
      · rw [decide_eq_false (by omega), if_pos (show (!false) = true from rfl)]
        rw [if_pos (by omega), ← Int.mul_assoc] at inv
        refine ⟨zr.ok zb (by decide) (by decide), m0, by decide, fin _ (md _) ?_⟩
        rw [← inv, Int.mul_emod, Int.emod_emod, ← Int.mul_emod]
    · have he : e' = 0 := by
        have := of_decide_eq_false hb
        omega
      subst he
      rw [Int.pow_zero, Int.mul_one, Int.emod_eq_of_lt hr0.1 hr0.2] at inv
      walk_at "rd"
      rw [inv]
      exact q
end

section
variable {P : Program} {w : World} {K : PySem.W.Frag} {mg : Str → Option Value} {base : Heap} {CM CR aU a1 a2 : Addr}
abbrev s__law_powered : Stmt := top 24
theorem sc__law_powered : FnScope ["a", "e", "m", "found", "base"] ["a", "e", "m"] (defScope s__law_powered) := ⟨rfl, rfl, rfl, by decide +kernel, rfl, by decide +kernel, by decide +kernel⟩

theorem cal_lpow (D : Dn K mg "_law_powered" s__law_powered ["a", "e", "m"]) (B : Bl mg) : Cal P w K mg base "_law_powered" 1 ["a", "e", "m"] spPow := by
  refine D.cal sc__law_powered (fun vs H Q E h => ?_) (fun f cdv A outer s H vs Q E hr h => ?_)
  · obtain ⟨a, m, e, rfl, _⟩ := h
    rfl
  · obtain ⟨a, m, e, rfl, m0, zm, q⟩ := h
    refine ⟨_, (pss_cons (ps_par (i := 3) (j := 4) rfl sc__law_powered.nd rfl rfl (by decide) rfl rfl (pa_cons (pe_op op_mod (pe_callTy call_int1 rfl B.int boot_int (pa_cons pe_int pa_nil)) (pv 2)) (pa_cons (pe_op op_mod (pe_callTy call_int1 rfl B.int boot_int (pa_cons (pv 0) pa_nil)) (pv 2)) pa_nil)) (by rfl))
  (pss_cons (ps_while PassesOwn.never (pt_cmpR op_gt (pv 1) pe_int (nomark _)) (pss_cons (ps_if (pt_cmpR op_eq (pe_op op_mod (pe_callTy call_int1 rfl B.int boot_int (pa_cons (pv 1) pa_nil)) pe_int) pe_int (nomark _)) (pss_one (ps_set (i := 3) sc__law_powered.nd rfl (Or.inl rfl) (pe_op op_mod (pe_callTy call_int1 rfl B.int boot_int (pa_cons (pe_op op_mulI (pv 3) (pv 4)) pa_nil)) (pv 2)))) pss_nil)
  (pss_cons (ps_set (i := 4) sc__law_powered.nd rfl (Or.inl rfl) (pe_op op_mod (pe_callTy call_int1 rfl B.int boot_int (pa_cons (pe_op op_mulI (pv 4) (pv 4)) pa_nil)) (pv 2)))
  (pss_one (ps_set (i := 1) sc__law_powered.nd rfl (Or.inl rfl) (pe_op op_fdivW (pv 1) pe_int))))))
  (pss_one (ps_ret (pv 3))))), ?_⟩
    rw [CB.rd_seq]
    walk_at "rs"
    refine ⟨m0, m0, ?_⟩
    rw [CB.rd_seq]
    have md : ∀ z : Int, 0 ≤ z % m ∧ z % m < m := fun z => ⟨Int.emod_nonneg z (by omega), Int.emod_lt_of_pos z m0⟩
    refine while_w (fun σ H' => ∃ (b r : Int) (e' : Nat), σ = [some (.int a), some (.int e'), some (.int m), some (.int r), some (.int b)] ∧ H' = H ∧ (0 ≤ b ∧ b < m) ∧ (0 ≤ r ∧ r < m) ∧ (r * b ^ e') % m = (a ^ e) % m)
      (fun σ _ => match σ with | [_, some (.int e'), _, _, _] => e'.toNat | _ => 0) ⟨a % m, 1 % m, e, rfl, rfl, md _, md _, by rw [mod_mul_pow, Int.one_mul]⟩ ?_
    rintro σ H' ⟨b, r, e', rfl, rfl, hb0, hr0, inv⟩ N hN
    refine ⟨decide (0 < (e' : Int)), fun Q' q' => ?_, fun hb => ?_, fun hb => ?_⟩
    · walk_at "rd"
      exact q'
    · have he : 0 < (e' : Int) := of_decide_eq_true hb
      have zb : Sz 600 b := natS (by omega) zm
      have zr : Sz 600 r := natS (by omega) zm
      rw [pow_stepI] at inv
      have e2 : (e' : Int) / 2 = ((e' / 2 : Nat) : Int) := by omega
      have fin : ∀ r1 : Int, (0 ≤ r1 ∧ r1 < m) → (r1 * (b * b) ^ (e' / 2)) % m = (a ^ e) % m → N [some (.int a), some (.int ((e' : Int) / 2)), some (.int m), some (.int r1), some (.int ((b * b) % m))] H' := fun r1 h1 h2 => by
        rw [e2]
        refine hN _ _ ⟨(b * b) % m, r1, e' / 2, rfl, rfl, md _, h1, ?_⟩ (by show ((e' / 2 : Nat) : Int).toNat < (e' : Int).toNat; omega)
        have hh := mod_mul_pow (r := r1) (b := b * b) (m := m) (e' / 2)
        rw [Int.emod_eq_of_lt h1.1 h1.2] at hh
        rw [hh]
        exact h2
      rw [CB.rd_seq]
      walk_at "rs"
      refine ⟨by decide, ite2 (fun c => ?_) (fun c => ?_)⟩
      · rw [if_pos (by omega), ← Int.mul_assoc] at inv
        refine ⟨zr.ok zb (by decide) (by decide), m0, ?_⟩
        rw [CB.rd_seq]
        walk_at "rs"
        refine ⟨zb.ok zb (by decide) (by decide), m0, ⟨by decide, by decide +kernel⟩, fin _ (md _) ?_⟩
        rw [← inv, Int.mul_emod, Int.emod_emod, ← Int.mul_emod]
      · rw [if_neg (by omega), Int.one_mul] at inv
        rw [CB.rd_seq]
        walk_at "rs"
        exact ⟨zb.ok zb (by decide) (by decide), m0, ⟨by decide, by decide +kernel⟩, fin _ hr0 inv⟩
    · have he : e' = 0 := by
        have := of_decide_eq_false hb
        omega
      subst he
      rw [Int.pow_zero, Int.mul_one, Int.emod_eq_of_lt hr0.1 hr0.2] at inv
      walk_at "rd"
      rw [inv]
      exact q
end

/-! ### primes, rough numbers, squares in a number -/
def Prm (p : Nat) : Prop := 2 ≤ p ∧ ∀ e, 2 ≤ e → e < p → ¬ e ∣ p
theorem Prm.gcd {p a : Nat} (h : Prm p) : Nat.gcd p a = 1 ∨ p ∣ a := by
  have d := Nat.gcd_dvd_left p a
  have l := Nat.le_of_dvd (by have := h.1; omega) d
  rcases Nat.lt_or_ge (Nat.gcd p a) 2 with c | c
  · have : 0 < Nat.gcd p a := Nat.gcd_pos_of_pos_left _ (by have := h.1; omega)
    left; omega
  · rcases Nat.lt_or_ge (Nat.gcd p a) p with c2 | c2
    · exact absurd d (h.2 _ c c2)
    · right
      have e : Nat.gcd p a = p := by omega
      rw [← e]
      exact Nat.gcd_dvd_right p a
theorem Prm.euc {p a b : Nat} (h : Prm p) (d : p ∣ a * b) : p ∣ a ∨ p ∣ b := by
  rcases h.gcd (a := a) with g | g
  · exact .inr (Nat.Coprime.dvd_of_dvd_mul_left g d)
  · exact .inl g
theorem Prm.eq_of_dvd {p q : Nat} (h : Prm p) (h' : Prm q) (d : p ∣ q) : p = q := by
  have l := Nat.le_of_dvd (by have := h'.1; omega) d
  rcases Nat.lt_or_ge p q with c | c
  · exact absurd d (h'.2 p h.1 c)
  · omega
theorem ex_prm {n : Nat} (h : 2 ≤ n) : ∃ p, Prm p ∧ p ∣ n := by
  induction n using Nat.strongRecOn with
  | ind n ih =>
    rcases Classical.em (∃ e, 2 ≤ e ∧ e < n ∧ e ∣ n) with ⟨e, e2, en, ed⟩ | c
    · obtain ⟨p, hp, pd⟩ := ih e en e2
      exact ⟨p, hp, Nat.dvd_trans pd ed⟩
    · exact ⟨n, ⟨h, fun e e2 en ed => c ⟨e, e2, en, ed⟩⟩, Nat.dvd_refl n⟩
/-- a number without small divisors is a prime -/
theorem prm_of {n : Nat} (h : 2 ≤ n) (hd : ∀ e, 2 ≤ e → e * e ≤ n → ¬ e ∣ n) : Prm n := by
  refine ⟨h, fun e e2 en ed => ?_⟩
  obtain ⟨c, rfl⟩ := ed
  have c1 : 2 ≤ c := by
    rcases Nat.lt_or_ge c 2 with z | z
    · have : c = 0 ∨ c = 1 := by omega
      rcases this with rfl | rfl <;> omega
    · exact z
  rcases Nat.le_total e c with l | l
  · exact hd e e2 (Nat.mul_le_mul_left e l) (Nat.dvd_mul_right e c)
  · exact hd c c1 (Nat.mul_le_mul_right c l) (Nat.dvd_mul_left c e)
/-- what least_divisor tells, up to 1000 -/
def LD (n r : Nat) : Prop := (2 ≤ r ∧ r ∣ n ∧ ∀ e, 2 ≤ e → e < r → ¬ e ∣ n) ∨ (r = n ∧ ∀ e, 2 ≤ e → e ≤ 1000 → e * e ≤ n → ¬ e ∣ n)
theorem LD.of_prm {n r : Nat} (h : LD n r) (hp : Prm n) : r = n := by
  rcases h with ⟨r2, rd, hm⟩ | ⟨rfl, _⟩
  · have l := Nat.le_of_dvd (by have := hp.1; omega) rd
    rcases Nat.lt_or_ge r n with c | c
    · exact absurd rd (hp.2 r r2 c)
    · omega
  · rfl
/-! ### products -/
def prodL : List Nat → Nat
  | [] => 1
  | p :: ps => p * prodL ps
/-! ### fundamental discriminants -/
section
variable {P : Program} {w : World} {K : PySem.W.Frag} {mg : Str → Option Value} {base : Heap} {CM CR : Addr}
theorem dvdI {n d : Nat} : ((n : Int) % (d : Int) = 0) ↔ d ∣ n := by
  rw [Nat.dvd_iff_mod_eq_zero]
  have : (n : Int) % (d : Int) = ((n % d : Nat) : Int) := (Int.natCast_emod n d).symm
  omega
abbrev s_least_divisor : Stmt := top 11
theorem sc_least_divisor : FnScope ["n", "most", "d"] ["n", "most"] (defScope s_least_divisor) := ⟨rfl, rfl, rfl, by decide +kernel, rfl, by decide +kernel, by decide +kernel⟩

def spLeast : Sp := fun vs H Q _ => ∃ n : Nat, vs = [.int n, .int 1000] ∧ 0 < n ∧ (n : Int) < BIG ∧ ∀ (r : Nat) (H' : Hp), LD n r → Same H H' → Q (.int r) H'
/-- six further numbers -/
theorem six {n d : Nat} (h6 : d % 6 = 5) (h : ∀ e, 2 ≤ e → e < d → ¬ e ∣ n) (h0 : ¬ d ∣ n) (h2 : ¬ (d + 2) ∣ n) : ∀ e, 2 ≤ e → e < d + 6 → ¬ e ∣ n := by
  intro e e2 ed z
  rcases Nat.lt_or_ge e d with c | c
  · exact h e e2 c z
  · have two : ¬ 2 ∣ n := h 2 (by decide) (by omega)
    have three : ¬ 3 ∣ n := h 3 (by decide) (by omega)
    have cs : e = d ∨ e = d + 1 ∨ e = d + 2 ∨ e = d + 3 ∨ e = d + 4 ∨ e = d + 5 := by omega
    rcases cs with rfl | rfl | rfl | rfl | rfl | rfl
    · exact h0 z
    · exact two (Nat.dvd_trans (by omega) z)
    · exact h2 z
    · exact two (Nat.dvd_trans (by omega) z)
    · exact three (Nat.dvd_trans (by omega) z)
    · exact two (Nat.dvd_trans (by omega) z)
theorem five {n d : Nat} (h6 : d % 6 = 5) (h : ∀ e, 2 ≤ e → e < d → ¬ e ∣ n) (h0 : ¬ d ∣ n) : ∀ e, 2 ≤ e → e < d + 2 → ¬ e ∣ n := by
  intro e e2 ed z
  rcases Nat.lt_or_ge e d with c | c
  · exact h e e2 c z
  · have two : ¬ 2 ∣ n := h 2 (by decide) (by omega)
    have cs : e = d ∨ e = d + 1 := by omega
    rcases cs with rfl | rfl
    · exact h0 z
    · exact two (Nat.dvd_trans (by omega) z)
theorem cal_least (D : Dn K mg "least_divisor" s_least_divisor ["n", "most"]) (B : Bl mg) : Cal P w K mg base "least_divisor" 1 ["n", "most"] spLeast := by
  refine D.cal sc_least_divisor (fun vs H Q E h => ?_) (fun f cdv A outer s H vs Q E hr h => ?_)
  · obtain ⟨n, rfl, _⟩ := h
    rfl
  · obtain ⟨n, rfl, n0, nb, q⟩ := h
    refine ⟨_, (pss_cons (ps_for PassesOwn.never rfl (pi_tup (pe_tup (pa_cons pe_int (pa_cons pe_int pa_nil)))) (pg_name (i := 2) sc_least_divisor.nd rfl (Or.inl rfl)) (pss_one (ps_if (pt_cmpR op_eq (pe_op op_mod (pv 0) (pv 2)) pe_int (nomark _)) (pss_one (ps_ret (pv 2))) pss_nil)))
  (pss_cons (ps_set (i := 1) sc_least_divisor.nd rfl (Or.inl rfl) (pe_callB (call_min2 rfl) rfl B.min (by decide +kernel) (pa_cons (pv 1) (pa_cons (pe_callBfun cr_isqrt rfl B.isqrt (pa_cons (pv 0) pa_nil)) pa_nil))))
  (pss_cons (ps_set (i := 2) sc_least_divisor.nd rfl (Or.inl rfl) pe_int)
  (pss_cons (ps_while PassesOwn.never (pt_cmpR op_le (pv 2) (pv 1) (nomark _)) (pss_cons (ps_if (pt_cmpR op_eq (pe_op op_mod (pv 0) (pv 2)) pe_int (nomark _)) (pss_one (ps_ret (pv 2))) pss_nil)
  (pss_cons (ps_if (pt_cmpR op_eq (pe_op op_mod (pv 0) (pe_op op_add (pv 2) pe_int)) pe_int (nomark _)) (pss_one (ps_ret (pe_op op_add (pv 2) pe_int))) pss_nil)
  (pss_one (ps_aug (i := 2) sc_least_divisor.nd rfl (Or.inl rfl) pe_int ip_add)))))
  (pss_one (ps_ret (pv 0))))))), ?_⟩
    rw [CB.rd_seq]
    walk_at "rs"
    refine ⟨by decide, fun p np => ?_⟩
    have ht : upd H p (HO.tup [V.int 2, V.int 3]) p = some (.tup [V.int 2, V.int 3]) := upd_same
    have sm := same_upd (o := HO.tup [V.int 2, V.int 3]) np
    generalize upd H p (HO.tup [V.int 2, V.int 3]) = H1 at *
    refine ⟨⟨_, SqT.of ht⟩, ForT.w (xs := [V.int 2, V.int 3]) (fun i σ H' => H' = H1 ∧ ∃ s2, σ = [some (.int n), some (.int 1000), s2] ∧ ∀ e, 2 ≤ e → e < i + 2 → ¬ e ∣ n) ⟨rfl, _, rfl, fun e e2 ei => by omega⟩ ?_ ?_ ?_⟩
    · rintro i σ H' _ ⟨rfl, _⟩
      exact SqT.of ht
    · rintro i v σ H' hv ⟨rfl, s2, rfl, hi⟩ N hN
      have hi2 : i < 2 := (List.getElem?_eq_some_iff.mp hv).1
      have pick : v = .int ((i + 2 : Nat) : Int) := by
        have c : i = 0 ∨ i = 1 := by omega
        rcases c with rfl | rfl <;> cases hv <;> rfl
      subst pick
      walk_at "rd"
      refine ⟨by omega, ite2 (fun c => ?_) (fun c => ?_)⟩
      · refine q (i + 2) _ (.inl ⟨by omega, dvdI.mp c, fun e e2 ei => hi e e2 ei⟩) sm
      · refine hN _ _ ⟨rfl, _, rfl, fun e e2 ei z => ?_⟩
        rcases Nat.lt_or_ge e (i + 2) with y | y
        · exact hi e e2 y z
        · have : e = i + 2 := by omega
          subst this
          exact c (dvdI.mpr z)
    rintro σ H' ⟨rfl, s2, rfl, hi⟩
    have hi : ∀ e, 2 ≤ e → e < 4 → ¬ e ∣ n := hi
    show tSeq _ _ _ _ _
    rw [CB.rd_seq]
    walk_at "rs"
    refine ⟨_, rfl, _, rfl, n, rfl, by omega, Int.lt_trans nb BIG_big, 1000, isq n, rfl, ?_⟩
    have i0 := isq_nn (n : Int)
    have iff1 : ∀ e : Nat, e * e ≤ n ↔ (e : Int) ≤ isq n := fun e => by
      rw [← isq_iff (by omega) (by omega)]
      rw [← Int.natCast_mul]
      omega
    obtain ⟨M, hM, hM2⟩ : ∃ M : Nat, (if isq (n : Int) < 1000 then isq (n : Int) else 1000) = (M : Int) ∧ ∀ e : Nat, e ≤ 1000 → e * e ≤ n → e ≤ M := by
      refine ⟨(if isq (n : Int) < 1000 then isq (n : Int) else 1000).toNat, ?_, fun e e1 ee => ?_⟩
      · split <;> omega
      · have := (iff1 e).mp ee
        split <;> omega
    rw [hM]
    show tSeq _ _ _ _ _
    rw [CB.rd_seq]
    walk_at "rs"
    show tSeq _ _ _ _ _
    rw [CB.rd_seq]
    refine while_w (fun σ H2 => H2 = H' ∧ ∃ d : Nat, σ = [some (.int n), some (.int M), some (.int d)] ∧ d % 6 = 5 ∧ ∀ e, 2 ≤ e → e < d → ¬ e ∣ n)
      (fun σ _ => match σ with | [_, _, some (.int d)] => (M + 1 - d : Int).toNat | _ => 0) ⟨rfl, 5, rfl, rfl, fun e e2 e5 z => ?_⟩ ?_
    · rcases Nat.lt_or_ge e 4 with y | y
      · exact hi e e2 y z
      · have : e = 4 := by omega
        subst this
        exact hi 2 (by decide) (by decide) (Nat.dvd_trans (by decide) z)
    rintro σ H2 ⟨rfl, d, rfl, d6, hd⟩ N hN
    refine ⟨decide ((d : Int) ≤ M), fun Q' q' => ?_, fun hb => ?_, fun hb => ?_⟩
    · walk_at "rd"
      exact q'
    · have hle := of_decide_eq_true hb
      walk_at "rd"
      refine ⟨by omega, ite2 (fun c => ?_) (fun c => ?_)⟩
      · exact q d _ (.inl ⟨by omega, dvdI.mp c, hd⟩) sm
      · have c' : ¬ d ∣ n := fun z => c (dvdI.mpr z)
        refine ⟨by omega, ite2 (fun c2 => ?_) (fun c2 => ?_)⟩
        · have c2' : (d + 2) ∣ n := dvdI.mp c2
          exact q (d + 2) _ (.inl ⟨by omega, c2', five d6 hd c'⟩) sm
        · have c2' : ¬ (d + 2) ∣ n := fun z => c2 (dvdI.mpr z)
          exact hN _ _ ⟨rfl, d + 6, rfl, by omega, six d6 hd c' c2'⟩ (by show (M + 1 - ((d + 6 : Nat) : Int) : Int).toNat < (M + 1 - (d : Int) : Int).toNat; omega)
    · have hgt := of_decide_eq_false hb
      walk_at "rd"
      exact q n _ (.inr ⟨rfl, fun e e2 e3 ee => hd e e2 (by have := hM2 e e3 ee; omega)⟩) sm
end

/-! ### powers modulo n, rounds -/
section
theorem perm_sub : ∀ {l1 l2 : List Nat}, l1.Nodup → (∀ x ∈ l1, x ∈ l2) → l2.length ≤ l1.length → l1.Perm l2
  | [], l2, _, _, h => by
    have : l2 = [] := List.length_eq_zero_iff.mp (by have : l2.length ≤ 0 := h; omega)
    subst this
    exact List.Perm.refl _
  | x :: l1, l2, nd, hs, h => by
    obtain ⟨a, b, rfl⟩ := List.append_of_mem (hs x List.mem_cons_self)
    obtain ⟨n1, n2⟩ := List.nodup_cons.mp nd
    have ih := perm_sub (l1 := l1) (l2 := a ++ b) n2 (fun y hy => by
      have := hs y (List.mem_cons_of_mem _ hy)
      rw [List.mem_append, List.mem_cons] at this
      rcases this with z | z | z
      · exact List.mem_append_left _ z
      · subst z
        exact absurd hy n1
      · exact List.mem_append_right _ z) (by
      rw [List.length_append] at *
      rw [List.length_cons, List.length_cons] at h
      omega)
    exact (List.Perm.cons x ih).trans List.perm_middle.symm
theorem prodL_perm {a b : List Nat} (h : a.Perm b) : prodL a = prodL b := by
  induction h with
  | nil => rfl
  | cons x _ ih => show x * _ = x * _; rw [ih]
  | swap x y l => show y * (x * prodL l) = x * (y * prodL l); rw [Nat.mul_left_comm]
  | trans _ _ i j => exact i.trans j
theorem prodL_mod {a p : Nat} : ∀ l : List Nat, prodL (l.map fun x => a * x % p) % p = (a ^ l.length * prodL l) % p
  | [] => by show 1 % p = (1 * 1) % p; rfl
  | x :: l => by
    show (a * x % p * prodL (l.map fun x => a * x % p)) % p = (a ^ (l.length + 1) * (x * prodL l)) % p
    rw [Nat.mul_mod, Nat.mod_mod, prodL_mod l, ← Nat.mul_mod, Nat.pow_succ]
    congr 1
    grind
theorem prm_prodL {p : Nat} (hp : Prm p) : ∀ {l : List Nat}, (∀ x ∈ l, ¬ p ∣ x) → ¬ p ∣ prodL l
  | [], _, d => by
    have := Nat.le_of_dvd (by decide) (show p ∣ 1 from d)
    have := hp.1
    omega
  | x :: l, h, d => by
    rcases hp.euc (show p ∣ x * prodL l from d) with z | z
    · exact h x List.mem_cons_self z
    · exact prm_prodL hp (fun y hy => h y (List.mem_cons_of_mem _ hy)) z
theorem mod_one_dvd {a p : Nat} (h2 : 2 ≤ p) (ha : 1 ≤ a) : a % p = 1 ↔ p ∣ a - 1 := by
  constructor
  · intro h
    refine ⟨a / p, ?_⟩
    have := Nat.div_add_mod a p
    omega
  · rintro ⟨c, hc⟩
    have : a = p * c + 1 := by omega
    rw [this, Nat.mul_add_mod, Nat.mod_eq_of_lt (by omega)]
/-- a to the p - 1, for a prime p -/
theorem pow_prm {p a : Nat} (hp : Prm p) (ha : ¬ p ∣ a) : a ^ (p - 1) % p = 1 := by
  have h2 := hp.1
  have a0 : 1 ≤ a := by
    rcases Nat.eq_zero_or_pos a with z | z
    · subst z; exact absurd (Nat.dvd_zero p) ha
    · exact z
  let L := List.range' 1 (p - 1)
  have hL : ∀ x ∈ L, 1 ≤ x ∧ x < p := fun x hx => by
    have := List.mem_range'_1.mp hx
    omega
  have nL : ∀ x ∈ L, ¬ p ∣ x := fun x hx d => by
    have := Nat.le_of_dvd (by have := hL x hx; omega) d
    have := hL x hx
    omega
  have pm : (L.map fun x => a * x % p).Perm L := by
    refine perm_sub ?_ (fun y hy => ?_) (by rw [List.length_map]; exact Nat.le_refl _)
    · have key : ∀ x ∈ L, ∀ y ∈ L, x < y → a * x % p ≠ a * y % p := fun x hx y hy l e => by
        have d : p ∣ a * (y - x) := by
          rw [Nat.mul_sub]
          exact Nat.dvd_of_mod_eq_zero (Nat.sub_mod_eq_zero_of_mod_eq e.symm)
        rcases hp.euc d with z | z
        · exact ha z
        · have := Nat.le_of_dvd (by omega) z
          have := hL y hy
          omega
      have lt : L.Pairwise (· < ·) := List.pairwise_lt_range'
      refine List.pairwise_map.mpr (List.Pairwise.imp_of_mem (fun hx hy l => key _ hx _ hy l) lt)
    · obtain ⟨x, hx, rfl⟩ := List.mem_map.mp hy
      refine List.mem_range'_1.mpr ⟨?_, by have := Nat.mod_lt (a * x) (show 0 < p by omega); omega⟩
      rcases Nat.eq_zero_or_pos (a * x % p) with z | z
      · rcases hp.euc (Nat.dvd_of_mod_eq_zero z) with d | d
        · exact absurd d ha
        · exact absurd d (nL x hx)
      · exact z
  have e := prodL_mod (a := a) (p := p) L
  rw [prodL_perm pm, List.length_range'] at e
  have pos : 1 ≤ a ^ (p - 1) := Nat.pow_pos a0
  rw [mod_one_dvd h2 pos]
  have d : p ∣ (a ^ (p - 1) - 1) * prodL L := by
    rw [Nat.sub_mul, Nat.one_mul]
    exact Nat.dvd_of_mod_eq_zero (Nat.sub_mod_eq_zero_of_mod_eq e.symm)
  rcases hp.euc d with z | z
  · exact z
  · exact absurd z (prm_prodL hp nL)
theorem sqrt_one {p x : Nat} (hp : Prm p) (hx : x < p) (h : x * x % p = 1) : x = 1 ∨ x = p - 1 := by
  have h2 := hp.1
  have x0 : 1 ≤ x := by
    rcases Nat.eq_zero_or_pos x with z | z
    · subst z; simp at h
    · exact z
  have d := (mod_one_dvd h2 (Nat.mul_pos x0 x0)).mp h
  have e : x * x - 1 = (x - 1) * (x + 1) := by
    obtain ⟨y, rfl⟩ : ∃ y, x = y + 1 := ⟨x - 1, by omega⟩
    rw [Nat.add_sub_cancel]
    have : (y + 1) * (y + 1) = y * (y + 1 + 1) + 1 := by grind
    omega
  rw [e] at d
  rcases hp.euc d with z | z
  · rcases Nat.eq_zero_or_pos (x - 1) with c | c
    · left; omega
    · have := Nat.le_of_dvd c z
      omega
  · have := Nat.le_of_dvd (by omega) z
    right; omega
def pm : Nat → Nat → Nat → Nat → Nat
  | 0, _, _, m => 1 % m
  | f + 1, a, e, m => if e = 0 then 1 % m else if e % 2 = 1 then a * pm f (a * a % m) (e / 2) m % m else pm f (a * a % m) (e / 2) m
theorem pow_mod_ {a m : Nat} : ∀ e, (a % m) ^ e % m = a ^ e % m := fun e => (Nat.pow_mod a e m).symm
theorem pm_eq : ∀ {f a e m : Nat}, e < 2 ^ f → pm f a e m = a ^ e % m
  | 0, a, e, m, h => by
    have : e = 0 := by omega
    subst this
    rfl
  | f + 1, a, e, m, h => by
    rw [Nat.pow_succ] at h
    show (if e = 0 then 1 % m else if e % 2 = 1 then a * pm f (a * a % m) (e / 2) m % m else pm f (a * a % m) (e / 2) m) = _
    rw [pm_eq (f := f) (show e / 2 < 2 ^ f by omega), pow_mod_]
    have sq : (a * a) ^ (e / 2) = a ^ (2 * (e / 2)) := by rw [Nat.pow_mul, Nat.pow_two]
    split
    · rename_i z; subst z; rfl
    · split
      · rw [Nat.mul_mod, Nat.mod_mod, ← Nat.mul_mod, sq, Nat.mul_comm, ← Nat.pow_succ]
        congr 2; omega
      · rw [sq]
        congr 2; omega
def rnd (n : Nat) : Nat → Nat → Bool
  | _, 0 => false
  | x, k + 1 => x * x % n == n - 1 || rnd n (x * x % n) k
theorem pow_two_mod {n x k : Nat} : (x * x % n) ^ 2 ^ k % n = x ^ 2 ^ (k + 1) % n := by
  rw [pow_mod_, ← Nat.pow_two, ← Nat.pow_mul, Nat.pow_succ, Nat.mul_comm]
theorem rnd_of {n : Nat} (hp : Prm n) : ∀ k x, x < n → x ^ 2 ^ (k + 1) % n = 1 → x = 1 ∨ x = n - 1 ∨ rnd n x k = true
  | 0, x, hx, h => by
    rw [show x ^ 2 ^ (0 + 1) = x * x from Nat.pow_two x] at h
    rcases sqrt_one hp hx h with z | z
    · exact .inl z
    · exact .inr (.inl z)
  | k + 1, x, hx, h => by
    have n0 : 0 < n := by have := hp.1; omega
    rw [← pow_two_mod] at h
    rcases rnd_of hp k (x * x % n) (Nat.mod_lt _ n0) h with z | z | z
    · rcases sqrt_one hp hx z with y | y
      · exact .inl y
      · exact .inr (.inl y)
    · right; right
      show (x * x % n == n - 1 || _) = true
      rw [z]
      simp
    · right; right
      show (_ || rnd n (x * x % n) k) = true
      rw [z]
      simp
theorem pred_sq {n : Nat} (h : 2 ≤ n) : (n - 1) * (n - 1) % n = 1 := by
  obtain ⟨m, rfl⟩ : ∃ m, n = m + 1 := ⟨n - 1, by omega⟩
  rw [Nat.add_sub_cancel, mod_one_dvd h (Nat.mul_pos (by omega) (by omega))]
  refine ⟨m - 1, ?_⟩
  obtain ⟨q, rfl⟩ : ∃ q, m = q + 1 := ⟨m - 1, by omega⟩
  have : (q + 1) * (q + 1) = (q + 1 + 1) * q + 1 := by grind
  rw [Nat.add_sub_cancel]
  omega
theorem one_pow_mod {n k : Nat} (h : 2 ≤ n) {x : Nat} (e : x % n = 1) : x ^ k % n = 1 := by
  rw [← pow_mod_, e, Nat.one_pow, Nat.mod_eq_of_lt (by omega)]
theorem of_rnd {n : Nat} (h2 : 2 ≤ n) : ∀ k x, rnd n x k = true → x ^ 2 ^ (k + 1) % n = 1
  | k + 1, x, h => by
    have h : (x * x % n == n - 1 || rnd n (x * x % n) k) = true := h
    rw [← pow_two_mod]
    rcases Bool.or_eq_true_iff.mp h with z | z
    · rw [beq_iff_eq] at z
      rw [z, ← pow_two_mod, pred_sq h2, Nat.one_pow, Nat.mod_eq_of_lt (by omega)]
    · exact of_rnd h2 k _ z
/-- the odd part and the exponent of two -/
def tw : Nat → Nat → Nat × Nat
  | 0, m => (m, 0)
  | f + 1, m => if m % 2 = 0 then ((tw f (m / 2)).1, (tw f (m / 2)).2 + 1) else (m, 0)
theorem tw_eq : ∀ {f m : Nat}, 0 < m → m < 2 ^ f → (tw f m).1 % 2 = 1 ∧ m = (tw f m).1 * 2 ^ (tw f m).2
  | 0, m, h, l => by omega
  | f + 1, m, h, l => by
    rw [Nat.pow_succ] at l
    have e : tw (f + 1) m = if m % 2 = 0 then ((tw f (m / 2)).1, (tw f (m / 2)).2 + 1) else (m, 0) := rfl
    rw [e]
    split
    · obtain ⟨i, j⟩ := tw_eq (f := f) (m := m / 2) (by omega) (by omega)
      refine ⟨i, ?_⟩
      show m = (tw f (m / 2)).1 * 2 ^ ((tw f (m / 2)).2 + 1)
      rw [Nat.pow_succ, ← Nat.mul_assoc, ← j]
      omega
    · exact ⟨by show m % 2 = 1; omega, by show m = m * 2 ^ 0; omega⟩
theorem odd_uniq : ∀ {s t d e : Nat}, d % 2 = 1 → e % 2 = 1 → d * 2 ^ s = e * 2 ^ t → d = e ∧ s = t
  | 0, 0, d, e, _, _, h => by simp at h; exact ⟨h, rfl⟩
  | 0, t + 1, d, e, h1, _, h => by
    rw [Nat.pow_succ, ← Nat.mul_assoc] at h
    omega
  | s + 1, 0, d, e, _, h1, h => by
    rw [Nat.pow_succ, ← Nat.mul_assoc] at h
    omega
  | s + 1, t + 1, d, e, h1, h2, h => by
    rw [Nat.pow_succ, ← Nat.mul_assoc, Nat.pow_succ, ← Nat.mul_assoc] at h
    obtain ⟨i, j⟩ := odd_uniq (s := s) (t := t) h1 h2 (by omega)
    exact ⟨i, by omega⟩
def pss (n a : Nat) : Bool := let q := tw 128 (n - 1)
  let x := pm 128 a q.1 n
  x == 1 || x == n - 1 || rnd n x (q.2 - 1)
def BS : List Nat := [2, 3, 5, 7, 11, 13, 17, 19, 23, 29, 31, 37, 41]
def fst? (n : Nat) : Option Nat := BS.find? fun p => n % p == 0
def rounds (n : Nat) : Bool := if n < 2 then false else match fst? n with
  | some p => n == p
  | none => BS.all fun a => pss n a
theorem pss_eq {n a d s : Nat} (h : n - 1 = d * 2 ^ s) (ho : d % 2 = 1) (hn : n < 2 ^ 128) (h2 : 2 ≤ n) : pss n a = ((a ^ d % n == 1 || a ^ d % n == n - 1) || rnd n (a ^ d % n) (s - 1)) := by
  obtain ⟨i, j⟩ := tw_eq (f := 128) (m := n - 1) (by omega) (by omega)
  obtain ⟨e1, e2⟩ := odd_uniq i ho (j.symm.trans h)
  have dl : d < 2 ^ 128 := by
    have : d * 1 ≤ d * 2 ^ s := Nat.mul_le_mul_left d Nat.one_le_two_pow
    omega
  unfold pss
  simp only [e1, e2]
  rw [pm_eq dl]
theorem fst_none {n : Nat} (h : fst? n = none) : ∀ p ∈ BS, ¬ p ∣ n := fun p hp d => by
  have := List.find?_eq_none.mp h p hp
  rw [Nat.mod_eq_zero_of_dvd d] at this
  simp at this
theorem fst_some {n p : Nat} (h : fst? n = some p) : p ∈ BS ∧ p ∣ n := by
  refine ⟨List.mem_of_find?_eq_some h, ?_⟩
  have := List.find?_some h
  exact Nat.dvd_of_mod_eq_zero (by simpa using this)
theorem BS_prm : ∀ p ∈ BS, Prm p := by
  have : ∀ p ∈ BS, 2 ≤ p ∧ ∀ e, e < p → 2 ≤ e → ¬ e ∣ p := by decide
  exact fun p hp => ⟨(this p hp).1, fun e e2 ep => (this p hp).2 e ep e2⟩
theorem BS_le : ∀ p ∈ BS, p ≤ 41 := by decide
/-- a prime stands all the rounds -/
theorem rounds_prm {n : Nat} (hp : Prm n) (hn : n < 2 ^ 128) : rounds n = true := by
  have h2 := hp.1
  unfold rounds
  rw [if_neg (by omega)]
  cases hf : fst? n with
  | some p =>
    obtain ⟨i, d⟩ := fst_some hf
    show (n == p) = true
    rw [(BS_prm p i).eq_of_dvd hp d]
    simp
  | none =>
    show BS.all _ = true
    rw [List.all_eq_true]
    intro a ha
    have hd := fst_none hf
    have odd : n % 2 = 1 := by
      have := hd 2 (by decide)
      omega
    obtain ⟨i, j⟩ := tw_eq (f := 128) (m := n - 1) (by omega) (by omega)
    generalize (tw 128 (n - 1)).1 = d at *
    generalize (tw 128 (n - 1)).2 = s at *
    have s1 : 1 ≤ s := by
      rcases Nat.eq_zero_or_pos s with z | z
      · subst z
        omega
      · exact z
    obtain ⟨t, rfl⟩ : ∃ t, s = t + 1 := ⟨s - 1, by omega⟩
    rw [pss_eq j i hn h2]
    have f1 := pow_prm hp (a := a) (fun z => by
      have l := BS_prm a ha
      have := hp.eq_of_dvd l z
      subst this
      exact hd n ha (Nat.dvd_refl n))
    rw [j, Nat.pow_mul, ← pow_mod_] at f1
    rcases rnd_of hp t (a ^ d % n) (Nat.mod_lt _ (by omega)) f1 with z | z | z
    · rw [z]; simp
    · rw [z]; simp
    · rw [Nat.add_sub_cancel, z]; simp
/-- standing the round by 2 -/
theorem rounds_two {n : Nat} (h : rounds n = true) (hn : n < 2 ^ 128) (hf : fst? n = none) : 2 ^ (n - 1) % n = 1 ∧ 2 ≤ n := by
  unfold rounds at h
  by_cases c : n < 2
  · rw [if_pos c] at h; cases h
  rw [if_neg c, hf] at h
  have h2 : 2 ≤ n := by omega
  have hd := fst_none hf
  have odd : n % 2 = 1 := by
    have := hd 2 (by decide)
    omega
  have p2 := List.all_eq_true.mp (show BS.all (fun a => pss n a) = true from h) 2 (by decide)
  obtain ⟨i, j⟩ := tw_eq (f := 128) (m := n - 1) (by omega) (by omega)
  generalize (tw 128 (n - 1)).1 = d at *
  generalize (tw 128 (n - 1)).2 = s at *
  have s1 : 1 ≤ s := by
    rcases Nat.eq_zero_or_pos s with z | z
    · subst z
      omega
    · exact z
  obtain ⟨t, rfl⟩ : ∃ t, s = t + 1 := ⟨s - 1, by omega⟩
  rw [pss_eq j i hn h2, Nat.add_sub_cancel] at p2
  refine ⟨?_, h2⟩
  rw [j, Nat.pow_mul, ← pow_mod_]
  rcases Bool.or_eq_true_iff.mp p2 with z | z
  · rcases Bool.or_eq_true_iff.mp z with z | z
    · rw [beq_iff_eq] at z
      rw [z, Nat.one_pow, Nat.mod_eq_of_lt (by omega)]
    · rw [beq_iff_eq] at z
      rw [z, ← pow_two_mod, pred_sq h2, Nat.one_pow, Nat.mod_eq_of_lt (by omega)]
  · exact of_rnd h2 t _ z
def PT : List (Nat × Nat) := [(43, 14), (47, 23), (53, 52), (59, 58), (61, 60), (67, 66), (71, 35), (73, 9), (79, 39), (83, 82), (89, 11), (97, 48), (101, 100), (103, 51), (107, 106), (109, 36), (113, 28), (127, 7), (131, 130), (137, 68), (139, 138), (149, 148), (151, 15), (157, 52), (163, 162), (167, 83), (173, 172), (179, 178), (181, 180), (191, 95), (193, 96), (197, 196), (199, 99), (211, 210), (223, 37), (227, 226), (229, 76), (233, 29), (239, 119), (241, 24), (251, 50), (257, 16), (263, 131), (269, 268), (271, 135), (277, 92), (281, 70), (283, 94), (293, 292), (307, 102), (311, 155), (313, 156), (317, 316), (331, 30), (337, 21), (347, 346), (349, 348), (353, 88), (359, 179), (367, 183), (373, 372), (379, 378), (383, 191), (389, 388), (397, 44), (401, 200), (409, 204), (419, 418), (421, 420), (431, 43), (433, 72), (439, 73), (443, 442), (449, 224), (457, 76), (461, 460), (463, 231), (467, 466), (479, 239), (487, 243), (491, 490), (499, 166), (503, 251), (509, 508), (521, 260), (523, 522), (541, 540), (547, 546), (557, 556), (563, 562), (569, 284), (571, 114), (577, 144), (587, 586), (593, 148), (599, 299), (601, 25), (607, 303), (613, 612), (617, 154), (619, 618), (631, 45), (641, 64), (643, 214), (647, 323), (653, 652), (659, 658), (661, 660), (673, 48), (677, 676), (683, 22), (691, 230), (701, 700), (709, 708), (719, 359), (727, 121), (733, 244), (739, 246), (743, 371), (751, 375), (757, 756), (761, 380), (769, 384), (773, 772), (787, 786), (797, 796), (809, 404), (811, 270), (821, 820), (823, 411), (827, 826), (829, 828), (839, 419), (853, 852), (857, 428), (859, 858), (863, 431), (877, 876), (881, 55), (883, 882), (887, 443), (907, 906), (911, 91), (919, 153), (929, 464), (937, 117), (941, 940), (947, 946), (953, 68), (967, 483), (971, 194), (977, 488), (983, 491), (991, 495), (997, 332)]
def okP (q : Nat × Nat) : Bool := decide (0 < q.2) && (2 ^ q.2 % q.1 == 1 && ((List.range q.2).all (fun j => j == 0 || 2 ^ j % q.1 != 1) && (q.1 - 1) % q.2 == 0))
def okC (q : Nat × Nat) (k : Nat) : Bool := let m := 1 + q.2 * k
  let n := q.1 * m
  decide (m < q.1) || (decide (1000000 < n) || ((fst? n).isSome || (2 ^ (n - 1) % n != 1 || !rounds n)))
theorem PT_ok : PT.all okP = true := by decide +kernel
theorem PT_all : (List.range 1001).all (fun p => decide (p < 2) || ((fst? p).isSome || PT.any fun q => q.1 == p)) = true := by decide +kernel
theorem PT_c : PT.all (fun q => (List.range (1000000 / (q.1 * q.2) + 1)).all (okC q)) = true := by decide +kernel
theorem fst_isSome {n p : Nat} (hp : p ∈ BS) (d : p ∣ n) : (fst? n).isSome = true := by
  cases h : fst? n with
  | some _ => rfl
  | none => exact absurd d (fst_none h p hp)
/-- to a million the rounds tell the primes -/
theorem prm_rounds {n : Nat} (h : rounds n = true) (hn : n ≤ 1000000) : Prm n := by
  have l128 : n < 2 ^ 128 := Nat.lt_of_le_of_lt hn (by decide)
  have h2 : 2 ≤ n := by
    unfold rounds at h
    by_cases c : n < 2
    · rw [if_pos c] at h; cases h
    · omega
  cases hf : fst? n with
  | some p =>
    unfold rounds at h
    rw [if_neg (by omega), hf] at h
    have e : n = p := by simpa using h
    rw [e]
    exact BS_prm p (fst_some hf).1
  | none =>
    have t := (rounds_two h l128 hf).1
    refine Classical.byContradiction fun np => ?_
    obtain ⟨e, e2, ee, ed⟩ : ∃ e, 2 ≤ e ∧ e * e ≤ n ∧ e ∣ n := Classical.byContradiction fun no => np (prm_of h2 fun e e2 ee ed => no ⟨e, e2, ee, ed⟩)
    obtain ⟨p, hp, pe⟩ := ex_prm e2
    have ple : p ≤ e := Nat.le_of_dvd (by omega) pe
    have pn : p ∣ n := Nat.dvd_trans pe ed
    have pp : p * p ≤ n := Nat.le_trans (Nat.mul_le_mul ple ple) ee
    have p1000 : p ≤ 1000 := by
      rcases Nat.lt_or_ge 1000 p with c | c
      · have := Nat.mul_le_mul (show 1001 ≤ p by omega) (show 1001 ≤ p by omega)
        omega
      · exact c
    have a := List.all_eq_true.mp PT_all p (List.mem_range.mpr (by omega))
    have p2 := hp.1
    rw [decide_eq_false (by omega), Bool.false_or] at a
    rcases Bool.or_eq_true_iff.mp a with z | z
    · cases hq : fst? p with
      | some b =>
        obtain ⟨b1, b2⟩ := fst_some hq
        exact fst_none hf b b1 (Nat.dvd_trans b2 pn)
      | none => rw [hq] at z; cases z
    · obtain ⟨q, hq, qe⟩ := List.any_eq_true.mp z
      rw [beq_iff_eq] at qe
      obtain ⟨q1, r⟩ := q
      have qe : q1 = p := qe
      subst qe
      have ok := List.all_eq_true.mp PT_ok _ hq
      unfold okP at ok
      rw [Bool.and_eq_true, Bool.and_eq_true, Bool.and_eq_true, decide_eq_true_eq, beq_iff_eq, beq_iff_eq] at ok
      obtain ⟨r0, o1, o2, o3⟩ := ok
      have r0 : 0 < r := r0
      have o1 : 2 ^ r % q1 = 1 := o1
      have o3 : (q1 - 1) % r = 0 := o3
      obtain ⟨m, rfl⟩ := pn
      have t1 : 2 ^ (q1 * m - 1) % q1 = 1 := by
        have : 2 ^ (q1 * m - 1) % (q1 * m) % q1 = 1 % q1 := by rw [t]
        rw [Nat.mod_mod_of_dvd _ (Nat.dvd_mul_right q1 m), Nat.mod_eq_of_lt (show 1 < q1 by omega)] at this
        exact this
      have ord : ∀ j, 2 ^ j % q1 = 1 → r ∣ j := fun j hj => by
        have e : 2 ^ j % q1 = 2 ^ (j % r) % q1 := by
          have : 2 ^ j = (2 ^ r) ^ (j / r) * 2 ^ (j % r) := by
            rw [← Nat.pow_mul, ← Nat.pow_add, Nat.div_add_mod]
          rw [this, Nat.mul_mod, one_pow_mod p2 o1, Nat.one_mul, Nat.mod_mod]
        rw [e] at hj
        have := List.all_eq_true.mp o2 (j % r) (List.mem_range.mpr (Nat.mod_lt j r0))
        rcases Bool.or_eq_true_iff.mp this with y | y
        · rw [beq_iff_eq] at y
          exact Nat.dvd_of_mod_eq_zero y
        · rw [bne_iff_ne] at y
          exact absurd hj y
      have d1 := ord _ t1
      have mq : q1 ≤ m := Nat.le_of_mul_le_mul_left pp (by omega)
      have d2 : r ∣ m - 1 := by
        have e : q1 * m - 1 = (q1 - 1) * m + (m - 1) := by
          have : (q1 - 1) * m + m = q1 * m := by
            rw [← Nat.succ_mul]
            congr 1
            omega
          omega
        rw [e] at d1
        exact (Nat.dvd_add_right (Nat.dvd_mul_right_of_dvd (Nat.dvd_of_mod_eq_zero o3) m)).mp d1
      obtain ⟨k, hk⟩ := d2
      have em : m = 1 + r * k := by omega
      have kl : k ≤ 1000000 / (q1 * r) := by
        rw [Nat.le_div_iff_mul_le (Nat.mul_pos (by omega) r0)]
        have : q1 * (r * k) ≤ q1 * m := Nat.mul_le_mul_left _ (by omega)
        have e2 : k * (q1 * r) = q1 * (r * k) := by grind
        omega
      have c := List.all_eq_true.mp (List.all_eq_true.mp PT_c _ hq) k (List.mem_range.mpr (show k < 1000000 / (q1 * r) + 1 by omega))
      unfold okC at c
      simp only [] at c
      rw [← em] at c
      have s1 : decide (m < q1) = false := decide_eq_false (by omega)
      have s2 : decide (1000000 < q1 * m) = false := decide_eq_false (by omega)
      rw [s1, s2, hf, h, t] at c
      revert c
      decide
end

section
variable {P : Program} {w : World} {K : PySem.W.Frag} {mg : Str → Option Value} {base : Heap} {CM CR aU a1 a2 : Addr}
theorem rd_bits {to : TE} {σ : L2.St} {H : Hp} {Q : VK} : tBits to σ H Q = to σ H fun x H1 => ∃ i, x = .int i ∧ Q (.int (Builtin.Int.intBits i : Nat)) H1 := rfl
theorem bits_pow (v : Nat) : Builtin.Int.intBits ((2 ^ v : Nat) : Int) = v + 1 := by
  unfold Builtin.Int.intBits
  have h : ((2 ^ v : Nat) : Int) ≠ 0 := by
    have := Nat.two_pow_pos v
    omega
  have e : (((2 ^ v : Nat) : Int) == 0) = false := by simpa using h
  rw [e, if_neg (by decide), Int.natAbs_natCast, Nat.log2_two_pow]
end

section
variable {P : Program} {w : World} {K : PySem.W.Frag} {mg : Str → Option Value} {base : Heap} {CR : Addr}
abbrev s_stands_round : Stmt := top 12
theorem sc_stands_round : FnScope ["n", "a", "s", "x", "_"] ["n", "a"] (defScope s_stands_round) := ⟨rfl, rfl, rfl, by decide +kernel, rfl, by decide +kernel, by decide +kernel⟩

theorem powN {a d n : Nat} : ((a : Int) ^ d) % (n : Int) = ((a ^ d % n : Nat) : Int) := by
  rw [Int.natCast_emod, Int.natCast_pow]
theorem szN {n k : Nat} (h : n < 2 ^ k) : Sz k (n : Int) := h
theorem in1n {x n : Nat} (h : 2 ≤ n) : inV (.int (x : Int)) [V.int 1, V.int ((n : Int) - 1)] = (x == 1 || x == n - 1) := by
  show ((1 : Int) == (x : Int) || ((n : Int) - 1 == (x : Int) || false)) = _
  rw [Bool.or_false, Bool.eq_iff_iff]
  simp only [Bool.or_eq_true, beq_iff_eq]
  omega
def spRound : Sp := fun vs H Q _ => ∃ n a : Nat, vs = [.int n, .int a] ∧ 3 ≤ n ∧ n % 2 = 1 ∧ n < 2 ^ 128 ∧ ∀ H', Same H H' → Q (.bl (pss n a)) H'
theorem cal_round (D : Dn K mg "stands_round" s_stands_round ["n", "a"]) (B : Bl mg) (c_power : Cal P w K mg base "power" 1 ["a", "e", "m"] spPow) : Cal P w K mg base "stands_round" 2 ["n", "a"] spRound := by
  refine D.cal sc_stands_round (fun vs H Q E h => ?_) (fun f cdv A outer s H vs Q E hr h => ?_)
  · obtain ⟨n, a, rfl, _⟩ := h
    rfl
  · obtain ⟨n, a, rfl, n3, no, nb, q⟩ := h
    refine ⟨_, (pss_cons (ps_set (i := 2) sc_stands_round.nd rfl (Or.inl rfl) (pe_op op_sub (pe_bits (pe_op op_and (pe_op op_sub (pv 0) pe_int) (pe_op op_sub pe_int (pv 0)))) pe_int))
  (pss_cons (ps_set (i := 3) sc_stands_round.nd rfl (Or.inl rfl) (pe_cal c_power (hr.mono (by decide)) rfl (pa_cons (pv 1) (pa_cons (pe_op op_shr (pe_op op_sub (pv 0) pe_int) (pv 2)) (pa_cons (pv 0) pa_nil)))))
  (pss_cons (ps_if (pt_cmpR op_in_seq (pv 3) (pe_tup (pa_cons pe_int (pa_cons (pe_op op_sub (pv 0) pe_int) pa_nil))) (by rfl)) (pss_one (ps_ret pe_bl)) pss_nil)
  (pss_cons (ps_for PassesOwn.never rfl (pi_range1 rfl B.range (pa_cons (pe_op op_sub (pv 2) pe_int) pa_nil)) (pg_name (i := 4) sc_stands_round.nd rfl (Or.inl rfl)) (pss_cons (ps_set (i := 3) sc_stands_round.nd rfl (Or.inl rfl) (pe_op op_mod (pe_op op_mulI (pv 3) (pv 3)) (pv 0)))
  (pss_one (ps_if (pt_cmpR op_eq (pv 3) (pe_op op_sub (pv 0) pe_int) (nomark _)) (pss_one (ps_ret pe_bl)) pss_nil))))
  (pss_one (ps_ret pe_bl)))))), ?_⟩
    obtain ⟨v, qq, e1, e2⟩ := bit_low (a := n - 1) (by omega)
    rw [CB.rd_seq]
    walk_at "rs"
    rw [rd_bits]
    walk_at "rs"
    rw [show (1 : Int) - (n : Int) = -(((n - 1 : Nat)) : Int) by omega, show (n : Int) - 1 = ((n - 1 : Nat) : Int) by omega, e2, bits_pow, show (((v + 1 : Nat) : Int) - 1) = ((v : Nat) : Int) by omega]
    rw [CB.rd_seq]
    walk_at "rs"
    have e3 : ((n - 1 : Nat) : Int) / 2 ^ (Int.toNat ((v : Nat) : Int)) = ((2 * qq + 1 : Nat) : Int) := by
      rw [Int.toNat_natCast, e1, Int.natCast_mul]
      have : (((2 ^ v : Nat)) : Int) = 2 ^ v := by simp
      rw [this, Int.mul_ediv_cancel_left _ (by rw [← this]; have := Nat.two_pow_pos v; omega)]
    have sz : Sz 600 (n : Int) := (szN nb).le (by decide)
    have en : n - 1 = (2 * qq + 1) * 2 ^ v := by rw [e1, Nat.mul_comm]
    have hp := pss_eq (a := a) en (by omega) nb (by omega)
    have v1 : 1 ≤ v := by
      rcases Nat.eq_zero_or_pos v with z | z
      · subst z
        omega
      · exact z
    rw [show (n : Int) - 1 = ((n - 1 : Nat) : Int) by omega, e3]
    refine ⟨by omega, (a : Int), (n : Int), 2 * qq + 1, rfl, by omega, sz, ?_⟩
    rw [powN]
    generalize hx : a ^ (2 * qq + 1) % n = x at *
    have xl : x < n := by rw [← hx]; exact Nat.mod_lt _ (by omega)
    rw [CB.rd_seq]
    walk_at "rs"
    refine ⟨by decide, fun p np => ⟨p, _, rfl, .inr (SqT.of upd_same), rfl, rfl, inV _ [V.int 1, V.int ((n : Int) - 1)], rfl, ?_⟩⟩
    have sp : Same H (upd H p (.tup [V.int 1, V.int ((n : Int) - 1)])) := same_upd np
    generalize upd H p (.tup [V.int 1, V.int ((n : Int) - 1)]) = H1 at *
    rw [in1n (by omega)]
    cases h1 : (x == 1 || x == n - 1) with
    | true =>
      rw [if_pos rfl]
      rw [hp, h1, Bool.true_or] at q
      exact q H1 sp
    | false =>
      rw [h1, Bool.false_or] at hp
      rw [if_neg (by decide)]
      rw [CB.rd_seq]
      walk_at "rs"
      have v128 : v < 128 := by
        rcases Nat.lt_or_ge v 128 with c | c
        · exact c
        · have := Nat.pow_le_pow_right (show 0 < 2 by decide) c
          have : 1 * 2 ^ v ≤ (2 * qq + 1) * 2 ^ v := Nat.mul_le_mul_right _ (by omega)
          omega
      refine ⟨by omega, by omega, ?_⟩
      rw [show ((v : Int) - 1).toNat = v - 1 by omega]
      refine ForR.w (fun i σ H2 => ∃ (y : Nat) (s4 : Option V), σ = [some (.int n), some (.int a), some (.int v), some (.int y), s4] ∧ Same H H2 ∧ y < n ∧ rnd n x (v - 1) = rnd n y (v - 1 - i)) ⟨x, _, rfl, sp, xl, rfl⟩ ?_ ?_
      · rintro i σ H2 hi ⟨y, s4, rfl, s2, yl, inv⟩ N hN
        walk_at "rs"
        rw [CB.rd_seq]
        walk_at "rs"
        have zy : Sz 600 (y : Int) := (szN (Nat.lt_trans yl nb)).le (by decide)
        have ey : (y : Int) * (y : Int) % (n : Int) = ((y * y % n : Nat) : Int) := by rw [Int.natCast_emod, Int.natCast_mul]
        have ek : v - 1 - i = (v - 1 - (i + 1)) + 1 := by omega
        have er : rnd n y (v - 1 - i) = (y * y % n == n - 1 || rnd n (y * y % n) (v - 1 - (i + 1))) := by rw [ek]; rfl
        rw [ey]
        refine ⟨zy.ok zy (by decide) (by decide), by omega, ?_⟩
        refine ite2 (fun c => ?_) (fun c => ?_)
        · have c' : y * y % n = n - 1 := by omega
          rw [hp, inv, er, c', beq_self_eq_true, Bool.true_or] at q
          exact q H2 s2
        · have c' : ¬ y * y % n = n - 1 := fun z => c (by omega)
          refine hN _ _ ⟨_, _, rfl, s2, Nat.mod_lt _ (by omega), ?_⟩
          rw [inv, er, beq_eq_false_iff_ne.mpr c', Bool.false_or]
      · rintro σ H2 ⟨y, s4, rfl, s2, yl, inv⟩
        walk_at "rs"
        have e0 : v - 1 - (v - 1) = 0 := by omega
        rw [e0] at inv
        rw [hp, inv] at q
        exact q H2 s2
abbrev s_is_prime : Stmt := top 10
theorem sc_is_prime : FnScope ["n", "p", "a"] ["n"] (defScope s_is_prime) := ⟨rfl, rfl, rfl, by decide +kernel, rfl, by decide +kernel, by decide +kernel⟩

def BND : Int := 3317044064679887385961981
/-- a verdict by the rounds, and a refusal beyond the bound -/
def spIsP (CR : Addr) : Sp := fun vs H Q E => ∃ n : Int, vs = [.int n] ∧ ((BND ≤ n ∧ ∀ d H', Same H H' → H d = none → H' d = some (.xd [("reason", .str "large")]) → E (.ref CR) (some d) H') ∨
  (n < BND ∧ ∀ H', Same H H' → Q (.bl (rounds n.toNat)) H'))
theorem least_rounds {n r : Nat} (h : LD n r) (h2 : 2 ≤ n) (hn : n ≤ 1000000) : (r == n) = rounds n := by
  rw [Bool.eq_iff_iff, beq_iff_eq]
  constructor
  · intro e
    refine rounds_prm ?_ (Nat.lt_of_le_of_lt hn (by decide))
    subst e
    rcases h with ⟨r2, rd, hm⟩ | ⟨_, hm⟩
    · exact ⟨r2, fun e e2 er d => hm e e2 er d⟩
    · exact prm_of h2 fun e e2 ee d => hm e e2 (by
        rcases Nat.lt_or_ge 1000 e with c | c
        · have := Nat.mul_le_mul (show 1001 ≤ e by omega) (show 1001 ≤ e by omega)
          omega
        · exact c) ee d
  · intro e
    exact h.of_prm (prm_rounds e hn)
theorem round_0 {n : Int} (h : n < 2) : rounds n.toNat = false := by
  unfold rounds
  rw [if_pos (by omega)]
theorem rounds_big {n : Nat} (h : 41 < n) : rounds n = ((BS.all fun p => !(n % p == 0)) && BS.all fun a => pss n a) := by
  unfold rounds
  rw [if_neg (by omega)]
  cases hf : fst? n with
  | some p =>
    obtain ⟨i, d⟩ := fst_some hf
    have l := BS_le p i
    have a : (BS.all fun p => !(n % p == 0)) = false := by
      rw [List.all_eq_false]
      exact ⟨p, i, by rw [Nat.mod_eq_zero_of_dvd d]; decide⟩
    show (n == p) = _
    rw [a, Bool.false_and]
    exact beq_eq_false_iff_ne.mpr (by omega)
  | none =>
    have a : (BS.all fun p => !(n % p == 0)) = true := by
      rw [List.all_eq_true]
      intro p hp
      have := fst_none hf p hp
      rw [Nat.dvd_iff_mod_eq_zero] at this
      simp [this]
    show BS.all _ = _
    rw [a, Bool.true_and]
theorem cal_isp (D : Dn K mg "is_prime" s_is_prime ["n"]) (B : Bl mg) (c_least_divisor : Cal P w K mg base "least_divisor" 1 ["n", "most"] spLeast) (c_stands_round : Cal P w K mg base "stands_round" 2 ["n", "a"] spRound)
    (c_BASES : TC K mg "BASES" [2, 3, 5, 7, 11, 13, 17, 19, 23, 29, 31, 37, 41]) (e_E : ErrQ P w K mg base CR) : CalX P w K mg base "is_prime" 3 ["n"] (spIsP CR) := by
  refine D.calX sc_is_prime (fun vs H Q E h => ?_) (fun f cdv A outer s H vs Q E hr h => ?_)
  · obtain ⟨n, rfl, _⟩ := h
    rfl
  · obtain ⟨n, rfl, h⟩ := h
    refine ⟨_, (pss_cons (ps_if (pt_cmpR op_ge (pv 0) (pe_glob (v := .int 3317044064679887385961981) rfl B.c_BOUND.choose_spec ⟨_, rfl⟩) (nomark _)) (pss_one (ps_refQ e_E rfl (takes_of rfl rfl rfl rfl) (hr.mono (by decide)) rfl)) pss_nil)
  (pss_cons (ps_if (pt_cmpR op_lt (pv 0) pe_int (nomark _)) (pss_one (ps_ret pe_bl)) pss_nil)
  (pss_cons (ps_if (pt_cmpR op_le (pv 0) (pe_op op_mulI (pe_glob (v := .int 1000) rfl B.c_TRIED_TO.choose_spec ⟨_, rfl⟩) (pe_glob (v := .int 1000) rfl B.c_TRIED_TO.choose_spec ⟨_, rfl⟩)) (nomark _)) (pss_one (ps_ret (pe_cmpR op_eq (pe_cal c_least_divisor (hr.mono (by decide)) rfl (pa_cons (pv 0) (pa_cons (pe_glob (v := .int 1000) rfl B.c_TRIED_TO.choose_spec ⟨_, rfl⟩) pa_nil))) (pv 0) (nomark _)))) pss_nil)
  (pss_cons (ps_for (passes_of rfl) rfl (pi_tup (pe_glob (v := .ref c_BASES.choose) rfl c_BASES.choose_spec.1 rfl)) (pg_name (i := 1) sc_is_prime.nd rfl (Or.inl rfl)) (pss_one (ps_if (pt_cmpR op_eq (pe_op op_mod (pv 0) (pv 1)) pe_int (nomark _)) (pss_one (ps_ret pe_bl)) pss_nil)))
  (pss_cons (ps_for (passes_of rfl) rfl (pi_tup (pe_glob (v := .ref c_BASES.choose) rfl c_BASES.choose_spec.1 rfl)) (pg_name (i := 2) sc_is_prime.nd rfl (Or.inl rfl)) (pss_one (ps_if (pt_not (pt_val (pe_cal c_stands_round (hr.mono (by decide)) rfl (pa_cons (pv 0) (pa_cons (pv 2) pa_nil))))) (pss_one (ps_ret pe_bl)) pss_nil)))
  (pss_one (ps_ret pe_bl))))))), ?_⟩
    have hB := BIG_pos
    rw [CB.rd_seq]
    walk_at "rs"
    rcases h with ⟨hn, e⟩ | ⟨hn, q⟩
    · rw [if_pos (show (3317044064679887385961981 : Int) ≤ n from hn)]
      exact e
    have hn' : n < 3317044064679887385961981 := hn
    rw [if_neg (by omega), CB.rd_seq]
    walk_at "rs"
    by_cases n2 : n < 2
    · rw [if_pos n2]
      have := q H (Same.refl _)
      rw [round_0 n2] at this
      exact this
    rw [if_neg n2, CB.rd_seq]
    walk_at "rs"
    refine ⟨mulL (by decide), ?_⟩
    obtain ⟨m, rfl⟩ := Int.eq_ofNat_of_zero_le (show 0 ≤ n by omega)
    rw [Int.toNat_natCast] at q
    by_cases nm : (m : Int) ≤ 1000 * 1000
    · rw [if_pos nm]
      refine ⟨m, rfl, by omega, by omega, fun r H' ld s' => ⟨rfl, ?_⟩⟩
      have e := least_rounds ld (by omega) (by omega)
      have e2 : decide (V.int (r : Int) = V.int (m : Int)) = (r == m) := by
        rw [Bool.eq_iff_iff, decide_eq_true_eq, beq_iff_eq, V.int.injEq]
        omega
      rw [e2, e]
      exact q H' s'
    rw [if_neg nm, CB.rd_seq]
    walk_at "rs"
    have hT := c_BASES.choose_spec.2
    have hr41 := rounds_big (n := m) (by omega)
    have md : ∀ p : Nat, 0 < p → ((m : Int) % (p : Int) = 0 ↔ (m % p == 0) = true) := fun p _ => by
      rw [beq_iff_eq]
      have : (m : Int) % (p : Int) = ((m % p : Nat) : Int) := (Int.natCast_emod m p).symm
      omega
    have get : ∀ (i : Nat) (x : V), (([2, 3, 5, 7, 11, 13, 17, 19, 23, 29, 31, 37, 41] : List Int).map V.int)[i]? = some x → ∃ p, x = .int ((p : Nat) : Int) ∧ BS[i]? = some p ∧ 0 < p := fun i x hx => by
      have e : (([2, 3, 5, 7, 11, 13, 17, 19, 23, 29, 31, 37, 41] : List Int).map V.int) = BS.map fun p : Nat => V.int (p : Int) := rfl
      rw [e, List.getElem?_map] at hx
      obtain ⟨p, hp, rfl⟩ := Option.map_eq_some_iff.mp hx
      exact ⟨p, rfl, hp, by have := (BS_prm p (List.mem_of_getElem? hp)).1; omega⟩
    refine ⟨⟨_, hT H⟩, ForT.w (xs := ([2, 3, 5, 7, 11, 13, 17, 19, 23, 29, 31, 37, 41] : List Int).map V.int) (fun i σ H2 => ∃ s1, σ = [some (.int m), s1, none] ∧ H2 = H ∧ (BS.take i).all (fun p => !(m % p == 0)) = true) ⟨none, rfl, rfl, rfl⟩ (fun i σ H2 _ _ => hT H2) ?_ ?_⟩
    · rintro i x σ H2 hx ⟨s1, rfl, rfl, inv⟩ N hN
      obtain ⟨p, rfl, hp, p0⟩ := get i x hx
      walk_at "rs"
      refine ⟨by omega, ite2 (fun c => ?_) (fun c => ?_)⟩
      · have c' := (md p p0).mp c
        have a : (BS.all fun p => !(m % p == 0)) = false := by
          rw [List.all_eq_false]
          exact ⟨p, List.mem_of_getElem? hp, by rw [c']; decide⟩
        rw [hr41, a, Bool.false_and] at q
        exact q _ (Same.refl _)
      · have c' : (m % p == 0) = false := by
          cases z : m % p == 0 with
          | false => rfl
          | true => exact absurd ((md p p0).mpr z) c
        refine hN _ _ ⟨_, rfl, rfl, ?_⟩
        rw [List.take_add_one, hp, List.all_append, inv]
        simp [c']
    rintro σ H2 ⟨s1, rfl, rfl, inv⟩
    have inv : BS.all (fun p => !(m % p == 0)) = true := inv
    rw [inv, Bool.true_and] at hr41
    have odd : m % 2 = 1 := by
      have := List.all_eq_true.mp inv 2 (by decide)
      simp at this
      omega
    dsimp only []
    rw [CB.rd_seq]
    walk_at "rs"
    refine ⟨⟨_, hT _⟩, ForT.w (xs := ([2, 3, 5, 7, 11, 13, 17, 19, 23, 29, 31, 37, 41] : List Int).map V.int) (fun i σ H3 => ∃ s2, σ = [some (.int m), s1, s2] ∧ Same H2 H3 ∧ (BS.take i).all (fun a => pss m a) = true) ⟨none, rfl, Same.refl _, rfl⟩ (fun i σ H3 _ _ => hT H3) ?_ ?_⟩
    · rintro i x σ H3 hx ⟨s2, rfl, s3, inv2⟩ N hN
      obtain ⟨p, rfl, hp, p0⟩ := get i x hx
      walk_at "rs"
      refine ⟨m, p, rfl, by omega, odd, Nat.lt_trans (show m < 3317044064679887385961981 by omega) (by decide), fun H4 s4 => ⟨_, rfl, ?_⟩⟩
      cases c : pss m p with
      | false =>
        rw [if_pos (by decide)]
        have a : (BS.all fun a => pss m a) = false := by
          rw [List.all_eq_false]
          exact ⟨p, List.mem_of_getElem? hp, by rw [c]; decide⟩
        rw [hr41, a] at q
        exact q _ (s3.trans s4)
      | true =>
        rw [if_neg (by decide)]
        refine hN _ _ ⟨_, rfl, s3.trans s4, ?_⟩
        rw [List.take_add_one, hp, List.all_append, inv2]
        simp [c]
    rintro σ H3 ⟨s2, rfl, s3, inv2⟩
    have inv2 : BS.all (fun a => pss m a) = true := inv2
    walk_at "rs"
    rw [hr41, inv2] at q
    exact q _ s3
end

section
variable {P : Program} {w : World} {K : PySem.W.Frag} {mg : Str → Option Value} {base : Heap} {CR : Addr}
abbrev s_next_prime : Stmt := top 14
theorem sc_next_prime : FnScope ["n"] ["n"] (defScope s_next_prime) := ⟨rfl, rfl, rfl, by decide +kernel, rfl, by decide +kernel, by decide +kernel⟩

theorem least6 {q : Nat → Prop} (h : ∃ k, q k) : ∃ m, q m ∧ ∀ j, j < m → ¬ q j := by
  obtain ⟨k, hk⟩ := h
  induction k using Nat.strongRecOn with
  | ind k ih =>
    rcases Classical.em (∃ j, j < k ∧ q j) with ⟨j, hj, qj⟩ | c
    · exact ih j hj qj
    · exact ⟨k, hk, fun j hj qj => c ⟨j, hj, qj⟩⟩
def NXT : Nat := 100000000000000000039
theorem nxt_ok : rounds NXT = true := by decide +kernel
/-- the least number from lo on that stands the rounds -/
def IsNx (lo r : Nat) : Prop := rounds r = true ∧ lo ≤ r ∧ ∀ j, lo ≤ j → j < r → rounds j = false
theorem ex_nx {lo : Nat} (h : lo ≤ NXT) : ∃ r, IsNx lo r ∧ r ≤ NXT := by
  obtain ⟨m, ⟨h1, h2⟩, h3⟩ := least6 (q := fun r => rounds r = true ∧ lo ≤ r) ⟨NXT, nxt_ok, h⟩
  refine ⟨m, ⟨h1, h2, fun j hj jm => ?_⟩, ?_⟩
  · cases c : rounds j with
    | false => rfl
    | true => exact absurd ⟨c, hj⟩ (h3 j jm)
  · rcases Nat.lt_or_ge NXT m with c | c
    · exact absurd ⟨nxt_ok, h⟩ (h3 NXT c)
    · exact c
theorem nx_uniq {lo r s : Nat} (h : IsNx lo r) (h' : IsNx lo s) : r = s := by
  rcases Nat.lt_trichotomy r s with c | c | c
  · have := h'.2.2 r h.2.1 c
    rw [h.1] at this
    cases this
  · exact c
  · have := h.2.2 s h'.2.1 c
    rw [h'.1] at this
    cases this
theorem rounds_even {k : Nat} (h : k % 2 = 0) (h2 : 2 < k) : rounds k = false := by
  unfold rounds
  rw [if_neg (by omega)]
  have : fst? k = some 2 := by
    unfold fst? BS
    rw [List.find?_cons_of_pos (by rw [h]; rfl)]
  rw [this]
  exact beq_eq_false_iff_ne.mpr (by omega)
def spNp : Sp := fun vs H Q _ => ∃ n : Int, vs = [.int n] ∧ n ≤ 100000000000000000000 ∧ ∀ r H', IsNx (max 2 (n + 1)).toNat r → Same H H' → Q (.int (r : Nat)) H'
theorem cal_np (D : Dn K mg "next_prime" s_next_prime ["n"]) (B : Bl mg) (c_is_prime : CalX P w K mg base "is_prime" 3 ["n"] (spIsP CR)) : Cal P w K mg base "next_prime" 4 ["n"] spNp := by
  refine D.cal sc_next_prime (fun vs H Q E h => ?_) (fun f cdv A outer s H vs Q E hr h => ?_)
  · obtain ⟨n, rfl, _⟩ := h
    rfl
  · obtain ⟨n, rfl, hn, q⟩ := h
    refine ⟨_, (pss_cons (ps_if (pt_cmpR op_lt (pv 0) pe_int (nomark _)) (pss_one (ps_ret pe_int)) pss_nil)
  (pss_cons (ps_aug (i := 0) sc_next_prime.nd rfl (Or.inl rfl) (pe_op op_add pe_int (pe_op op_mod (pv 0) pe_int)) ip_add)
  (pss_cons (ps_while PassesOwn.never (pt_not (pt_val (pe_calS c_is_prime takes0 (hr.mono (by decide)) rfl (pa_cons (pv 0) pa_nil)))) (pss_one (ps_aug (i := 0) sc_next_prime.nd rfl (Or.inl rfl) pe_int ip_add)))
  (pss_one (ps_ret (pv 0)))))), ?_⟩
    rw [CB.rd_seq]
    walk_at "rs"
    by_cases n2 : n < 2
    · rw [if_pos n2]
      have e : (max 2 (n + 1)).toNat = 2 := by omega
      rw [e] at q
      exact q 2 H ⟨by decide +kernel, by decide, fun j a b => by omega⟩ (Same.refl _)
    rw [if_neg n2, CB.rd_seq]
    walk_at "rs"
    obtain ⟨m, rfl⟩ := Int.eq_ofNat_of_zero_le (show 0 ≤ n by omega)
    have e : (max 2 ((m : Int) + 1)).toNat = m + 1 := by omega
    rw [e] at q
    have l20 : (100000000000000000000 : Int) = 100000000000000000000 := rfl
    obtain ⟨r, hr1, rN⟩ := ex_nx (lo := m + 1) (by unfold NXT; omega)
    have q := q r
    refine ⟨by decide, ?_⟩
    rw [CB.rd_seq]
    have e1 : (m : Int) + (1 + (m : Int) % 2) = ((m + (1 + m % 2) : Nat) : Int) := by omega
    rw [e1]
    have ro : r % 2 = 1 := by
      rcases Nat.mod_two_eq_zero_or_one r with z | z
      · have := rounds_even z (by have := hr1.2.1; omega)
        rw [hr1.1] at this
        cases this
      · exact z
    refine while_h (fun σ H' => ∃ k : Nat, σ = [some (.int k)] ∧ Same H H' ∧ k % 2 = 1 ∧ m + 1 ≤ k ∧ k ≤ r)
      (fun σ _ => match σ with | [some (.int k)] => (r - k).toNat | _ => 0) ⟨_, rfl, Same.refl _, by omega, by omega, by have := hr1.2.1; omega⟩ ?_
    rintro σ H' ⟨k, rfl, sm, ko, k1, kr⟩ N hN R hT hF
    have rB : r < 3317044064679887385961981 := by unfold NXT at rN; omega
    walk_at "rs"
    refine ⟨(k : Int), rfl, .inr ⟨by unfold BND; omega, fun H1 s1 => ⟨_, rfl, ?_⟩⟩⟩
    rw [Int.toNat_natCast]
    cases c : rounds k with
    | false =>
      refine hT H1 ?_
      walk_at "rs"
      have ne : k ≠ r := fun z => by rw [z, hr1.1] at c; cases c
      have ne2 : k + 1 ≠ r := fun z => by omega
      have e2 : (k : Int) + 2 = ((k + 2 : Nat) : Int) := by omega
      rw [e2]
      exact hN _ _ ⟨k + 2, rfl, sm.trans s1, by omega, by omega, by omega⟩ (by show ((r : Int) - ((k + 2 : Nat) : Int)).toNat < ((r : Int) - (k : Int)).toNat; omega)
    | true =>
      refine hF H1 ?_
      have er : k = r := by
        rcases Nat.lt_or_ge k r with z | z
        · have := hr1.2.2 k k1 z
          rw [c] at this
          cases this
        · omega
      subst er
      walk_at "rs"
      exact q H1 hr1 (sm.trans s1)
end

/-! ### sieves -/
section
/-- some d from 2 on below p, of square at most k, divides k -/
def sv (p k : Nat) : Bool := (List.range p).any fun d => decide (2 ≤ d) && (decide (d * d ≤ k) && k % d == 0)
theorem sv_iff {p k : Nat} : sv p k = true ↔ ∃ d, 2 ≤ d ∧ d < p ∧ d * d ≤ k ∧ d ∣ k := by
  unfold sv
  rw [List.any_eq_true]
  constructor
  · rintro ⟨d, hd, h⟩
    rw [Bool.and_eq_true, Bool.and_eq_true, decide_eq_true_eq, decide_eq_true_eq, beq_iff_eq] at h
    exact ⟨d, h.1, List.mem_range.mp hd, h.2.1, Nat.dvd_of_mod_eq_zero h.2.2⟩
  · rintro ⟨d, h2, hp, hk, hd⟩
    refine ⟨d, List.mem_range.mpr hp, ?_⟩
    rw [Bool.and_eq_true, Bool.and_eq_true, decide_eq_true_eq, decide_eq_true_eq, beq_iff_eq]
    exact ⟨h2, hk, Nat.mod_eq_zero_of_dvd hd⟩
theorem sv_two {k : Nat} : sv 2 k = false := by
  rw [Bool.eq_false_iff]
  intro h
  obtain ⟨d, a, b, _⟩ := sv_iff.mp h
  omega
theorem sv_succ {p k : Nat} (h : 2 ≤ p) : sv (p + 1) k = (sv p k || (decide (p * p ≤ k) && k % p == 0)) := by
  unfold sv
  rw [List.range_succ, List.any_append]
  simp [h]
/-- a marked number's multiples are marked already -/
theorem sv_skip {p k : Nat} (h : 2 ≤ p) (hm : sv p p = true) : sv (p + 1) k = sv p k := by
  rw [sv_succ h]
  cases c : decide (p * p ≤ k) && k % p == 0 with
  | false => rw [Bool.or_false]
  | true =>
    rw [Bool.and_eq_true, decide_eq_true_eq, beq_iff_eq] at c
    obtain ⟨d, a, b, e, f⟩ := sv_iff.mp hm
    have pp : p ≤ p * p := Nat.le_mul_of_pos_left p (by omega)
    rw [Bool.or_true]
    exact (sv_iff.mpr ⟨d, a, b, by omega, Nat.dvd_trans f (Nat.dvd_of_mod_eq_zero c.2)⟩).symm
theorem sv_all {M k : Nat} (hk : 2 ≤ k) (h : k < M * M) : sv M k = sv k k := by
  rw [Bool.eq_iff_iff, sv_iff, sv_iff]
  constructor
  · rintro ⟨d, a, b, c, e⟩
    refine ⟨d, a, ?_, c, e⟩
    have : d * 2 ≤ d * d := Nat.mul_le_mul_left d a
    omega
  · rintro ⟨d, a, b, c, e⟩
    refine ⟨d, a, ?_, c, e⟩
    rcases Nat.lt_or_ge d M with z | z
    · exact z
    · have := Nat.mul_le_mul z z
      omega
def pb (k : Nat) : Bool := decide (2 ≤ k) && !sv k k
theorem pb_prm {k : Nat} : pb k = true ↔ Prm k := by
  unfold pb
  rw [Bool.and_eq_true, decide_eq_true_eq, Bool.not_eq_true', Bool.eq_false_iff]
  constructor
  · rintro ⟨h2, h⟩
    refine prm_of h2 fun e e2 ee d => h (sv_iff.mpr ⟨e, e2, ?_, ee, d⟩)
    have : e * 2 ≤ e * e := Nat.mul_le_mul_left e e2
    omega
  · rintro hp
    refine ⟨hp.1, fun h => ?_⟩
    obtain ⟨d, a, b, c, e⟩ := sv_iff.mp h
    exact hp.2 d a b e
def plist (n : Nat) : List Nat := (List.range (n + 1)).filter pb
theorem plist_succ (n : Nat) : plist (n + 1) = plist n ++ if pb (n + 1) then [n + 1] else [] := by
  unfold plist
  rw [List.range_succ, List.filter_append]
  cases h : pb (n + 1) <;> simp [List.filter, h]
theorem plist_one : plist 1 = [] := by decide
theorem plist_small {n : Nat} (h : n < 2) : plist n = [] := by
  have : n = 0 ∨ n = 1 := by omega
  rcases this with rfl | rfl <;> decide
theorem plist_len (n : Nat) : (plist n).length ≤ n + 1 := by
  have := List.length_filter_le pb (List.range (n + 1))
  rw [List.length_range] at this
  exact this
/-- the marks behind the numbers below p -/
def mks (n p : Nat) : List Bool := (List.range (n + 1)).map fun k => !sv p k
theorem mks_len {n p : Nat} : (mks n p).length = n + 1 := by
  unfold mks
  rw [List.length_map, List.length_range]
theorem mks_get {n p k : Nat} (h : k ≤ n) : (mks n p)[k]? = some (!sv p k) := by
  unfold mks
  rw [List.getElem?_map, List.getElem?_range (by omega)]
  rfl
theorem mks_two {n : Nat} : mks n 2 = List.replicate (n + 1) true := by
  unfold mks
  refine List.eq_replicate_iff.mpr ⟨by rw [List.length_map, List.length_range], fun b hb => ?_⟩
  obtain ⟨k, _, rfl⟩ := List.mem_map.mp hb
  rw [sv_two]
  rfl
theorem set_get {α : Type} (v : α) : ∀ (ks : List Nat) (xs : List α) (i : Nat), (ks.foldl (fun zs k => zs.set k v) xs)[i]? = if i ∈ ks ∧ i < xs.length then some v else xs[i]?
  | [], xs, i => by
    rw [if_neg (by rintro ⟨h, _⟩; cases h)]
    rfl
  | k :: ks, xs, i => by
    show (ks.foldl (fun zs k => zs.set k v) (xs.set k v))[i]? = _
    rw [set_get v ks, List.length_set]
    by_cases h : i ∈ ks ∧ i < xs.length
    · rw [if_pos h, if_pos ⟨List.mem_cons_of_mem _ h.1, h.2⟩]
    · rw [if_neg h]
      by_cases e : k = i
      · subst e
        by_cases l : k < xs.length
        · rw [if_pos ⟨List.mem_cons_self, l⟩, List.getElem?_set_self l]
        · rw [if_neg (fun z => l z.2), List.getElem?_eq_none (by rw [List.length_set]; omega), List.getElem?_eq_none (by omega)]
      · rw [List.getElem?_set_ne e, if_neg]
        rintro ⟨a, b⟩
        rcases List.mem_cons.mp a with z | z
        · exact e z.symm
        · exact h ⟨z, b⟩
theorem putS_rep {α : Type} (xs : List α) (v : α) (m d e st : Nat) (h : st ≠ 1) : putS xs (List.replicate m v) d e st = ((List.range m).map fun j => d + st * j).foldl (fun zs k => zs.set k v) xs := by
  unfold putS
  rw [if_neg h, List.length_replicate]
  have : ∀ (ks : List Nat) (zs : List α), (ks.zip (List.replicate ks.length v)).foldl (fun zs q => zs.set q.1 q.2) zs = ks.foldl (fun zs k => zs.set k v) zs := by
    intro ks
    induction ks with
    | nil => intro zs; rfl
    | cons k ks ih =>
      intro zs
      rw [List.length_cons, List.replicate_succ]
      exact ih (zs.set k v)
  have t := this ((List.range m).map fun j => d + st * j) xs
  rw [List.length_map, List.length_range] at t
  exact t
theorem cross_mem {n p m k : Nat} (h2 : 2 ≤ p) (hp : p * p ≤ n) (hm : m = (n - p * p) / p + 1) (hk : k ≤ n) : (k ∈ (List.range m).map fun j => p * p + p * j) ↔ p * p ≤ k ∧ k % p = 0 := by
  rw [List.mem_map]
  constructor
  · rintro ⟨j, _, rfl⟩
    refine ⟨by omega, ?_⟩
    rw [← Nat.mul_add]
    exact Nat.mul_mod_right p _
  · rintro ⟨a, b⟩
    obtain ⟨c, rfl⟩ := Nat.dvd_of_mod_eq_zero b
    have pc : p ≤ c := Nat.le_of_mul_le_mul_left a (by omega)
    refine ⟨c - p, List.mem_range.mpr ?_, by rw [Nat.mul_sub, ← Nat.add_sub_assoc (Nat.mul_le_mul_left p pc)]; omega⟩
    subst hm
    have : c - p ≤ (n - p * p) / p := by
      rw [Nat.le_div_iff_mul_le (by omega), Nat.mul_comm, Nat.mul_sub]
      omega
    omega
/-- crossing out from p p on -/
theorem mks_step {n p m : Nat} (h2 : 2 ≤ p) (hp : p * p ≤ n) (hm : m = (n - p * p) / p + 1) : ((List.range m).map fun j => p * p + p * j).foldl (fun zs k => zs.set k false) (mks n p) = mks n (p + 1) := by
  refine List.ext_getElem? fun k => ?_
  rw [set_get, mks_len]
  rcases Nat.lt_or_ge k (n + 1) with c | c
  · rw [mks_get (by omega), mks_get (by omega), sv_succ h2]
    by_cases e : p * p ≤ k ∧ k % p = 0
    · rw [if_pos ⟨(cross_mem h2 hp hm (by omega)).mpr e, c⟩]
      simp [e.1, e.2]
    · rw [if_neg (fun z => e ((cross_mem h2 hp hm (by omega)).mp z.1))]
      have : (decide (p * p ≤ k) && k % p == 0) = false := by
        rw [Bool.eq_false_iff, ne_eq, Bool.and_eq_true, decide_eq_true_eq, beq_iff_eq]
        exact e
      rw [this, Bool.or_false]
  · rw [if_neg (by omega), List.getElem?_eq_none (by rw [mks_len]; omega), List.getElem?_eq_none (by rw [mks_len]; omega)]
theorem mks_skip {n p : Nat} (h2 : 2 ≤ p) (h : sv p p = true) : mks n (p + 1) = mks n p := by
  unfold mks
  exact List.map_congr_left fun k _ => by rw [sv_skip h2 h]
theorem mks_over {n p : Nat} (h2 : 2 ≤ p) (h : n < p * p) : mks n (p + 1) = mks n p := by
  unfold mks
  refine List.map_congr_left fun k hk => ?_
  have := List.mem_range.mp hk
  rw [sv_succ h2, decide_eq_false (by omega), Bool.false_and, Bool.or_false]
theorem putS_map {m d e st : Nat} {xs : List Bool} (h : st ≠ 1) : putS (xs.map V.bl) (List.replicate m (V.bl false)) d e st = (((List.range m).map fun j => d + st * j).foldl (fun zs k => zs.set k false) xs).map V.bl := by
  rw [putS_rep _ _ _ _ _ _ h]
  generalize (List.range m).map (fun j => d + st * j) = ks
  induction ks generalizing xs with
  | nil => rfl
  | cons k ks ih =>
    show ks.foldl _ ((xs.map V.bl).set k (V.bl false)) = (ks.foldl _ (xs.set k false)).map V.bl
    rw [← List.map_set]
    exact ih
end
section
variable {P : Program} {w : World} {K : PySem.W.Frag} {mg : Str → Option Value} {base : Heap} {CR : Addr}
theorem ixNk {n j : Nat} (hj : j < n) : ixN n (j : Int) = some j := by
  show (if (0 : Int) ≤ (j : Int) then (if (j : Int) < (n : Int) then some (j : Int).toNat else none) else _) = _
  rw [if_pos (show (0 : Int) ≤ (j : Int) by omega), if_pos (show (j : Int) < (n : Int) by omega), Int.toNat_natCast]
def vNs (ns : List Nat) : List V := ns.map fun n : Nat => V.int (n : Int)
theorem vNs_len {ns : List Nat} : (vNs ns).length = ns.length := List.length_map ..
theorem rep_one {m : Nat} {v : V} : (List.replicate m [v]).flatten = List.replicate m v := by
  induction m with
  | zero => rfl
  | succ m ih => rw [List.replicate_succ, List.flatten_cons, ih, List.replicate_succ]; rfl
abbrev s_primes_to : Stmt := top 13
theorem sc_primes_to : FnScope ["n", "flags", "p"] ["n"] (defScope s_primes_to) := ⟨rfl, rfl, rfl, by decide +kernel, rfl, by decide +kernel, by decide +kernel⟩

def spPt : Sp := fun vs H Q _ => ∃ n : Int, vs = [.int n] ∧ n ≤ 20000 ∧ ∀ a H', Same H H' → H a = none → H' a = some (.tup (vNs (plist n.toNat))) → Q (.ref a) H'
theorem cal_pt (D : Dn K mg "primes_to" s_primes_to ["n"]) (B : Bl mg) : Cal P w K mg base "primes_to" 1 ["n"] spPt := by
  refine D.cal sc_primes_to (fun vs H Q E h => ?_) (fun f cdv A outer s H vs Q E hr h => ?_)
  · obtain ⟨n, rfl, _⟩ := h
    rfl
  · obtain ⟨n, rfl, hn, q⟩ := h
    refine ⟨_, (pss_cons (ps_if (pt_cmpR op_lt (pv 0) pe_int (nomark _)) (pss_one (ps_ret (pe_tup pa_nil))) pss_nil)
  (pss_cons (ps_set (i := 1) sc_primes_to.nd rfl (Or.inr rfl) (pe_op op_rep (pe_lst (pa_cons pe_bl pa_nil)) (pe_op op_add (pv 0) pe_int)))
  (pss_cons (ps_for PassesOwn.never rfl (pi_range2 rfl B.range (pa_cons pe_int (pa_cons (pe_op op_add (pe_callBfun cr_isqrt rfl B.isqrt (pa_cons (pv 0) pa_nil)) pe_int) pa_nil))) (pg_name (i := 2) sc_primes_to.nd rfl (Or.inl rfl)) (pss_one (ps_if (pt_truth (pe_ix ix_list (pv 1) (pv 2) (fun _ _ => rfl)) (by intro _; rfl)) (pss_one (ps_asg (pe_op op_rep (pe_lst (pa_cons pe_bl pa_nil)) (pe_op op_add (pe_op op_fdivW (pe_op op_sub (pv 0) (pe_op op_mulI (pv 2) (pv 2))) (pv 2)) pe_int)) (pg_putS (pv 1) (po_some (pe_op op_mulI (pv 2) (pv 2))) (po_some (pv 2))))) pss_nil)))
  (pss_one (ps_ret (pe_callTy cr_tupOf rfl B.tuple boot_tuple (pa_cons (pe_lc (own := [("p", 2)]) rfl sc_primes_to.nd (pi_range2 rfl B.range (pa_cons pe_int (pa_cons (pe_op op_add (pv 0) pe_int) pa_nil))) (blkOk_by (N := ["n", "flags", "p"]) (sc := defScope s_primes_to) (own := [("p", 2)]) (by decide +kernel)) (fun _ _ _ _ _ => (pg_name (i := 2) sc_primes_to.nd rfl (Or.inl rfl))) (fun _ _ _ _ _ => (pts_one (pt_truthK (K := K) rfl (pe_ix (ix_listK (K := K) rfl) (pv 1) (pv 2) (fun _ _ => rfl)) (by intro _; rfl)))) (fun _ _ _ _ _ => (pv 2))) pa_nil))))))), ?_⟩
    rw [CB.rd_seq]
    walk_at "rs"
    by_cases n2 : n < 2
    · rw [if_pos n2]
      refine ⟨by decide, fun a na => q a _ (same_upd na) na ?_⟩
      rw [plist_small (by omega), upd_same]
      rfl
    rw [if_neg n2, CB.rd_seq]
    walk_at "rs"
    obtain ⟨m, rfl⟩ := Int.eq_ofNat_of_zero_le (show 0 ≤ n by omega)
    rw [Int.toNat_natCast] at q
    have szL : 100000 ≤ sizeLine := by rw [PySem.sizeLine_eq]; decide
    refine ⟨by omega, fun p np => ⟨_, upd_same, by omega, by omega, ?_, fun a na => ?_⟩⟩
    · show 1 * _ ≤ _
      omega
    rw [CB.rd_seq]
    walk_at "rs"
    have i1 := isq_le (n := (m : Int)) (by omega)
    have i2 := isq_lt (n := (m : Int)) (by omega)
    have ei : isq (m : Int) = ((Float64.isqrt (m : Int).toNat : Nat) : Int) := rfl
    rw [ei] at i1 i2
    generalize Float64.isqrt (m : Int).toNat = r at *
    have j1 : r * r ≤ m := by
      rw [← Int.natCast_mul] at i1
      omega
    have j2 : m < (r + 1) * (r + 1) := by
      have e : ((r : Int) + 1) * ((r : Int) + 1) = (((r + 1) * (r + 1) : Nat) : Int) := by rw [Int.natCast_mul, Int.natCast_add]; rfl
      omega
    have r1 : 1 ≤ r := by
      rcases Nat.eq_zero_or_pos r with z | z
      · subst z
        omega
      · exact z
    have rm : r ≤ m := Nat.le_trans (Nat.le_mul_of_pos_left r r1) j1
    have big : (m : Int) < 2 ^ 13000 := Int.lt_of_le_of_lt hn (by decide)
    refine ⟨by omega, big, by omega, by omega, by omega, by omega, ?_⟩
    rw [show ((r : Int) + 1 - 2).toNat = r - 1 by omega]
    have naH : H a = none := by
      by_cases e : a = p
      · subst e; exact np
      · rw [upd_ne e] at na; exact na
    have ne : a ≠ p := fun e => by subst e; rw [upd_same] at na; cases na
    have s0 : Same H (upd H p (.lst [V.bl true])) := same_upd np
    refine ForR.w (fun i σ H2 => ∃ s2, σ = [some (.int m), some (.ref a), s2] ∧ Same H H2 ∧ H2 a = some (.lst ((mks m (i + 2)).map V.bl))) ⟨none, rfl, s0.trans (same_upd na), ?_⟩ ?_ ?_
    · rw [upd_same, mks_two, show ((m : Int) + 1).toNat = m + 1 by omega, rep_one, List.map_replicate]
    · rintro i σ H2 hi ⟨s2, rfl, sm, ha⟩ N hN
      rw [show (2 : Int) + (i : Int) = ((i + 2 : Nat) : Int) by omega]
      have pr : i + 2 ≤ r := by omega
      have hg : (mks m (i + 2))[i + 2]? = some (!sv (i + 2) (i + 2)) := mks_get (by omega)
      walk_at "rs"
      refine ⟨_, SqL.of ha, V.bl (!sv (i + 2) (i + 2)), atI_nat (by rw [List.getElem?_map, hg]; rfl), _, rfl, ?_⟩
      cases c : sv (i + 2) (i + 2) with
      | true =>
        rw [if_neg (by decide)]
        exact hN _ _ ⟨_, rfl, sm, by rw [show i + 1 + 2 = i + 2 + 1 from rfl, mks_skip (by omega) c]; exact ha⟩
      | false =>
        rw [if_pos (by decide)]
        obtain ⟨pN, eN⟩ : ∃ pN, pN = i + 2 := ⟨_, rfl⟩
        rw [← eN] at ha c hg pr ⊢
        have p2 : 2 ≤ pN := by omega
        have pp : pN * pN ≤ m := Nat.le_trans (Nat.mul_le_mul pr pr) j1
        have em : (pN : Int) * (pN : Int) = ((pN * pN : Nat) : Int) := (Int.natCast_mul _ _).symm
        have ed : ((m : Int) - ((pN * pN : Nat) : Int)) / (pN : Int) = (((m - pN * pN) / pN : Nat) : Int) := by
          rw [Int.natCast_ediv]
          congr 1
          omega
        have dl : (m - pN * pN) / pN ≤ m := Nat.le_trans (Nat.div_le_self _ _) (Nat.sub_le _ _)
        rw [em, ed]
        clear ed
        generalize hq : (m - pN * pN) / pN = cq at *
        refine ⟨by omega, fun b nb => ⟨mulL (by omega), ?_, _, upd_same, by omega, by omega, ?_, fun b2 nb2 => ⟨mulL (by omega), ?_⟩⟩⟩
        · exact ⟨by omega, lg_int (by omega)⟩
        · show 1 * _ ≤ _
          omega
        have ab : a ≠ b := fun e => by subst e; rw [nb] at ha; cases ha
        have ab2 : a ≠ b2 := fun e => by
          subst e
          rw [upd_ne ab, ha] at nb2
          cases nb2
        have cnt : ((cq : Int) + 1).toNat = cq + 1 := by omega
        rw [rep_one, cnt]
        refine rPutS.w (d := pN * pN) (st := pN) ab2 (by rw [upd_ne ab2, upd_ne ab]; exact ha) upd_same rfl rfl (by omega) ?_ ?_ ?_ (hN _ _ ⟨_, rfl, ?_, ?_⟩)
        · rw [List.length_map, mks_len]
          omega
        · rw [List.length_map, mks_len, List.length_replicate]
          omega
        · intro _
          rw [List.length_map, mks_len, List.length_replicate]
          have : m + 1 - pN * pN + (pN - 1) = m - pN * pN + pN := by omega
          rw [this, Nat.add_div_right _ (by omega), hq]
        · exact same_at ((sm.trans (same_upd nb)).trans (same_upd nb2)) naH
        · rw [upd_same, putS_map (by omega), mks_step p2 pp (by rw [hq])]
          rw [eN]
    · rintro σ H2 ⟨s2, rfl, sm, ha⟩
      have er : r - 1 + 2 = r + 1 := by omega
      rw [er] at ha
      dsimp only []
      walk_at "rd"
      refine ⟨by omega, by omega, by omega, by omega, ?_⟩
      rw [show ((m : Int) + 1 - 2).toNat = m - 1 by omega]
      refine LcR.p (fun j => if pb (j + 2) then some (V.int ((j + 2 : Nat) : Int)) else none) (by omega) ?_ ?_
      · rintro j hj H3 s3 M S hM hS
        have hg : (mks m (r + 1))[j + 2]? = some (!sv (r + 1) (j + 2)) := mks_get (by omega)
        have e2 : (2 : Int) + (j : Int) = ((j + 2 : Nat) : Int) := by omega
        rw [e2]
        walk_at "rd"
        refine ⟨_, SqL.of (s3 _ _ ha), V.bl (!sv (r + 1) (j + 2)), atI_nat (by rw [List.getElem?_map, hg]; rfl), _, rfl, ?_⟩
        have es : sv (r + 1) (j + 2) = sv (j + 2) (j + 2) := sv_all (by omega) (by omega)
        have ep : pb (j + 2) = !sv (j + 2) (j + 2) := by
          unfold pb
          rw [decide_eq_true (by omega), Bool.true_and]
        rw [es, ← ep]
        cases c : pb (j + 2) with
        | true =>
          rw [if_pos rfl]
          exact hM _ _ (by rw [c]; rfl) (Same.refl _)
        | false =>
          rw [if_neg (by decide)]
          exact hS _ (by rw [c]; rfl) (Same.refl _)
      · intro D H3 nD s3 hD
        have el : (List.range (m - 1)).filterMap (fun j => if pb (j + 2) then some (V.int ((j + 2 : Nat) : Int)) else none) = vNs (plist m) := by
          have key : ∀ k : Nat, (List.range k).filterMap (fun j => if pb (j + 2) then some (V.int ((j + 2 : Nat) : Int)) else none) = vNs (plist (k + 1)) := fun k => by
            induction k with
            | zero => rw [plist_one]; rfl
            | succ k ih =>
              rw [List.range_succ, List.filterMap_append, ih, plist_succ (k + 1)]
              unfold vNs
              rw [List.map_append]
              cases c : pb (k + 1 + 1)
              · simp [c]
              · simp [c]
                omega
          rw [key, show m - 1 + 1 = m by omega]
        rw [el] at hD
        walk_at "rd"
        have z := plist_len m
        exact ⟨_, .inl ⟨SqL.of hD, fun t nt => q t _ ((sm.trans s3).trans (same_upd nt)) (by
          rcases hh : H t with _ | o
          · rfl
          · have := (sm.trans s3) _ _ hh
            rw [this] at nt
            cases nt) upd_same⟩⟩
end

section
variable {P : Program} {w : World} {K : PySem.W.Frag} {mg : Str → Option Value} {base : Heap} {CR : Addr}
abbrev s__law_primes : Stmt := top 23
theorem sc__law_primes : FnScope ["most", "marks", "found", "n", "k"] ["most"] (defScope s__law_primes) := ⟨rfl, rfl, rfl, by decide +kernel, rfl, by decide +kernel, by decide +kernel⟩

def spLp : Sp := fun vs H Q _ => ∃ n : Int, vs = [.int n] ∧ n ≤ 20000 ∧ -20000 ≤ n ∧ ∀ l H', Same H H' → H l = none → H' l = some (.lst (vNs (plist n.toNat))) → Q (.ref l) H'
theorem clr_eq {n p : Nat} (xs : List Bool) : ∀ k, (List.range k).foldl (fun zs j => zs.set (p * p + p * j) false) xs = ((List.range k).map fun j => p * p + p * j).foldl (fun zs i => zs.set i false) xs := fun k => by
  rw [List.foldl_map]
theorem mks_fold {n p i : Nat} (h2 : 2 ≤ p) (hp : p * p ≤ n) : (List.range ((n - p * p) / p + 1)).foldl (fun zs j => zs.set (p * p + p * j) false) (mks n p) = mks n (p + 1) := by
  rw [clr_eq (n := n), mks_step h2 hp rfl]
def cnt (n p : Nat) : Nat := if p * p ≤ n then (n - p * p) / p + 1 else 0
theorem rsz {p n : Nat} (h2 : 2 ≤ p) : Builtin.Range.rangeSize ((p * p : Nat) : Int) ((n + 1 : Nat) : Int) (p : Int) = (cnt n p : Int) := by
  unfold Builtin.Range.rangeSize cnt
  rw [if_pos (show (p : Int) > 0 by omega)]
  by_cases c : p * p ≤ n
  · rw [if_pos (by omega), if_pos c]
    have e : ((n + 1 : Nat) : Int) - ((p * p : Nat) : Int) - 1 = ((n - p * p : Nat) : Int) := by omega
    rw [e, ← Int.natCast_ediv]
    rfl
  · rw [if_neg (by omega), if_neg c]
    rfl
theorem cnt_le {n p : Nat} (h2 : 2 ≤ p) {j : Nat} (hj : j < cnt n p) : p * p + p * j ≤ n := by
  unfold cnt at hj
  split at hj
  · rename_i c
    have a : j ≤ (n - p * p) / p := by omega
    have b : p * j ≤ p * ((n - p * p) / p) := Nat.mul_le_mul_left p a
    have d := Nat.mul_div_le (n - p * p) p
    omega
  · omega
theorem cnt_n {n p : Nat} : cnt n p ≤ n + 1 := by
  unfold cnt
  split
  · have := Nat.div_le_self (n - p * p) p
    omega
  · omega
theorem rgc {p n : Nat} (h2 : 2 ≤ p) (hp : p ≤ 20001) (hn : n ≤ 20001) : RgC ((p * p : Nat) : Int) ((n + 1 : Nat) : Int) (p : Int) (cnt n p) := by
  refine ⟨by omega, by omega, ?_, rsz h2⟩
  have pp : p * p ≤ 20001 * 20001 := Nat.mul_le_mul hp hp
  have cn := cnt_n (n := n) (p := p)
  unfold Builtin.Range.small
  rw [rsz h2]
  generalize cnt n p = c at *
  generalize p * p = pq at *
  simp only [Builtin.Range.rangeFitsLong, Bool.and_eq_true, Bool.or_eq_true, decide_eq_true_eq, beq_iff_eq]
  refine ⟨⟨⟨⟨⟨by omega, by omega⟩, by omega, by omega⟩, by omega, by omega⟩, by omega, by omega⟩, .inr ?_⟩
  rw [if_pos (by omega), Bool.and_eq_true, decide_eq_true_eq, decide_eq_true_eq]
  omega
theorem cal_lp (D : Dn K mg "_law_primes" s__law_primes ["most"]) (B : Bl mg) : Cal P w K mg base "_law_primes" 1 ["most"] spLp := by
  refine D.cal sc__law_primes (fun vs H Q E h => ?_) (fun f cdv A outer s H vs Q E hr h => ?_)
  · obtain ⟨n, rfl, _⟩ := h
    rfl
  · obtain ⟨n, rfl, hn, hn2, q⟩ := h
    refine ⟨_, (pss_cons (ps_setLc (i := 1) (own := [("n", 3)]) rfl sc__law_primes.nd rfl rfl (sw_true rfl rfl rfl (by decide +kernel)) (pi_range1 rfl B.range (pa_cons (pe_op op_add (pe_callB (call_max2 rfl) rfl B.max (by decide +kernel) (pa_cons (pv 0) (pa_cons pe_int pa_nil))) pe_int) pa_nil)) (blkOk_by (N := ["most", "marks", "found", "n", "k"]) (sc := defScope s__law_primes) (own := [("n", 3)]) (by decide +kernel)) (fun _ _ _ _ _ => (pg_name (i := 3) sc__law_primes.nd rfl (Or.inl rfl))) (fun _ _ _ _ _ => pts_nil) (fun _ _ _ _ _ => pe_bl))
  (pss_cons (ps_set (i := 2) sc__law_primes.nd rfl (Or.inl rfl) (pe_lst pa_nil))
  (pss_cons (ps_for PassesOwn.never rfl (pi_range2 rfl B.range (pa_cons pe_int (pa_cons (pe_op op_add (pv 0) pe_int) pa_nil))) (pg_name (i := 3) sc__law_primes.nd rfl (Or.inl rfl)) (pss_one (ps_if (pt_truth (pe_ix ix_list (pv 1) (pv 3) (fun _ _ => rfl)) (by intro _; rfl)) (pss_cons (ps_expr (pe_bm PySem.F.plainAttrs_list PySem.F.slot_list_append PySem.F.type_list_append mt_append (pv 2) (pa_cons (pv 3) pa_nil)))
  (pss_one (ps_for PassesOwn.never rfl (pi_range3 rfl B.range (pa_cons (pe_op op_mulI (pv 3) (pv 3)) (pa_cons (pe_op op_add (pv 0) pe_int) (pa_cons (pv 3) pa_nil)))) (pg_name (i := 4) sc__law_primes.nd rfl (Or.inl rfl)) (pss_one (ps_asg pe_bl (pg_sub (pv 1) (pv 4) set_list)))))) pss_nil)))
  (pss_one (ps_ret (pv 2)))))), ?_⟩
    obtain ⟨m, hm⟩ : ∃ m : Nat, (if (1 : Int) > n then 1 else n) = (m : Int) := ⟨(if (1 : Int) > n then 1 else n).toNat, by split <;> omega⟩
    have m1 : 1 ≤ m ∧ m ≤ 20000 := by split at hm <;> omega
    have mn : (n + 1 - 2).toNat = m - 1 := by split at hm <;> omega
    have mp : plist n.toNat = plist m := by
      split at hm
      · rw [plist_small (show n.toNat < 2 by omega), show m = 1 by omega, plist_one]
      · rw [show n.toNat = m by omega]
    rw [mp] at q
    have me : ∀ k : Nat, 2 ≤ k → k ≤ m → n + 1 = ((m + 1 : Nat) : Int) := fun k a b => by split at hm <;> omega
    rw [CB.rd_seq]
    walk_at "rs"
    rw [hm, show ((m : Int) + 1).toNat = m + 1 by omega]
    refine ⟨by omega, by omega, ?_⟩
    refine LcR.p (fun _ => some (V.bl true)) (by omega) ?_ ?_
    · rintro j hj H3 s3 M S hM hS
      walk_at "rd"
      exact hM _ _ rfl (Same.refl _)
    intro a H1 na s1 ha
    have el : (List.range (m + 1)).filterMap (fun _ => some (V.bl true)) = (mks m 2).map V.bl := by
      rw [mks_two, List.map_replicate, List.filterMap_eq_map']
      refine List.eq_replicate_iff.mpr ⟨by rw [List.length_map, List.length_range], fun b hb => ?_⟩
      obtain ⟨k, _, rfl⟩ := List.mem_map.mp hb
      rfl
    rw [el] at ha
    rw [CB.rd_seq]
    walk_at "rs"
    refine ⟨by decide, fun b nb => ?_⟩
    have naH : H a = none := na
    have ab : a ≠ b := fun e => by subst e; rw [ha] at nb; cases nb
    have nbH : H b = none := s1.free nb
    rw [CB.rd_seq]
    walk_at "rs"
    refine ⟨by omega, by omega, by omega, by omega, ?_⟩
    rw [mn]
    have szL : 100000 ≤ sizeLine := by rw [PySem.sizeLine_eq]; decide
    refine ForR.w (fun i σ H2 => ∃ s3 s4, σ = [some (.int n), some (.ref a), some (.ref b), s3, s4] ∧ Same H H2 ∧ H2 a = some (.lst ((mks m (i + 2)).map V.bl)) ∧ H2 b = some (.lst (vNs (plist (i + 1))))) ⟨_, _, rfl, s1.trans (same_upd nb), by rw [upd_ne ab]; exact ha, by rw [upd_same, plist_one]; rfl⟩ ?_ ?_
    · rintro i σ H2 hi ⟨s3, s4, rfl, sm, h2a, h2b⟩ N hN
      obtain ⟨p, hp⟩ : ∃ p, p = i + 2 := ⟨_, rfl⟩
      rw [show (2 : Int) + (i : Int) = (p : Int) by omega]
      rw [← hp] at h2a
      have p2 : 2 ≤ p := by omega
      have pm : p ≤ m := by omega
      have hg : (mks m p)[p]? = some (!sv p p) := mks_get pm
      have ep : pb p = !sv p p := by
        unfold pb
        rw [decide_eq_true p2, Bool.true_and]
      have pl : plist (i + 1 + 1) = plist (i + 1) ++ if pb p then [p] else [] := by rw [hp]; exact plist_succ (i + 1)
      walk_at "rs"
      refine ⟨_, SqL.of h2a, V.bl (!sv p p), atI_nat (by rw [List.getElem?_map, hg]; rfl), _, rfl, ?_⟩
      cases c : sv p p with
      | true =>
        rw [if_neg (by decide)]
        refine hN _ _ ⟨_, _, rfl, sm, ?_, ?_⟩
        · rw [show i + 1 + 2 = p + 1 by omega, mks_skip p2 c]
          exact h2a
        · rw [pl, ep, c]
          show _ = some (HO.lst (vNs (plist (i + 1) ++ [])))
          rw [List.append_nil]
          exact h2b
      | false =>
        rw [if_pos (by decide)]
        rw [CB.rd_seq]
        walk_at "rs"
        have em : (p : Int) * (p : Int) = ((p * p : Nat) : Int) := (Int.natCast_mul _ _).symm
        rw [em, me p p2 pm]
        have ln := plist_len (i + 1)
        refine ⟨tyL h2b, _, h2b, by rw [vNs_len]; omega, mulL (by omega), _, rgc p2 (by omega) (by omega), ?_⟩
        have h3a : (upd H2 b (.lst (vNs (plist (i + 1)) ++ [V.int (p : Int)]))) a = some (.lst ((mks m p).map V.bl)) := by rw [upd_ne ab]; exact h2a
        have h3b : (upd H2 b (.lst (vNs (plist (i + 1)) ++ [V.int (p : Int)]))) b = some (.lst (vNs (plist (i + 1 + 1)))) := by
          rw [upd_same, pl, ep, c]
          unfold vNs
          rw [List.map_append]
          rfl
        have sm3 := same_at (o := HO.lst (vNs (plist (i + 1)) ++ [V.int (p : Int)])) sm nbH
        generalize upd H2 b (.lst (vNs (plist (i + 1)) ++ [V.int (p : Int)])) = H3 at *
        refine ForC.w (fun j σ H4 => ∃ s4, σ = [some (.int n), some (.ref a), some (.ref b), some (.int (p : Int)), s4] ∧ Same H H4 ∧ H4 a = some (.lst (((List.range j).foldl (fun zs j => zs.set (p * p + p * j) false) (mks m p)).map V.bl)) ∧ H4 b = some (.lst (vNs (plist (i + 1 + 1))))) ⟨_, rfl, sm3, h3a, h3b⟩ ?_ ?_
        · rintro j σ H4 hj ⟨s4, rfl, sm4, h4a, h4b⟩ N4 hN4
          have hk := cnt_le p2 hj
          have ek : ((p * p : Nat) : Int) + (j : Int) * (p : Int) = ((p * p + p * j : Nat) : Int) := by
            have e5 : ((p * j : Nat) : Int) = (j : Int) * (p : Int) := by rw [Int.natCast_mul, Int.mul_comm]
            omega
          rw [ek]
          walk_at "rs"
          have fl : ∀ (k : Nat) (xs : List Bool), ((List.range k).foldl (fun zs j => zs.set (p * p + p * j) false) xs).length = xs.length := fun k xs => by
            induction k with
            | zero => rfl
            | succ k ih => rw [List.range_succ, List.foldl_append]; show (List.set _ _ _).length = _; rw [List.length_set, ih]
          refine ⟨_, h4a, p * p + p * j, ixNk (by rw [List.length_map, fl, mks_len]; omega), hN4 _ _ ⟨_, rfl, same_at sm4 naH, ?_, ?_⟩⟩
          · rw [upd_same, List.range_succ, List.foldl_append]
            show _ = some (HO.lst ((List.set _ _ false).map V.bl))
            rw [List.map_set]
          · rw [upd_ne ab.symm]
            exact h4b
        · rintro σ H4 ⟨s4, rfl, sm4, h4a, h4b⟩
          refine hN _ _ ⟨_, _, rfl, sm4, ?_, h4b⟩
          rw [h4a, show i + 1 + 2 = p + 1 by omega]
          unfold cnt
          by_cases c2 : p * p ≤ m
          · rw [if_pos c2, mks_fold (i := i) p2 c2]
          · rw [if_neg c2, mks_over p2 (by omega)]
            rfl
    · rintro σ H2 ⟨s3, s4, rfl, sm, h2a, h2b⟩
      walk_at "rs"
      refine q b H2 sm nbH ?_
      rw [h2b, show m - 1 + 1 = m by omega]
end

section
variable {P : Program} {w : World} {K : PySem.W.Frag} {mg : Str → Option Value} {base : Heap} {CM CR aU a1 a2 : Addr}
theorem sqT_same {H H' : Hp} {a : Addr} {xs : List V} (s : Same H H') (h : SqT K H a xs) : SqT K H' a xs := by
  rcases h with (h | ⟨o, h⟩) | h
  · exact .inl (.inl (s _ _ h))
  · exact .inl (.inr ⟨o, s _ _ h⟩)
  · exact .inr h
theorem sqT_ty {H : Hp} {a : Addr} {xs : List V} (h : SqT K H a xs) : TyX K H (.ref a) (.type "tuple") := by
  rcases h with (h | ⟨o, h⟩) | ⟨o, its, n, e, c, _⟩
  · exact .base (.tup h)
  · exact .fTuple h
  · exact .kTuple e c
abbrev s__law_inner : Stmt := top 18
theorem sc__law_inner : FnScope ["value", "item"] ["value"] (defScope s__law_inner) := ⟨rfl, rfl, rfl, by decide +kernel, rfl, by decide +kernel, by decide +kernel⟩

def spInn : Sp := fun vs H Q _ => ∃ v : V, vs = [v] ∧ ((∃ n : Int, v = .int n) ∨ v = .non) ∧ Q v H
theorem cal_inn (D : Dn K mg "_law_inner" s__law_inner ["value"]) (B : Bl mg) : Cal P w K mg base "_law_inner" 1 ["value"] spInn := by
  refine D.cal sc__law_inner (fun vs H Q E h => ?_) (fun f cdv A outer s H vs Q E hr h => ?_)
  · obtain ⟨n, rfl, _⟩ := h
    rfl
  · obtain ⟨v, rfl, h, q⟩ := h
    refine ⟨_, (pss_cons (ps_if (pt_val (pe_callB call_isi rfl B.isinstance (by decide +kernel) (pa_cons (pv 0) (pa_cons (pe_bltn (v := .ty "tuple") rfl B.tuple boot_tuple rfl) pa_nil)))) pss_never pss_nil)
  (pss_cons (ps_if (PW.pt (pw_or (pt_cmpR op_isN (pv 0) pe_non (nomark _)) (pw_or (pt_val (pe_callB call_isi rfl B.isinstance (by decide +kernel) (pa_cons (pv 0) (pa_cons (pe_bltn (v := .ty "str") rfl B.str boot_str rfl) pa_nil)))) (pw_or1 (PW.pt (pw_and (pt_val (pe_callB call_isi rfl B.isinstance (by decide +kernel) (pa_cons (pv 0) (pa_cons (pe_bltn (v := .ty "int") rfl B.int boot_int rfl) pa_nil)))) (pw_and1 (pt_not (pt_val (pe_callB call_isi rfl B.isinstance (by decide +kernel) (pa_cons (pv 0) (pa_cons (pe_bltn (v := .ty "bool") rfl B.bool boot_bool rfl) pa_nil)))))))))))) (pss_one (ps_ret (pv 0))) pss_nil)
  (pss_one (ps_ret pe_str)))), ?_⟩
    walk_at "rd"
    rcases h with ⟨n, rfl⟩ | rfl
    · refine isi_mk (.base (.int n)) (b := false) (by decide +kernel) ⟨false, rfl, ?_⟩
      rw [if_neg Bool.false_ne_true, if_neg (fun z => by cases z)]
      refine isi_mk (.base (.int n)) (b := false) (by decide +kernel) ⟨false, rfl, ?_⟩
      rw [if_neg Bool.false_ne_true]
      refine isi_mk (.base (.int n)) (b := true) (by decide +kernel) ⟨true, rfl, ?_⟩
      rw [if_pos rfl]
      refine isi_mk (.base (.int n)) (b := false) (by decide +kernel) ⟨false, rfl, ?_⟩
      rw [if_pos (by decide)]
      exact q
    · refine isi_mk (.base .non) (b := false) (by decide +kernel) ⟨false, rfl, ?_⟩
      rw [if_neg Bool.false_ne_true, if_pos rfl]
      exact q
def spInnT (K : PySem.W.Frag) : Sp := fun vs H Q _ => ∃ (r : Addr) (ns : List Int), vs = [.ref r] ∧ SqT K H r (ns.map V.int) ∧ ns.length ≤ 30000 ∧ ∀ p H', Same H H' → H p = none → H' p = some (.tup (ns.map V.int)) → Q (.ref p) H'
theorem cal_innT (D : Dn K mg "_law_inner" s__law_inner ["value"]) (B : Bl mg) (c__law_inner : Cal P w K mg base "_law_inner" 1 ["value"] spInn) : Cal P w K mg base "_law_inner" 2 ["value"] (spInnT K) := by
  refine D.cal sc__law_inner (fun vs H Q E h => ?_) (fun f cdv A outer s H vs Q E hr h => ?_)
  · obtain ⟨r, ns, rfl, _⟩ := h
    rfl
  · obtain ⟨r, ns, rfl, ht, hl, q⟩ := h
    refine ⟨_, (pss_cons (ps_if (pt_val (pe_callB call_isi rfl B.isinstance (by decide +kernel) (pa_cons (pv 0) (pa_cons (pe_bltn (v := .ty "tuple") rfl B.tuple boot_tuple rfl) pa_nil)))) (pss_one (ps_ret (pe_callTy cr_tupOf rfl B.tuple boot_tuple (pa_cons (pe_lc (own := [("item", 1)]) rfl sc__law_inner.nd (pi_tup (pv 0)) (blkOk_by (N := ["value", "item"]) (sc := defScope s__law_inner) (own := [("item", 1)]) (by decide +kernel)) (fun _ _ _ _ _ => (pg_name (i := 1) sc__law_inner.nd rfl (Or.inl rfl))) (fun _ _ _ _ _ => pts_nil) (fun _ _ _ _ _ => (pe_cal c__law_inner (hr.mono (by decide)) rfl (pa_cons (pv 1) pa_nil)))) pa_nil)))) pss_nil)
  (pss_cons (ps_if (PW.pt (pw_or (pt_cmpR op_isN (pv 0) pe_non (nomark _)) (pw_or (pt_val (pe_callB call_isi rfl B.isinstance (by decide +kernel) (pa_cons (pv 0) (pa_cons (pe_bltn (v := .ty "str") rfl B.str boot_str rfl) pa_nil)))) (pw_or1 (PW.pt (pw_and (pt_val (pe_callB call_isi rfl B.isinstance (by decide +kernel) (pa_cons (pv 0) (pa_cons (pe_bltn (v := .ty "int") rfl B.int boot_int rfl) pa_nil)))) (pw_and1 (pt_not (pt_val (pe_callB call_isi rfl B.isinstance (by decide +kernel) (pa_cons (pv 0) (pa_cons (pe_bltn (v := .ty "bool") rfl B.bool boot_bool rfl) pa_nil)))))))))))) (pss_one (ps_ret (pv 0))) pss_nil)
  (pss_one (ps_ret pe_str)))), ?_⟩
    walk_at "rd"
    refine isi_mk (sqT_ty ht) (b := true) (by decide +kernel) ⟨true, rfl, ?_⟩
    rw [if_pos rfl]
    refine ⟨⟨_, ht⟩, LcT.w (xs := ns.map V.int) (fun i D zs H3 => zs = (ns.take i).map V.int ∧ Same H H3 ∧ H3 D = some (.lst zs) ∧ H D = none) (fun D nD => ⟨rfl, same_upd nD, upd_same, nD⟩) ?_ ?_ ?_⟩
    · rintro D i zs H3 _ ⟨_, sm, _, _⟩
      exact sqT_same sm ht
    · rintro D i v zs H3 hv ⟨rfl, sm, hD, nD⟩ N hN
      rw [List.getElem?_map] at hv
      obtain ⟨n, hn, rfl⟩ := Option.map_eq_some_iff.mp hv
      have hi : i < ns.length := (List.getElem?_eq_some_iff.mp hn).1
      walk_at "rd"
      refine ⟨.int n, rfl, .inl ⟨n, rfl⟩, _, hD, ?_, hN _ _ ⟨?_, same_at sm nD, upd_same, nD⟩⟩
      · rw [List.length_map, List.length_take]
        exact small_size (by omega)
      · rw [List.take_add_one, hn, List.map_append]
        rfl
    · rintro D zs H3 nD ⟨rfl, sm, hD, _⟩
      try walk_at "rd"
      rw [List.length_map, List.take_length] at hD
      exact ⟨_, .inl ⟨SqL.of hD, fun l nl => q l _ (sm.trans (same_upd nl)) (sm.free nl) upd_same⟩⟩
abbrev s__law_plain : Stmt := top 19
theorem sc__law_plain : FnScope ["value"] ["value"] (defScope s__law_plain) := ⟨rfl, rfl, rfl, by decide +kernel, rfl, by decide +kernel, by decide +kernel⟩

theorem cal_pl1 (D : Dn K mg "_law_plain" s__law_plain ["value"]) (B : Bl mg) (c__law_inner : Cal P w K mg base "_law_inner" 1 ["value"] spInn) : Cal P w K mg base "_law_plain" 2 ["value"] spInn := by
  refine D.cal sc__law_plain (fun vs H Q E h => ?_) (fun f cdv A outer s H vs Q E hr h => ?_)
  · obtain ⟨v, rfl, _⟩ := h
    rfl
  · obtain ⟨v, rfl, h, q⟩ := h
    refine ⟨_, (pss_one (ps_ret (pe_ifExp (pt_val (pe_callB call_isi rfl B.isinstance (by decide +kernel) (pa_cons (pv 0) (pa_cons (pe_bltn (v := .ty "str") rfl B.str boot_str rfl) pa_nil)))) pe_str (pe_cal c__law_inner (hr.mono (by decide)) rfl (pa_cons (pv 0) pa_nil))))), ?_⟩
    walk_at "rd"
    rcases h with ⟨n, rfl⟩ | rfl
    · refine isi_mk (.base (.int n)) (b := false) (by decide +kernel) ⟨false, rfl, ?_⟩
      rw [if_neg Bool.false_ne_true]
      exact ⟨_, rfl, .inl ⟨n, rfl⟩, q⟩
    · refine isi_mk (.base .non) (b := false) (by decide +kernel) ⟨false, rfl, ?_⟩
      rw [if_neg Bool.false_ne_true]
      exact ⟨_, rfl, .inr rfl, q⟩
theorem cal_plT (D : Dn K mg "_law_plain" s__law_plain ["value"]) (B : Bl mg) (c__law_inner : Cal P w K mg base "_law_inner" 2 ["value"] (spInnT K)) : Cal P w K mg base "_law_plain" 3 ["value"] (spInnT K) := by
  refine D.cal sc__law_plain (fun vs H Q E h => ?_) (fun f cdv A outer s H vs Q E hr h => ?_)
  · obtain ⟨r, ns, rfl, _⟩ := h
    rfl
  · obtain ⟨r, ns, rfl, ht, hl, q⟩ := h
    refine ⟨_, (pss_one (ps_ret (pe_ifExp (pt_val (pe_callB call_isi rfl B.isinstance (by decide +kernel) (pa_cons (pv 0) (pa_cons (pe_bltn (v := .ty "str") rfl B.str boot_str rfl) pa_nil)))) pe_str (pe_cal c__law_inner (hr.mono (by decide)) rfl (pa_cons (pv 0) pa_nil))))), ?_⟩
    walk_at "rd"
    refine isi_mk (sqT_ty ht) (b := false) (by decide +kernel) ⟨false, rfl, ?_⟩
    rw [if_neg Bool.false_ne_true]
    exact ⟨r, ns, rfl, ht, hl, q⟩
abbrev s__law_whole : Stmt := top 21
theorem sc__law_whole : FnScope ["value", "due"] ["value", "due"] (defScope s__law_whole) := ⟨rfl, rfl, rfl, by decide +kernel, rfl, by decide +kernel, by decide +kernel⟩

def spWh : Sp := fun vs H Q _ => ∃ a b : Int, vs = [.int a, .int b] ∧ Q (.bl (decide (a = b))) H
theorem cal_wh (D : Dn K mg "_law_whole" s__law_whole ["value", "due"]) (B : Bl mg) : Cal P w K mg base "_law_whole" 1 ["value", "due"] spWh := by
  refine D.cal sc__law_whole (fun vs H Q E h => ?_) (fun f cdv A outer s H vs Q E hr h => ?_)
  · obtain ⟨a, b, rfl, _⟩ := h
    rfl
  · obtain ⟨a, b, rfl, q⟩ := h
    refine ⟨_, (pss_one (ps_ret (pe_and (pe_callB call_isi rfl B.isinstance (by decide +kernel) (pa_cons (pv 0) (pa_cons (pe_bltn (v := .ty "int") rfl B.int boot_int rfl) pa_nil))) (pe_and (pe_not (pe_callB call_isi rfl B.isinstance (by decide +kernel) (pa_cons (pv 0) (pa_cons (pe_bltn (v := .ty "bool") rfl B.bool boot_bool rfl) pa_nil)))) (pe_one (pe_cmpR op_eq (pv 0) (pv 1) (nomark _))))))), ?_⟩
    walk_at "rd"
    refine isi_mk (.base (.int a)) (b := true) (by decide +kernel) ⟨true, rfl, ?_⟩
    rw [if_pos rfl]
    refine isi_mk (.base (.int a)) (b := false) (by decide +kernel) ⟨false, rfl, ?_⟩
    rw [if_pos (by decide)]
    exact q
end

section
variable {P : Program} {w : World} {K : PySem.W.Frag} {mg : Str → Option Value} {base : Heap} {CR : Addr}
abbrev s__law_says : Stmt := top 20
theorem sc__law_says : FnScope ["value", "due"] ["value", "due"] (defScope s__law_says) := ⟨rfl, rfl, rfl, by decide +kernel, rfl, by decide +kernel, by decide +kernel⟩

def spSays : Sp := fun vs H Q _ => ∃ a b : Bool, vs = [.bl a, .bl b] ∧ Q (.bl (a == b)) H
theorem cal_says (D : Dn K mg "_law_says" s__law_says ["value", "due"]) (B : Bl mg) : Cal P w K mg base "_law_says" 1 ["value", "due"] spSays := by
  refine D.cal sc__law_says (fun vs H Q E h => ?_) (fun f cdv A outer s H vs Q E hr h => ?_)
  · obtain ⟨a, b, rfl, _⟩ := h
    rfl
  · obtain ⟨a, b, rfl, q⟩ := h
    refine ⟨_, (pss_one (ps_ret (pe_and (pe_callB call_isi rfl B.isinstance (by decide +kernel) (pa_cons (pv 0) (pa_cons (pe_bltn (v := .ty "bool") rfl B.bool boot_bool rfl) pa_nil))) (pe_one (pe_cmpR op_eq (pv 0) (pv 1) (nomark _)))))), ?_⟩
    walk_at "rd"
    refine isi_mk (.base (.bl a)) (b := true) (by decide +kernel) ⟨true, rfl, ?_⟩
    rw [if_pos rfl]
    refine ⟨by rfl, ?_⟩
    have e : decide (a = b) = (a == b) := by cases a <;> cases b <;> rfl
    rw [e]
    exact q
abbrev s__law_same : Stmt := top 22
theorem sc__law_same : FnScope ["one", "two", "k"] ["one", "two"] (defScope s__law_same) := ⟨rfl, rfl, rfl, by decide +kernel, rfl, by decide +kernel, by decide +kernel⟩

def spS1 : Sp := fun vs H Q _ => ∃ a b : Int, vs = [.int a, .int b] ∧ Q (.bl (decide (a = b))) H
theorem cal_same1 (D : Dn K mg "_law_same" s__law_same ["one", "two"]) (B : Bl mg) : Cal P w K mg base "_law_same" 1 ["one", "two"] spS1 := by
  refine D.cal sc__law_same (fun vs H Q E h => ?_) (fun f cdv A outer s H vs Q E hr h => ?_)
  · obtain ⟨a, b, rfl, _⟩ := h
    rfl
  · obtain ⟨a, b, rfl, q⟩ := h
    refine ⟨_, (pss_cons (ps_if (pt_val (pe_callB call_isi rfl B.isinstance (by decide +kernel) (pa_cons (pv 1) (pa_cons (pe_bltn (v := .ty "tuple") rfl B.tuple boot_tuple rfl) pa_nil)))) pss_never pss_nil)
  (pss_one (ps_ret (pe_and (pe_callB call_isi rfl B.isinstance (by decide +kernel) (pa_cons (pv 0) (pa_cons (pe_bltn (v := .ty "int") rfl B.int boot_int rfl) pa_nil))) (pe_and (pe_not (pe_callB call_isi rfl B.isinstance (by decide +kernel) (pa_cons (pv 0) (pa_cons (pe_bltn (v := .ty "bool") rfl B.bool boot_bool rfl) pa_nil)))) (pe_one (pe_cmpR op_eq (pv 0) (pv 1) (nomark _)))))))), ?_⟩
    walk_at "rd"
    refine isi_mk (.base (.int b)) (b := false) (by decide +kernel) ⟨false, rfl, ?_⟩
    rw [if_neg Bool.false_ne_true]
    refine isi_mk (.base (.int a)) (b := true) (by decide +kernel) ⟨true, rfl, ?_⟩
    rw [if_pos rfl]
    refine isi_mk (.base (.int a)) (b := false) (by decide +kernel) ⟨false, rfl, ?_⟩
    rw [if_pos (by decide)]
    exact q
def spS2 (K : PySem.W.Frag) : Sp := fun vs H Q _ => ∃ (r t : Addr) (ns : List Nat), vs = [.ref r, .ref t] ∧ SqT K H r (vNs ns) ∧ SqT K H t (vNs ns) ∧ ns.length ≤ 30000 ∧ ∀ H', Same H H' → Q (.bl true) H'
theorem cal_same2 (D : Dn K mg "_law_same" s__law_same ["one", "two"]) (B : Bl mg) (c__law_same : Cal P w K mg base "_law_same" 1 ["one", "two"] spS1) : Cal P w K mg base "_law_same" 2 ["one", "two"] (spS2 K) := by
  refine D.cal sc__law_same (fun vs H Q E h => ?_) (fun f cdv A outer s H vs Q E hr h => ?_)
  · obtain ⟨r, t, ns, rfl, _⟩ := h
    rfl
  · obtain ⟨r, t, ns, rfl, hr1, ht1, hl, q⟩ := h
    refine ⟨_, (pss_cons (ps_if (pt_val (pe_callB call_isi rfl B.isinstance (by decide +kernel) (pa_cons (pv 1) (pa_cons (pe_bltn (v := .ty "tuple") rfl B.tuple boot_tuple rfl) pa_nil)))) (pss_one (ps_ret (pe_and (pe_callB call_isi rfl B.isinstance (by decide +kernel) (pa_cons (pv 0) (pa_cons (pe_bltn (v := .ty "tuple") rfl B.tuple boot_tuple rfl) pa_nil))) (pe_and (pe_cmpR op_eq (pe_callB cr_lenS rfl B.len (by decide +kernel) (pa_cons (pv 0) pa_nil)) (pe_callB cr_lenS rfl B.len (by decide +kernel) (pa_cons (pv 1) pa_nil)) (nomark _)) (pe_one (pe_callB (cr_all rfl) rfl B.all (by decide +kernel) (pa_cons (pe_lc (own := [("k", 2)]) rfl sc__law_same.nd (pi_range1 rfl B.range (pa_cons (pe_callB cr_lenS rfl B.len (by decide +kernel) (pa_cons (pv 1) pa_nil)) pa_nil)) (blkOk_by (N := ["one", "two", "k"]) (sc := defScope s__law_same) (own := [("k", 2)]) (by decide +kernel)) (fun _ _ _ _ _ => (pg_name (i := 2) sc__law_same.nd rfl (Or.inl rfl))) (fun _ _ _ _ _ => pts_nil) (fun _ _ _ _ _ => (pe_cal c__law_same (hr.mono (by decide)) rfl (pa_cons (pe_ix (ix_tupK (K := K) rfl) (pv 0) (pv 2) (fun _ _ => rfl)) (pa_cons (pe_ix (ix_tupK (K := K) rfl) (pv 1) (pv 2) (fun _ _ => rfl)) pa_nil))))) pa_nil))))))) pss_nil)
  (pss_one (ps_ret (pe_and (pe_callB call_isi rfl B.isinstance (by decide +kernel) (pa_cons (pv 0) (pa_cons (pe_bltn (v := .ty "int") rfl B.int boot_int rfl) pa_nil))) (pe_and (pe_not (pe_callB call_isi rfl B.isinstance (by decide +kernel) (pa_cons (pv 0) (pa_cons (pe_bltn (v := .ty "bool") rfl B.bool boot_bool rfl) pa_nil)))) (pe_one (pe_cmpR op_eq (pv 0) (pv 1) (nomark _)))))))), ?_⟩
    walk_at "rd"
    refine isi_mk (sqT_ty ht1) (b := true) (by decide +kernel) ⟨true, rfl, ?_⟩
    rw [if_pos rfl]
    refine isi_mk (sqT_ty hr1) (b := true) (by decide +kernel) ⟨true, rfl, ?_⟩
    rw [if_pos rfl]
    refine ⟨(vNs ns).length, .inr ⟨_, hr1, rfl⟩, (vNs ns).length, .inr ⟨_, ht1, rfl⟩, ?_⟩
    rw [if_pos rfl]
    refine ⟨(vNs ns).length, .inr ⟨_, ht1, rfl⟩, ?_⟩
    rw [Int.toNat_natCast, vNs_len]
    refine ⟨by omega, by omega, ?_⟩
    refine LcR.p (fun _ => some (V.bl true)) (by omega) ?_ ?_
    · rintro j hj H3 s3 M S hM hS
      have hg : (vNs ns)[j]? = some (V.int ((ns[j] : Nat) : Int)) := by
        unfold vNs
        rw [List.getElem?_map, List.getElem?_eq_getElem hj]
        rfl
      rw [Int.zero_add]
      walk_at "rd"
      refine ⟨_, sqT_same s3 hr1, _, atI_nat hg, _, sqT_same s3 ht1, _, atI_nat hg, _, _, rfl, ?_⟩
      rw [decide_eq_true rfl]
      exact hM _ _ rfl (Same.refl _)
    · intro D H3 nD s3 hD
      have el : (List.range ns.length).filterMap (fun _ => some (V.bl true)) = (List.replicate ns.length true).map V.bl := by
        rw [List.map_replicate, List.filterMap_eq_map']
        refine List.eq_replicate_iff.mpr ⟨by rw [List.length_map, List.length_range], fun b hb => ?_⟩
        obtain ⟨k, _, rfl⟩ := List.mem_map.mp hb
        rfl
      rw [el] at hD
      refine ⟨D, rfl, _, SqL.of hD, ?_⟩
      have ea : (List.replicate ns.length true).all id = true := by
        rw [List.all_eq_true]
        intro b hb
        rw [(List.mem_replicate.mp hb).2]
        rfl
      rw [ea]
      exact q H3 s3
abbrev s__law_rounds : Stmt := top 25
theorem sc__law_rounds : FnScope ["n", "p", "d", "s", "a", "x", "good", "turn"] ["n"] (defScope s__law_rounds) := ⟨rfl, rfl, rfl, by decide +kernel, rfl, by decide +kernel, by decide +kernel⟩

def spLr : Sp := fun vs H Q _ => ∃ n : Int, vs = [.int n] ∧ n < 2 ^ 128 ∧ ∀ H', Same H H' → Q (.bl (rounds n.toNat)) H'
theorem fst_at {n i p : Nat} (h : (BS.take i).all (fun p => !(n % p == 0)) = true) (hp : BS[i]? = some p) (d : n % p = 0) : fst? n = some p := by
  unfold fst?
  have hi : i < BS.length := (List.getElem?_eq_some_iff.mp hp).1
  have e : BS = BS.take i ++ BS.drop i := (List.take_append_drop i BS).symm
  have e2 : BS.drop i = p :: BS.drop (i + 1) := by
    rw [List.drop_eq_getElem_cons hi]
    congr 1
    rw [List.getElem?_eq_getElem hi] at hp
    exact Option.some.inj hp
  rw [e, List.find?_append, List.find?_eq_none.mpr (fun q hq => by
    have := List.all_eq_true.mp h q hq
    simpa using this), e2, List.find?_cons_of_pos (by rw [d]; rfl)]
  rfl
theorem cal_lr (D : Dn K mg "_law_rounds" s__law_rounds ["n"]) (B : Bl mg) (c__law_powered : Cal P w K mg base "_law_powered" 1 ["a", "e", "m"] spPow) : Cal P w K mg base "_law_rounds" 2 ["n"] spLr := by
  refine D.cal sc__law_rounds (fun vs H Q E h => ?_) (fun f cdv A outer s H vs Q E hr h => ?_)
  · obtain ⟨n, rfl, _⟩ := h
    rfl
  · obtain ⟨n, rfl, hn, q⟩ := h
    refine ⟨_, (pss_cons (ps_if (pt_cmpR op_lt (pv 0) pe_int (nomark _)) (pss_one (ps_ret pe_bl)) pss_nil)
  (pss_cons (ps_for PassesOwn.never rfl (pi_list (pe_lst (pa_cons pe_int (pa_cons pe_int (pa_cons pe_int (pa_cons pe_int (pa_cons pe_int (pa_cons pe_int (pa_cons pe_int (pa_cons pe_int (pa_cons pe_int (pa_cons pe_int (pa_cons pe_int (pa_cons pe_int (pa_cons pe_int pa_nil))))))))))))))) (pg_name (i := 1) sc__law_rounds.nd rfl (Or.inl rfl)) (pss_one (ps_if (pt_cmpR op_eq (pe_op op_mod (pe_callTy call_int1 rfl B.int boot_int (pa_cons (pv 0) pa_nil)) (pv 1)) pe_int (nomark _)) (pss_one (ps_ret (pe_cmpR op_eq (pv 0) (pv 1) (nomark _)))) pss_nil)))
  (pss_cons (ps_par (i := 2) (j := 3) rfl sc__law_rounds.nd rfl rfl (by decide) rfl rfl (pa_cons (pe_op op_sub (pv 0) pe_int) (pa_cons pe_int pa_nil)) (by rfl))
  (pss_cons (ps_while PassesOwn.never (pt_cmpR op_eq (pe_op op_mod (pe_callTy call_int1 rfl B.int boot_int (pa_cons (pv 2) pa_nil)) pe_int) pe_int (nomark _)) (pss_one (ps_par (i := 2) (j := 3) rfl sc__law_rounds.nd rfl rfl (by decide) rfl rfl (pa_cons (pe_op op_fdivW (pv 2) pe_int) (pa_cons (pe_op op_add (pv 3) pe_int) pa_nil)) (by rfl))))
  (pss_cons (ps_for PassesOwn.never rfl (pi_list (pe_lst (pa_cons pe_int (pa_cons pe_int (pa_cons pe_int (pa_cons pe_int (pa_cons pe_int (pa_cons pe_int (pa_cons pe_int (pa_cons pe_int (pa_cons pe_int (pa_cons pe_int (pa_cons pe_int (pa_cons pe_int (pa_cons pe_int pa_nil))))))))))))))) (pg_name (i := 4) sc__law_rounds.nd rfl (Or.inl rfl)) (pss_cons (ps_set (i := 5) sc__law_rounds.nd rfl (Or.inl rfl) (pe_cal c__law_powered (hr.mono (by decide)) rfl (pa_cons (pv 4) (pa_cons (pv 2) (pa_cons (pv 0) pa_nil)))))
  (pss_cons (ps_set (i := 6) sc__law_rounds.nd rfl (Or.inl rfl) (pe_or (pe_cmpR op_eq (pv 5) pe_int (nomark _)) (pe_one (pe_cmpR op_eq (pv 5) (pe_op op_sub (pv 0) pe_int) (nomark _)))))
  (pss_cons (ps_for PassesOwn.never rfl (pi_range1 rfl B.range (pa_cons (pe_op op_sub (pv 3) pe_int) pa_nil)) (pg_name (i := 7) sc__law_rounds.nd rfl (Or.inl rfl)) (pss_cons (ps_set (i := 5) sc__law_rounds.nd rfl (Or.inl rfl) (pe_op op_mod (pe_callTy call_int1 rfl B.int boot_int (pa_cons (pe_op op_mulI (pv 5) (pv 5)) pa_nil)) (pv 0)))
  (pss_one (ps_set (i := 6) sc__law_rounds.nd rfl (Or.inl rfl) (pe_or (pv 6) (pe_one (pe_cmpR op_eq (pv 5) (pe_op op_sub (pv 0) pe_int) (nomark _))))))))
  (pss_one (ps_if (pt_not (pt_truth (pv 6) (by intro _; rfl))) (pss_one (ps_ret pe_bl)) pss_nil))))))
  (pss_one (ps_ret pe_bl))))))), ?_⟩
    rw [CB.rd_seq]
    walk_at "rs"
    by_cases n2 : n < 2
    · rw [if_pos n2]
      have := q H (Same.refl _)
      rw [round_0 n2] at this
      exact this
    rw [if_neg n2, CB.rd_seq]
    walk_at "rs"
    obtain ⟨m, rfl⟩ := Int.eq_ofNat_of_zero_le (show 0 ≤ n by omega)
    rw [Int.toNat_natCast] at q
    have get : ∀ (i : Nat) (x : V), (BS.map fun p : Nat => V.int (p : Int))[i]? = some x → ∃ p, x = .int ((p : Nat) : Int) ∧ BS[i]? = some p ∧ 0 < p := fun i x hx => by
      rw [List.getElem?_map] at hx
      obtain ⟨p, hp, rfl⟩ := Option.map_eq_some_iff.mp hx
      exact ⟨p, rfl, hp, by have := (BS_prm p (List.mem_of_getElem? hp)).1; omega⟩
    have md : ∀ p : Nat, ((m : Int) % (p : Int) = 0 ↔ m % p = 0) := fun p => by
      have : (m : Int) % (p : Int) = ((m % p : Nat) : Int) := (Int.natCast_emod m p).symm
      omega
    refine ⟨by decide, fun p np => ⟨⟨_, SqL.of upd_same⟩, ?_⟩⟩
    have s1 := same_upd (o := HO.lst (BS.map fun p : Nat => V.int (p : Int))) np
    have hp1 : (upd H p (.lst (BS.map fun p : Nat => V.int (p : Int)))) p = some (.lst (BS.map fun p : Nat => V.int (p : Int))) := upd_same
    show ForL K p (gName 1) _ _ _ (upd H p (.lst (BS.map fun p : Nat => V.int (p : Int))))
    generalize upd H p (.lst (BS.map fun p : Nat => V.int (p : Int))) = H1 at *
    refine ForL.w (xs := BS.map fun p : Nat => V.int (p : Int)) (fun i σ H2 => ∃ t1, σ = [some (.int m), t1, none, none, none, none, none, none] ∧ H2 = H1 ∧ (BS.take i).all (fun p => !(m % p == 0)) = true) ⟨none, rfl, rfl, rfl⟩ (fun i σ H2 _ ⟨_, _, e, _⟩ => by subst e; exact SqL.of hp1) ?_ ?_
    · rintro i x σ H2 hx ⟨t1, rfl, rfl, inv⟩ N hN
      obtain ⟨p', rfl, hp', p0⟩ := get i x hx
      walk_at "rs"
      refine ⟨by omega, ite2 (fun c => ?_) (fun c => ?_)⟩
      · have c' := (md p').mp c
        have e : rounds m = decide ((m : Int) = (p' : Int)) := by
          unfold rounds
          rw [if_neg (by omega), fst_at inv hp' c']
          show (m == p') = _
          rw [Bool.eq_iff_iff, decide_eq_true_eq, beq_iff_eq]
          omega
        rw [e] at q
        exact q _ s1
      · have c' : ¬ m % p' = 0 := fun z => c ((md p').mpr z)
        refine hN _ _ ⟨_, rfl, rfl, ?_⟩
        rw [List.take_add_one, hp', List.all_append, inv]
        simp [c']
    · rintro σ H2 ⟨t1, rfl, rfl, inv⟩
      have inv : BS.all (fun p => !(m % p == 0)) = true := inv
      have fn : fst? m = none := by
        unfold fst?
        rw [List.find?_eq_none]
        intro p hp
        have := List.all_eq_true.mp inv p hp
        simpa using this
      have er : rounds m = BS.all fun a => pss m a := by
        unfold rounds
        rw [if_neg (by omega), fn]
      have odd : m % 2 = 1 := by
        have := fst_none fn 2 (by decide)
        omega
      dsimp only []
      rw [CB.rd_seq]
      walk_at "rs"
      rw [CB.rd_seq]
      refine while_w (fun σ H3 => ∃ d s : Nat, σ = [some (.int m), t1, some (.int d), some (.int s), none, none, none, none] ∧ H3 = H2 ∧ 0 < d ∧ m - 1 = d * 2 ^ s)
        (fun σ _ => match σ with | [_, _, some (.int d), _, _, _, _, _] => d.toNat | _ => 0) ⟨m - 1, 0, by rw [show ((m - 1 : Nat) : Int) = (m : Int) - 1 by omega]; rfl, rfl, by omega, by omega⟩ ?_
      rintro σ H3 ⟨d, s, rfl, rfl, d0, ed⟩ N hN
      refine ⟨decide ((d : Int) % 2 = 0), fun Q' q' => ?_, fun hb => ?_, fun hb => ?_⟩
      · walk_at "rd"
        exact ⟨by decide, q'⟩
      · have hd := of_decide_eq_true hb
        walk_at "rd"
        refine ⟨⟨by decide, by decide +kernel⟩, ?_⟩
        rw [show (d : Int) / 2 = ((d / 2 : Nat) : Int) by omega, show (s : Int) + 1 = ((s + 1 : Nat) : Int) by omega]
        refine hN _ _ ⟨d / 2, s + 1, rfl, rfl, by omega, ?_⟩ (by show ((d / 2 : Nat) : Int).toNat < (d : Int).toNat; omega)
        rw [ed, Nat.pow_succ, Nat.mul_comm _ 2, ← Nat.mul_assoc]
        congr 1
        omega
      · have hd := of_decide_eq_false hb
        have dodd : d % 2 = 1 := by omega
        have s1' : 1 ≤ s := by
          rcases Nat.eq_zero_or_pos s with z | z
          · subst z
            omega
          · exact z
        have mb : m < 2 ^ 128 := by
          have e : (2 : Int) ^ 128 = ((2 ^ 128 : Nat) : Int) := by decide
          rw [e] at hn
          omega
        have s128 : s < 128 := by
          rcases Nat.lt_or_ge s 128 with c | c
          · exact c
          · have := Nat.pow_le_pow_right (show 0 < 2 by decide) c
            have : 1 * 2 ^ s ≤ d * 2 ^ s := Nat.mul_le_mul_right _ d0
            omega
        have sz : Sz 600 (m : Int) := (szN mb).le (by decide)
        dsimp only []
        rw [CB.rd_seq]
        walk_at "rs"
        refine ⟨by decide, fun p2 np2 => ⟨⟨_, SqL.of upd_same⟩, ?_⟩⟩
        have s2 := same_upd (o := HO.lst (BS.map fun p : Nat => V.int (p : Int))) np2
        have hp2 : (upd H3 p2 (.lst (BS.map fun p : Nat => V.int (p : Int)))) p2 = some (.lst (BS.map fun p : Nat => V.int (p : Int))) := upd_same
        show ForL K p2 (gName 4) _ _ _ (upd H3 p2 (.lst (BS.map fun p : Nat => V.int (p : Int))))
        generalize upd H3 p2 (.lst (BS.map fun p : Nat => V.int (p : Int))) = H4 at *
        refine ForL.w (xs := BS.map fun p : Nat => V.int (p : Int)) (fun i σ H5 => ∃ t4 t5 t6 t7, σ = [some (.int m), t1, some (.int d), some (.int s), t4, t5, t6, t7] ∧ H5 = H4 ∧ (BS.take i).all (fun a => pss m a) = true) ⟨_, _, _, _, rfl, rfl, rfl⟩ (fun i σ H5 _ ⟨_, _, _, _, _, e, _⟩ => by subst e; exact SqL.of hp2) ?_ ?_
        · rintro i x σ H5 hx ⟨t4, t5, t6, t7, rfl, rfl, inv2⟩ N2 hN2
          obtain ⟨a, rfl, ha, a0⟩ := get i x hx
          have hps := pss_eq (a := a) ed dodd mb (by omega)
          walk_at "rs"
          rw [CB.rd_seq]
          walk_at "rs"
          refine ⟨(a : Int), (m : Int), d, rfl, by omega, sz, ?_⟩
          rw [powN]
          generalize hx0 : a ^ d % m = x0 at *
          have xl : x0 < m := by rw [← hx0]; exact Nat.mod_lt _ (by omega)
          refine seq_cut (fun σ H6 => σ = [some (.int m), t1, some (.int d), some (.int s), some (.int a), some (.int x0), some (V.bl (x0 == 1 || x0 == m - 1)), t7] ∧ H6 = H5) (fun R hR => ?_) ?_
          · walk_at "rs"
            by_cases c : (x0 : Int) = 1
            · rw [if_pos c]
              refine hR _ _ ⟨?_, rfl⟩
              rw [show (x0 == 1) = true by rw [beq_iff_eq]; omega, Bool.true_or]
            · rw [if_neg c]
              refine hR _ _ ⟨?_, rfl⟩
              have e1 : (x0 == 1) = false := beq_eq_false_iff_ne.mpr (by omega)
              have e2 : decide ((x0 : Int) = (m : Int) - 1) = (x0 == m - 1) := by
                rw [Bool.eq_iff_iff, decide_eq_true_eq, beq_iff_eq]
                omega
              rw [e1, Bool.false_or, e2]
          rintro σ H6 ⟨rfl, rfl⟩
          rw [CB.rd_seq]
          walk_at "rs"
          refine ⟨by omega, by omega, ?_⟩
          rw [show ((s : Int) - 1).toNat = s - 1 by omega]
          refine ForR.w (fun i σ H7 => ∃ (y : Nat) (g : Bool) (t7 : Option V), σ = [some (.int m), t1, some (.int d), some (.int s), some (.int a), some (.int y), some (V.bl g), t7] ∧ H7 = H6 ∧ y < m ∧ pss m a = (g || rnd m y (s - 1 - i))) ⟨x0, _, t7, rfl, rfl, xl, hps⟩ ?_ ?_
          · rintro i σ H7 hi ⟨y, g, t7', rfl, rfl, yl, inv3⟩ N3 hN3
            walk_at "rs"
            rw [CB.rd_seq]
            walk_at "rs"
            have zy : Sz 600 (y : Int) := (szN (Nat.lt_trans yl mb)).le (by decide)
            have ey : (y : Int) * (y : Int) % (m : Int) = ((y * y % m : Nat) : Int) := by rw [Int.natCast_emod, Int.natCast_mul]
            have ek : s - 1 - i = (s - 1 - (i + 1)) + 1 := by omega
            have er2 : rnd m y (s - 1 - i) = (y * y % m == m - 1 || rnd m (y * y % m) (s - 1 - (i + 1))) := by rw [ek]; rfl
            rw [ey]
            have e2 : decide (((y * y % m : Nat) : Int) = (m : Int) - 1) = (y * y % m == m - 1) := by
              rw [Bool.eq_iff_iff, decide_eq_true_eq, beq_iff_eq]
              omega
            refine ⟨zy.ok zy (by decide) (by decide), by omega, ?_⟩
            rw [e2]
            cases g with
            | true =>
              rw [if_pos rfl]
              exact hN3 _ _ ⟨_, _, _, rfl, rfl, Nat.mod_lt _ (by omega), by rw [inv3, Bool.true_or, Bool.true_or]⟩
            | false =>
              rw [if_neg (by decide)]
              refine hN3 _ _ ⟨_, _, _, rfl, rfl, Nat.mod_lt _ (by omega), ?_⟩
              rw [inv3, er2, Bool.false_or]
          · rintro σ H7 ⟨y, g, t7', rfl, rfl, yl, inv3⟩
            rw [show s - 1 - (s - 1) = 0 by omega] at inv3
            have inv3 : pss m a = (g || false) := inv3
            rw [Bool.or_false] at inv3
            walk_at "rs"
            refine ⟨g, rfl, ?_⟩
            cases g with
            | true =>
              rw [if_neg (by decide)]
              refine hN2 _ _ ⟨_, _, _, _, rfl, rfl, ?_⟩
              rw [List.take_add_one, ha, List.all_append, inv2]
              simp [inv3]
            | false =>
              rw [if_pos (by decide)]
              have a' : (BS.all fun a => pss m a) = false := by
                rw [List.all_eq_false]
                exact ⟨a, List.mem_of_getElem? ha, by rw [inv3]; decide⟩
              rw [er, a'] at q
              exact q _ (s1.trans s2)
        · rintro σ H5 ⟨t4, t5, t6, t7, rfl, rfl, inv2⟩
          have inv2 : BS.all (fun a => pss m a) = true := inv2
          walk_at "rs"
          rw [er, inv2] at q
          exact q _ (s1.trans s2)
end
section
variable {P : Program} {w : World} {K : PySem.W.Frag} {mg : Str → Option Value} {base : Heap} {CR : Addr}
abbrev s__law_refused : Stmt := top 26
theorem sc__law_refused : FnScope ["n", "error"] ["n"] (defScope s__law_refused) := ⟨rfl, rfl, rfl, by decide +kernel, rfl, by decide +kernel, by decide +kernel⟩

def spRef : Sp := fun vs H Q _ => ∃ n : Int, vs = [.int n] ∧ ∀ H', Same H H' → Q (.str (if BND ≤ n then "large" else "told")) H'
theorem cal_ref (D : Dn K mg "_law_refused" s__law_refused ["n"]) (B : Bl mg) (c_is_prime : CalX P w K mg base "is_prime" 3 ["n"] (spIsP CR)) (e_E : ErrQ P w K mg base CR) : Cal P w K mg base "_law_refused" 4 ["n"] spRef := by
  refine D.cal sc__law_refused (fun vs H Q E h => ?_) (fun f cdv A outer s H vs Q E hr h => ?_)
  · obtain ⟨n, rfl, _⟩ := h
    rfl
  · obtain ⟨n, rfl, q⟩ := h
    obtain ⟨fI, fdI, R, _, _⟩ := e_E.r
    refine ⟨_, (pss_cons (ps_tryA rfl rfl sc__law_refused.nd takes0 (fun W pn xe tk _ => (pss_one (ps_expr (pe_calS c_is_prime tk (hr.mono (by decide)) rfl (pa_cons (pv 0) pa_nil))))) (HdA.named ⟨rfl, by decide, .inl R.g⟩ (i := 1) rfl rfl (fun a oe cls d pn hz hf => (pss_one (ps_ret (pe_xf R.xf R.n hz hf (pv 1))))) HdA.nil))
  (pss_one (ps_ret pe_str))), ?_⟩
    rw [CB.rd_seq]
    walk_at "rs"
    refine ⟨n, rfl, ?_⟩
    by_cases c : BND ≤ n
    · refine .inl ⟨c, fun d H' sm nd hd => ⟨true, R.rr, fun _ a na => ?_, fun z => by cases z⟩⟩
      have := q H' sm
      rw [if_pos c] at this
      exact ⟨_, rfl, rfl, rfl, d, _, _, rfl, hd, rfl, this⟩
    · refine .inr ⟨by omega, fun H' sm => ?_⟩
      have := q H' sm
      rw [if_neg c] at this
      exact this
end

section
variable {P : Program} {w : World} {K : PySem.W.Frag} {mg : Str → Option Value} {base : Heap} {CR : Addr}
abbrev s_law : Stmt := top 27
theorem sc_law : FnScope ["script", "state", "known", "most", "found", "small", "due", "n", "one", "two", "start", "bound", "p"] ["script"] (defScope s_law) := ⟨rfl, rfl, rfl, by decide +kernel, rfl, by decide +kernel, by decide +kernel⟩

def spLaw (K : PySem.W.Frag) : Sp := fun vs H Q _ => ∃ (a : Addr) (ns : List Int), vs = [.ref a] ∧ SqL K H a (ns.map V.int) ∧ ns.length ≤ 63 ∧ ∀ H', Q (.bl true) H'
theorem pick2 {v : Int} (h0 : 0 ≤ v) (h1 : v < 2) (a b : V) : ∃ x, atI [a, b] v = some x ∧ (x = a ∨ x = b) := by
  have c : v = 0 ∨ v = 1 := by omega
  rcases c with rfl | rfl
  · exact ⟨_, rfl, .inl rfl⟩
  · exact ⟨_, rfl, .inr rfl⟩
theorem pick3 {v : Int} (h0 : 0 ≤ v) (h1 : v < 3) (a b c : V) : ∃ x, atI [a, b, c] v = some x ∧ (x = a ∨ x = b ∨ x = c) := by
  have c : v = 0 ∨ v = 1 ∨ v = 2 := by omega
  rcases c with rfl | rfl | rfl
  · exact ⟨_, rfl, .inl rfl⟩
  · exact ⟨_, rfl, .inr (.inl rfl)⟩
  · exact ⟨_, rfl, .inr (.inr rfl)⟩
theorem vNs_int (l : List Nat) : (l.map fun n : Nat => (n : Int)).map V.int = vNs l := by
  unfold vNs
  rw [List.map_map]
  rfl
theorem pick2i {v : Int} (h0 : 0 ≤ v) (h1 : v < 2) (a b : Int) : ∃ x : Int, atI [V.int a, V.int b] v = some (.int x) ∧ (x = a ∨ x = b) := by
  obtain ⟨x, e, h⟩ := pick2 h0 h1 (.int a) (.int b)
  rcases h with rfl | rfl
  · exact ⟨_, e, .inl rfl⟩
  · exact ⟨_, e, .inr rfl⟩
def tr (s : Nat) (p : Nat) : Option V := if p * p ≤ s then some (V.bl (!(s % p == 0))) else none
def trs (s : Nat) : List Bool := ((plist 1000).filter fun p => decide (p * p ≤ s)).map fun p => !(s % p == 0)
theorem tr_eq (s : Nat) (l : List Nat) : l.filterMap (tr s) = ((l.filter fun p => decide (p * p ≤ s)).map fun p => !(s % p == 0)).map V.bl := by
  induction l with
  | nil => rfl
  | cons p l ih =>
    rw [List.filterMap_cons]
    unfold tr
    by_cases c : p * p ≤ s
    · rw [if_pos c, List.filter_cons_of_pos (by simp [c])]
      show _ :: l.filterMap (tr s) = _
      rw [ih]
      rfl
    · rw [if_neg c, List.filter_cons_of_neg (by simp [c])]
      exact ih
theorem trs_all {s : Nat} (h2 : 2 ≤ s) (hs : s < 1000000) : (trs s).all id = rounds s := by
  rw [Bool.eq_iff_iff, List.all_eq_true]
  constructor
  · intro h
    refine rounds_prm (prm_of h2 fun e e2 ee d => ?_) (Nat.lt_trans hs (by decide))
    obtain ⟨q, hq, qe⟩ := ex_prm e2
    have ql : q ≤ e := Nat.le_of_dvd (by omega) qe
    have qq : q * q ≤ s := Nat.le_trans (Nat.mul_le_mul ql ql) ee
    have q1000 : q ≤ 1000 := by
      rcases Nat.lt_or_ge 1000 q with c | c
      · have := Nat.mul_le_mul (show 1001 ≤ q by omega) (show 1001 ≤ q by omega)
        omega
      · exact c
    have m : (!(s % q == 0)) ∈ trs s := List.mem_map.mpr ⟨q, List.mem_filter.mpr ⟨List.mem_filter.mpr ⟨List.mem_range.mpr (by omega), pb_prm.mpr hq⟩, by simp [qq]⟩, rfl⟩
    have := h _ m
    rw [Nat.mod_eq_zero_of_dvd (Nat.dvd_trans qe d)] at this
    cases this
  · intro h b hb
    have hp := prm_rounds h (Nat.le_of_lt hs)
    obtain ⟨p, hp1, rfl⟩ := List.mem_map.mp hb
    obtain ⟨hp2, hp3⟩ := List.mem_filter.mp hp1
    obtain ⟨_, hp4⟩ := List.mem_filter.mp hp2
    have pp := pb_prm.mp hp4
    have p2 := pp.1
    show (!(s % p == 0)) = true
    cases c : s % p == 0 with
    | false => rfl
    | true =>
      rw [beq_iff_eq] at c
      have e := pp.eq_of_dvd hp (Nat.dvd_of_mod_eq_zero c)
      subst e
      have l : p * p ≤ p := by simpa using hp3
      have : p * 2 ≤ p * p := Nat.mul_le_mul_left p p2
      omega
theorem pick6 {v : Int} (h0 : 0 ≤ v) (h1 : v < 6) (a b c d e f : Int) : ∃ x : Int, atI [V.int a, V.int b, V.int c, V.int d, V.int e, V.int f] v = some (.int x) ∧ (x = a ∨ x = b ∨ x = c ∨ x = d ∨ x = e ∨ x = f) := by
  have c : v = 0 ∨ v = 1 ∨ v = 2 ∨ v = 3 ∨ v = 4 ∨ v = 5 := by omega
  rcases c with rfl | rfl | rfl | rfl | rfl | rfl
  · exact ⟨_, rfl, .inl rfl⟩
  · exact ⟨_, rfl, .inr (.inl rfl)⟩
  · exact ⟨_, rfl, .inr (.inr (.inl rfl))⟩
  · exact ⟨_, rfl, .inr (.inr (.inr (.inl rfl)))⟩
  · exact ⟨_, rfl, .inr (.inr (.inr (.inr (.inl rfl))))⟩
  · exact ⟨_, rfl, .inr (.inr (.inr (.inr (.inr rfl))))⟩
theorem six_no : rounds 561 = false ∧ rounds 1729 = false ∧ rounds 3215031751 = false ∧ rounds 341550071728321 = false ∧ rounds 318665857834031151167461 = false ∧ rounds 3825123056546413051 = false := by decide +kernel
theorem ok_law {f : Addr} {fd : FuncData} (F : Fun K "law" "law" s_law f fd) (B : Bl mg)
    (c__law_state : Cal P w K mg base "_law_state" 1 ["script"] (spState K)) (c__law_take : Cal P w K mg base "_law_take" 1 ["state", "m"] spTake)
    (c__law_primes : Cal P w K mg base "_law_primes" 1 ["most"] spLp) (c_primes_to : Cal P w K mg base "primes_to" 1 ["n"] spPt)
    (c__law_plain : Cal P w K mg base "_law_plain" 3 ["value"] (spInnT K)) (c_plain1 : Cal P w K mg base "_law_plain" 2 ["value"] spInn)
    (c__law_same : Cal P w K mg base "_law_same" 2 ["one", "two"] (spS2 K)) (c__law_says : Cal P w K mg base "_law_says" 1 ["value", "due"] spSays)
    (c_is_prime : CalX P w K mg base "is_prime" 3 ["n"] (spIsP CR)) (c__law_rounds : Cal P w K mg base "_law_rounds" 2 ["n"] spLr)
    (c_next_prime : Cal P w K mg base "next_prime" 4 ["n"] spNp) (c__law_whole : Cal P w K mg base "_law_whole" 1 ["value", "due"] spWh) (c__law_refused : Cal P w K mg base "_law_refused" 4 ["n"] spRef) :
    FnOk P w K mg base CX0 5 f fd ["script"] (spLaw K) := by
  refine F.ok sc_law (fun vs H Q E h => ?_) (fun cdv A outer s H vs Q E hr h => ?_)
  · obtain ⟨a, ns, rfl, _⟩ := h
    rfl
  · obtain ⟨a, ns, rfl, hS, hl, q⟩ := h
    refine ⟨_, (pss_cons (ps_set (i := 1) sc_law.nd rfl (Or.inl rfl) (pe_cal c__law_state (hr.mono (by decide)) rfl (pa_cons (pv 0) pa_nil)))
  (pss_cons (ps_set (i := 2) sc_law.nd rfl (Or.inl rfl) (pe_cal c__law_primes (hr.mono (by decide)) rfl (pa_cons pe_int pa_nil)))
  (pss_cons (ps_set (i := 3) sc_law.nd rfl (Or.inl rfl) (pe_op op_sub (pe_cal c__law_take (hr.mono (by decide)) rfl (pa_cons (pv 1) (pa_cons (pe_ix ix_list (pe_lst (pa_cons pe_int (pa_cons pe_int (pa_cons pe_int pa_nil)))) (pe_cal c__law_take (hr.mono (by decide)) rfl (pa_cons (pv 1) (pa_cons pe_int pa_nil))) (fun _ _ => rfl)) pa_nil))) pe_int))
  (pss_cons (ps_set (i := 4) sc_law.nd rfl (Or.inl rfl) (pe_cal c__law_plain (hr.mono (by decide)) rfl (pa_cons (pe_cal c_primes_to (hr.mono (by decide)) rfl (pa_cons (pv 3) pa_nil)) pa_nil)))
  (pss_cons (ps_if (PW.pt (pw_or (pt_not (pt_val (pe_callB call_isi rfl B.isinstance (by decide +kernel) (pa_cons (pv 4) (pa_cons (pe_bltn (v := .ty "tuple") rfl B.tuple boot_tuple rfl) pa_nil))))) (pw_or1 (pt_not (pt_val (pe_cal c__law_same (hr.mono (by decide)) rfl (pa_cons (pv 4) (pa_cons (pe_callTy cr_tupOf rfl B.tuple boot_tuple (pa_cons (pe_cal c__law_primes (hr.mono (by decide)) rfl (pa_cons (pv 3) pa_nil)) pa_nil)) pa_nil)))))))) (pss_one (ps_ret pe_bl)) pss_nil)
  (pss_cons (ps_set (i := 5) sc_law.nd rfl (Or.inr rfl) (pe_cal c__law_take (hr.mono (by decide)) rfl (pa_cons (pv 1) (pa_cons (pe_ix ix_list (pe_lst (pa_cons pe_int (pa_cons (pe_op op_powI pe_int pe_int) pa_nil))) (pe_cal c__law_take (hr.mono (by decide)) rfl (pa_cons (pv 1) (pa_cons pe_int pa_nil))) (fun _ _ => rfl)) pa_nil))))
  (pss_cons (ps_set (i := 6) sc_law.nd rfl (Or.inl rfl) (pe_and (pe_cmpR op_gt (pv 5) pe_int (nomark _)) (pe_one (pe_callB (cr_all rfl) rfl B.all (by decide +kernel) (pa_cons (pe_lc (own := [("p", 12)]) rfl sc_law.nd (pi_list (pv 2)) (blkOk_by (N := ["script", "state", "known", "most", "found", "small", "due", "n", "one", "two", "start", "bound", "p"]) (sc := defScope s_law) (own := [("p", 12)]) (by decide +kernel)) (fun _ _ _ _ _ => (pg_name (i := 12) sc_law.nd rfl (Or.inl rfl))) (fun _ _ _ _ _ => (pts_one (pt_cmpR op_le (pe_op op_mulI (pv 12) (pv 12)) (pv 5) (nomark _)))) (fun _ _ _ _ _ => (pe_cmpR op_ne (pe_op op_mod (pe_callTy call_int1 rfl B.int boot_int (pa_cons (pv 5) pa_nil)) (pv 12)) pe_int (nomark _)))) pa_nil)))))
  (pss_cons (ps_if (PW.pt (pw_or (pt_not (pt_val (pe_cal c__law_says (hr.mono (by decide)) rfl (pa_cons (pe_calS c_is_prime takes0 (hr.mono (by decide)) rfl (pa_cons (pv 5) pa_nil)) (pa_cons (pv 6) pa_nil))))) (pw_or1 (pt_cmpR op_notBl (pe_calS c_is_prime takes0 (hr.mono (by decide)) rfl (pa_cons (pe_un un_neg (pv 5)) pa_nil)) pe_bl (nomark _))))) (pss_one (ps_ret pe_bl)) pss_nil)
  (pss_cons (ps_set (i := 7) sc_law.nd rfl (Or.inl rfl) (pe_ix ix_list (pe_lst (pa_cons pe_int (pa_cons pe_int (pa_cons pe_int (pa_cons pe_int (pa_cons pe_int (pa_cons pe_int pa_nil))))))) (pe_cal c__law_take (hr.mono (by decide)) rfl (pa_cons (pv 1) (pa_cons pe_int pa_nil))) (fun _ _ => rfl)))
  (pss_cons (ps_if (pt_cmpR op_notBl (pe_calS c_is_prime takes0 (hr.mono (by decide)) rfl (pa_cons (pv 7) pa_nil)) pe_bl (nomark _)) (pss_one (ps_ret pe_bl)) pss_nil)
  (pss_cons (ps_par (i := 8) (j := 9) rfl sc_law.nd rfl rfl (by decide) rfl rfl (pa_cons (pe_op op_add pe_int (pe_cal c__law_take (hr.mono (by decide)) rfl (pa_cons (pv 1) (pa_cons (pe_op op_powI pe_int pe_int) pa_nil)))) (pa_cons (pe_op op_add pe_int (pe_cal c__law_take (hr.mono (by decide)) rfl (pa_cons (pv 1) (pa_cons (pe_op op_powI pe_int pe_int) pa_nil)))) pa_nil)) (by rfl))
  (pss_cons (ps_for PassesOwn.never rfl (pi_list (pe_lst (pa_cons (pv 8) (pa_cons (pe_op op_mulI (pv 8) (pv 9)) (pa_cons (pe_op op_mulI (pv 8) (pv 8)) (pa_cons (pe_op op_add (pe_op op_mulI pe_int (pv 8)) pe_int) (pa_cons (pe_op op_add (pe_op op_mulI (pv 8) (pv 9)) pe_int) (pa_cons (pe_op op_sub (pe_op op_powI pe_int pe_int) (pv 9)) pa_nil)))))))) (pg_name (i := 7) sc_law.nd rfl (Or.inl rfl)) (pss_one (ps_if (pt_not (pt_val (pe_cal c__law_says (hr.mono (by decide)) rfl (pa_cons (pe_calS c_is_prime takes0 (hr.mono (by decide)) rfl (pa_cons (pv 7) pa_nil)) (pa_cons (pe_cal c__law_rounds (hr.mono (by decide)) rfl (pa_cons (pv 7) pa_nil)) pa_nil))))) (pss_one (ps_ret pe_bl)) pss_nil)))
  (pss_cons (ps_set (i := 10) sc_law.nd rfl (Or.inl rfl) (pe_op op_sub (pe_cal c__law_take (hr.mono (by decide)) rfl (pa_cons (pv 1) (pa_cons (pe_ix ix_list (pe_lst (pa_cons pe_int (pa_cons (pe_op op_powI pe_int pe_int) (pa_cons (pe_op op_powI pe_int pe_int) pa_nil)))) (pe_cal c__law_take (hr.mono (by decide)) rfl (pa_cons (pv 1) (pa_cons pe_int pa_nil))) (fun _ _ => rfl)) pa_nil))) pe_int))
  (pss_cons (ps_set (i := 6) sc_law.nd rfl (Or.inl rfl) (pe_callB (call_max2 rfl) rfl B.max (by decide +kernel) (pa_cons pe_int (pa_cons (pe_op op_add (pv 10) pe_int) pa_nil))))
  (pss_cons (ps_while PassesOwn.never (pt_not (pt_val (pe_cal c__law_rounds (hr.mono (by decide)) rfl (pa_cons (pv 6) pa_nil)))) (pss_one (ps_set (i := 6) sc_law.nd rfl (Or.inl rfl) (pe_op op_add (pv 6) pe_int))))
  (pss_cons (ps_if (pt_not (pt_val (pe_cal c__law_whole (hr.mono (by decide)) rfl (pa_cons (pe_cal c_plain1 (hr.mono (by decide)) rfl (pa_cons (pe_cal c_next_prime (hr.mono (by decide)) rfl (pa_cons (pv 10) pa_nil)) pa_nil)) (pa_cons (pv 6) pa_nil))))) (pss_one (ps_ret pe_bl)) pss_nil)
  (pss_cons (ps_set (i := 11) sc_law.nd rfl (Or.inl rfl) pe_int)
  (pss_one (ps_ret (pe_and (pe_cmpR op_eq (pe_cal c__law_refused (hr.mono (by decide)) rfl (pa_cons (pv 11) pa_nil)) pe_str (nomark _)) (pe_and (pe_cmpR op_eq (pe_cal c__law_refused (hr.mono (by decide)) rfl (pa_cons (pe_op op_sub (pv 11) pe_int) pa_nil)) pe_str (nomark _)) (pe_one (pe_cmpR op_eq (pe_cal c__law_refused (hr.mono (by decide)) rfl (pa_cons (pe_op op_powI pe_int pe_int) pa_nil)) pe_str (nomark _)))))))))))))))))))))))), ?_⟩
    rw [CB.rd_seq]
    walk_at "rs"
    refine ⟨a, ns, rfl, hS, hl, fun st x0 y0 H1 s1 np1 h1 => ?_⟩
    clear hS s1 np1
    walk_at "nx"
    refine ⟨1000, rfl, by decide, by decide, fun kp H2 s2 nk hk => ?_⟩
    have hs := s2 _ _ h1
    have nks : st ≠ kp := ne_of_none h1 nk
    clear s2 nk h1
    walk_at "nx"
    refine ⟨by decide, fun l2 nl2 => ⟨st, x0, y0, _, rfl, (same_upd nl2) _ _ hs, by decide, by decide +kernel, fun v x1 y1 v0 v1 => ?_⟩⟩
    have n2 : l2 ≠ st := (ne_of_none hs nl2).symm
    have n2k : l2 ≠ kp := (ne_of_none hk nl2).symm
    obtain ⟨w1, e1, hw1⟩ := pick3 v0 v1 (.int 30) (.int 1000) (.int 20000)
    refine ⟨_, v, rfl, SqL.of (by rw [upd_ne n2, upd_same]), w1, e1, ?_⟩
    obtain ⟨w1, rfl, b1⟩ : ∃ i : Int, w1 = .int i ∧ (1 ≤ i ∧ i ≤ 20000) := by
      rcases hw1 with rfl | rfl | rfl
      · exact ⟨_, rfl, by decide⟩
      · exact ⟨_, rfl, by decide⟩
      · exact ⟨_, rfl, by decide⟩
    refine ⟨st, _, _, w1, rfl, upd_same, by omega, lg_int (by omega), fun u x2 y2 u0 u1 => ?_⟩
    have h2 : (upd (upd (upd H2 l2 (.lst [.int 30, .int 1000, .int 20000])) st (.lst [.int x1, .int y1])) st (.lst [.int x2, .int y2])) st = some (.lst [.int x2, .int y2]) := upd_same
    have k2 : (upd (upd (upd H2 l2 (.lst [.int 30, .int 1000, .int 20000])) st (.lst [.int x1, .int y1])) st (.lst [.int x2, .int y2])) kp = some (.lst (vNs (plist 1000))) := by rw [upd_ne nks.symm, upd_ne nks.symm, upd_ne n2k.symm]; exact hk
    generalize (upd (upd (upd H2 l2 (.lst [.int 30, .int 1000, .int 20000])) st (.lst [.int x1, .int y1])) st (.lst [.int x2, .int y2])) = H3 at *
    clear hs hk n2 n2k nl2 e1 hw1
    refine ⟨u, rfl, ?_⟩
    walk_at "nx"
    have pl : (plist (u - 2).toNat).length ≤ 30000 := by
      have := plist_len (u - 2).toNat
      omega
    refine ⟨u - 2, rfl, by omega, fun t1 H4 s4 nt1 ht1 => ⟨t1, (plist (u - 2).toNat).map (fun n : Nat => (n : Int)), rfl, by rw [vNs_int]; exact SqT.of ht1, by rw [List.length_map]; exact pl, fun t2 H5 s5 nt2 ht2 => ?_⟩⟩
    rw [vNs_int] at ht2
    have s6 := s4.trans s5
    have h5 := s6 _ _ h2
    have k5 := s6 _ _ k2
    clear s4 s5 s6 h2 k2 ht1 nt1
    walk_at "nx"
    refine isi_mk (.base (.tup ht2)) (b := true) (by decide +kernel) ⟨true, rfl, ?_⟩
    rw [if_neg (by decide)]
    refine ⟨u - 2, rfl, by omega, by omega, fun l6 H6 s6 nl6 hl6 => ⟨_, rfl, _, .inl ⟨SqL.of hl6, fun t7 nt7 => ⟨t2, t7, plist (u - 2).toNat, rfl, SqT.of (same_upd nt7 _ _ (s6 _ _ ht2)), SqT.of upd_same, pl, fun H7 s7 => ⟨true, rfl, ?_⟩⟩⟩⟩⟩
    have s8 := (s6.trans (same_upd nt7)).trans s7
    have h7 := s8 _ _ h5
    have k7 := s8 _ _ k5
    clear s6 s7 s8 h5 k5 hl6 ht2 nl6 nt7 nt2
    rw [if_neg (by decide)]
    walk_at "nx"
    have e6 : (10 : Int) ^ Int.toNat 6 = 1000000 := by decide
    rw [e6]
    refine ⟨⟨by decide, by decide +kernel⟩, by decide, fun l8 nl8 => ⟨st, x2, y2, _, rfl, (same_upd nl8) _ _ h7, by decide, by decide +kernel, fun v2 x3 y3 v20 v21 => ?_⟩⟩
    have n8 : l8 ≠ st := (ne_of_none h7 nl8).symm
    have n8k : l8 ≠ kp := (ne_of_none k7 nl8).symm
    obtain ⟨w2, e2, hw2⟩ := pick2i v20 v21 100 1000000
    have b2 : 1 ≤ w2 ∧ w2 ≤ 1000000 := by omega
    refine ⟨_, v2, rfl, SqL.of (by rw [upd_ne n8, upd_same]), _, e2, ?_⟩
    refine ⟨st, _, _, w2, rfl, upd_same, by omega, lg_int (by omega), fun sm x4 y4 sm0 sm1 => ?_⟩
    have h8 : (upd (upd (upd H7 l8 (.lst [.int 100, .int 1000000])) st (.lst [.int x3, .int y3])) st (.lst [.int x4, .int y4])) st = some (.lst [.int x4, .int y4]) := upd_same
    have k8 : (upd (upd (upd H7 l8 (.lst [.int 100, .int 1000000])) st (.lst [.int x3, .int y3])) st (.lst [.int x4, .int y4])) kp = some (.lst (vNs (plist 1000))) := by rw [upd_ne nks.symm, upd_ne nks.symm, upd_ne n8k.symm]; exact k7
    generalize (upd (upd (upd H7 l8 (.lst [.int 100, .int 1000000])) st (.lst [.int x3, .int y3])) st (.lst [.int x4, .int y4])) = H8 at *
    clear h7 k7 n8 n8k nl8 e2 hw2
    obtain ⟨sn, rfl⟩ := Int.eq_ofNat_of_zero_le sm0
    have sL : sn < 1000000 := by omega
    refine seq_cut (fun σ H9 => σ = [some (.ref a), some (.ref st), some (.ref kp), some (.int (u - 2)), some (.ref t2), some (.int sn), some (V.bl (rounds sn)), none, none, none, none, none, none] ∧ Same H8 H9) (fun R hR => ?_) ?_
    · walk_at "rs"
      by_cases c : 1 < (sn : Int)
      · rw [if_pos c]
        refine ⟨⟨_, SqL.of k8⟩, LcL.p (xs := vNs (plist 1000)) (fun i => (plist 1000)[i]?.bind (tr sn)) (by have := plist_len 1000; rw [vNs_len]; omega) (fun H1 s1 => SqL.of (s1 _ _ k8)) ?_ ?_⟩
        · intro i x hx H9 s9 M S hM hS
          unfold vNs at hx
          rw [List.getElem?_map] at hx
          obtain ⟨p, hp, rfl⟩ := Option.map_eq_some_iff.mp hx
          have pm : p ≤ 1000 ∧ 2 ≤ p := by
            obtain ⟨m1, m2⟩ := List.mem_filter.mp (List.mem_of_getElem? hp)
            have := List.mem_range.mp m1
            exact ⟨by omega, (pb_prm.mp m2).1⟩
          walk_at "rd"
          rw [hp] at hM hS
          have em : (p : Int) * (p : Int) = ((p * p : Nat) : Int) := (Int.natCast_mul _ _).symm
          rw [em]
          refine ⟨mulL (by omega), ?_⟩
          by_cases c2 : p * p ≤ sn
          · rw [if_pos (by omega)]
            have ec : decide ((sn : Int) % (p : Int) = 0) = (sn % p == 0) := by
              have : (sn : Int) % (p : Int) = ((sn % p : Nat) : Int) := (Int.natCast_emod sn p).symm
              rw [Bool.eq_iff_iff, decide_eq_true_eq, beq_iff_eq]
              omega
            refine ⟨by omega, hM _ _ ?_ (Same.refl _)⟩
            rw [ec]
            show tr sn p = _
            unfold tr
            rw [if_pos c2]
          · rw [if_neg (by omega)]
            refine hS _ ?_ (Same.refl _)
            show tr sn p = none
            unfold tr
            rw [if_neg c2]
        · intro D H9 nD s9 hD
          have e : (List.range (vNs (plist 1000)).length).filterMap (fun i => (plist 1000)[i]?.bind (tr sn)) = (trs sn).map V.bl := by
            rw [vNs_len, fm_get, tr_eq]
            rfl
          rw [e] at hD
          refine ⟨D, rfl, _, SqL.of hD, hR _ _ ⟨?_, s9⟩⟩
          rw [trs_all (by omega) sL]
      · rw [if_neg c]
        refine hR _ _ ⟨?_, Same.refl _⟩
        have := round_0 (n := (sn : Int)) (by omega)
        rw [Int.toNat_natCast] at this
        rw [this]
    rintro σ H9 ⟨rfl, s9⟩
    have h9 := s9 _ _ h8
    clear s9 h8 k8
    walk_at "nx"
    refine ⟨(sn : Int), rfl, .inr ⟨by unfold BND; omega, fun G1 z1 => ⟨rounds sn, rounds sn, rfl, true, by rw [beq_self_eq_true], ?_⟩⟩⟩
    rw [if_neg (by decide)]
    refine ⟨-(sn : Int), rfl, .inr ⟨by unfold BND; omega, fun G2 z2 => ?_⟩⟩
    rw [show (-(sn : Int)).toNat = 0 by omega]
    have r0 : rounds 0 = false := by decide
    rw [r0]
    refine ⟨false, false, rfl, rfl, _, rfl, ?_⟩
    rw [if_neg (by decide)]
    have hA := z2 _ _ (z1 _ _ h9)
    clear z1 z2 h9
    walk_at "nx"
    refine ⟨by decide, fun l10 nl10 => ⟨st, x4, y4, _, rfl, (same_upd nl10) _ _ hA, by decide, by decide +kernel, fun v3 x5 y5 v30 v31 => ?_⟩⟩
    have n10 : l10 ≠ st := (ne_of_none hA nl10).symm
    obtain ⟨w3, e3, hw3⟩ := pick6 v30 v31 561 1729 3215031751 341550071728321 318665857834031151167461 3825123056546413051
    refine ⟨_, v3, rfl, SqL.of (by rw [upd_ne n10, upd_same]), _, e3, ?_⟩
    have r3 : rounds w3.toNat = false ∧ w3 < BND := by
      obtain ⟨r1, r2, r3, r4, r5, r6⟩ := six_no
      rcases hw3 with rfl | rfl | rfl | rfl | rfl | rfl
      · exact ⟨r1, by decide⟩
      · exact ⟨r2, by decide⟩
      · exact ⟨r3, by decide⟩
      · exact ⟨r4, by decide⟩
      · exact ⟨r5, by decide⟩
      · exact ⟨r6, by decide⟩
    have hB : (upd (upd G2 l10 (.lst [V.int 561, V.int 1729, V.int 3215031751, V.int 341550071728321, V.int 318665857834031151167461, V.int 3825123056546413051])) st (.lst [.int x5, .int y5])) st = some (.lst [.int x5, .int y5]) := upd_same
    generalize (upd (upd G2 l10 (.lst [V.int 561, V.int 1729, V.int 3215031751, V.int 341550071728321, V.int 318665857834031151167461, V.int 3825123056546413051])) st (.lst [.int x5, .int y5])) = H10 at *
    clear hA n10 nl10 e3 hw3
    walk_at "nx"
    refine ⟨w3, rfl, .inr ⟨r3.2, fun G3 z3 => ?_⟩⟩
    rw [r3.1]
    refine ⟨false, false, rfl, rfl, _, rfl, ?_⟩
    rw [if_neg (by decide)]
    have hC := z3 _ _ hB
    clear z3 hB
    walk_at "nx"
    have e12 : (10 : Int) ^ Int.toNat 12 = 1000000000000 := by decide
    rw [e12]
    refine ⟨⟨by decide, by decide +kernel⟩, st, x5, y5, _, rfl, hC, by decide, lg_int (by decide), fun v4 x6 y6 v40 v41 => ⟨v4, rfl, ⟨by decide, by decide +kernel⟩, st, x6, y6, _, rfl, upd_same, by decide, lg_int (by decide), fun v5 x7 y7 v50 v51 => ⟨v5, rfl, ?_⟩⟩⟩
    have hD : (upd (upd G3 st (.lst [.int x6, .int y6])) st (.lst [.int x7, .int y7])) st = some (.lst [.int x7, .int y7]) := upd_same
    generalize (upd (upd G3 st (.lst [.int x6, .int y6])) st (.lst [.int x7, .int y7])) = H11 at *
    clear hC
    obtain ⟨A1, hA1⟩ : ∃ A1 : Nat, 2 + v4 = (A1 : Int) := ⟨(2 + v4).toNat, by omega⟩
    obtain ⟨B1, hB1⟩ : ∃ B1 : Nat, 2 + v5 = (B1 : Int) := ⟨(2 + v5).toNat, by omega⟩
    rw [hA1, hB1]
    have a1 : 2 ≤ A1 ∧ A1 ≤ 1000000000001 := by omega
    have b1' : 2 ≤ B1 ∧ B1 ≤ 1000000000001 := by omega
    have ab : A1 * B1 ≤ 1000000000001 * 1000000000001 := Nat.mul_le_mul a1.2 b1'.2
    have aa : A1 * A1 ≤ 1000000000001 * 1000000000001 := Nat.mul_le_mul a1.2 a1.2
    have mab : (A1 : Int) * (B1 : Int) = ((A1 * B1 : Nat) : Int) := (Int.natCast_mul _ _).symm
    have maa : (A1 : Int) * (A1 : Int) = ((A1 * A1 : Nat) : Int) := (Int.natCast_mul _ _).symm
    walk_at "nx"
    have e24 : (10 : Int) ^ Int.toNat 24 = 1000000000000000000000000 := by decide
    rw [e24, mab, maa]
    have zA : Sz 128 (A1 : Int) := szN (Nat.lt_of_le_of_lt a1.2 (by decide))
    have zB : Sz 128 (B1 : Int) := szN (Nat.lt_of_le_of_lt b1'.2 (by decide))
    have okab := zA.ok zB (by decide) (by decide)
    have okaa := zA.ok zA (by decide) (by decide)
    refine ⟨okab, okaa, mulL (by decide), okab, ⟨by decide, by decide +kernel⟩, by decide, fun l12 nl12 => ⟨⟨_, SqL.of upd_same⟩, ?_⟩⟩
    have hL : ∀ x ∈ [V.int (A1 : Int), V.int ((A1 * B1 : Nat) : Int), V.int ((A1 * A1 : Nat) : Int), V.int (2 * (A1 : Int) + 1), V.int (((A1 * B1 : Nat) : Int) + 1), V.int (1000000000000000000000000 - (B1 : Int))], ∃ v : Int, x = .int v ∧ v < BND ∧ v < 2 ^ 128 := by
      have big : ∀ v : Int, v ≤ 1000000000002000000000002 → v < BND ∧ v < 2 ^ 128 := fun v h => ⟨Int.lt_of_le_of_lt h (by decide), Int.lt_of_le_of_lt h (by decide)⟩
      intro x hx
      simp only [List.mem_cons, List.not_mem_nil, or_false] at hx
      rcases hx with rfl | rfl | rfl | rfl | rfl | rfl <;> exact ⟨_, rfl, big _ (by omega)⟩
    have hl12 : (upd H11 l12 (.lst [V.int (A1 : Int), V.int ((A1 * B1 : Nat) : Int), V.int ((A1 * A1 : Nat) : Int), V.int (2 * (A1 : Int) + 1), V.int (((A1 * B1 : Nat) : Int) + 1), V.int (1000000000000000000000000 - (B1 : Int))])) l12 = some (.lst [V.int (A1 : Int), V.int ((A1 * B1 : Nat) : Int), V.int ((A1 * A1 : Nat) : Int), V.int (2 * (A1 : Int) + 1), V.int (((A1 * B1 : Nat) : Int) + 1), V.int (1000000000000000000000000 - (B1 : Int))]) := upd_same
    have hE := (same_upd (o := .lst [V.int (A1 : Int), V.int ((A1 * B1 : Nat) : Int), V.int ((A1 * A1 : Nat) : Int), V.int (2 * (A1 : Int) + 1), V.int (((A1 * B1 : Nat) : Int) + 1), V.int (1000000000000000000000000 - (B1 : Int))]) nl12) _ _ hD
    generalize (upd H11 l12 (.lst [V.int (A1 : Int), V.int ((A1 * B1 : Nat) : Int), V.int ((A1 * A1 : Nat) : Int), V.int (2 * (A1 : Int) + 1), V.int (((A1 * B1 : Nat) : Int) + 1), V.int (1000000000000000000000000 - (B1 : Int))])) = H12 at *
    clear hD nl12
    generalize [V.int (A1 : Int), V.int ((A1 * B1 : Nat) : Int), V.int ((A1 * A1 : Nat) : Int), V.int (2 * (A1 : Int) + 1), V.int (((A1 * B1 : Nat) : Int) + 1), V.int (1000000000000000000000000 - (B1 : Int))] = LL at *
    refine ForL.w (xs := LL) (fun i σ H' => (∃ t7, σ = [some (.ref a), some (.ref st), some (.ref kp), some (.int (u - 2)), some (.ref t2), some (.int sn), some (V.bl (rounds sn)), t7, some (.int A1), some (.int B1), none, none, none]) ∧ Same H12 H') ⟨⟨_, rfl⟩, Same.refl _⟩ (fun i σ H' _ ⟨_, s⟩ => SqL.of (s _ _ hl12)) ?_ ?_
    · rintro i x σ H' hx ⟨⟨t7, rfl⟩, s'⟩ N hN
      obtain ⟨v, rfl, v1, v2⟩ := hL x (List.mem_of_getElem? hx)
      walk_at "rs"
      refine ⟨v, rfl, .inr ⟨v1, fun G4 z4 => ⟨v, rfl, v2, fun G5 z5 => ⟨rounds v.toNat, rounds v.toNat, rfl, true, by rw [beq_self_eq_true], ?_⟩⟩⟩⟩
      rw [if_neg (by decide)]
      exact hN _ _ ⟨⟨_, rfl⟩, (s'.trans z4).trans z5⟩
    rintro σ H' ⟨⟨t7, rfl⟩, s'⟩
    have hF := s' _ _ hE
    clear s' hE hl12
    dsimp only []
    rw [CB.rd_seq]
    walk_at "rs"
    have e15 : (10 : Int) ^ Int.toNat 15 = 1000000000000000 := by decide
    have e20 : (10 : Int) ^ Int.toNat 20 = 100000000000000000000 := by decide
    rw [e15, e20]
    refine ⟨⟨by decide, by decide +kernel⟩, ⟨by decide, by decide +kernel⟩, by decide, fun l14 nl14 => ⟨st, x7, y7, _, rfl, (same_upd nl14) _ _ hF, by decide, by decide +kernel, fun v6 x8 y8 v60 v61 => ?_⟩⟩
    have n14 : l14 ≠ st := (ne_of_none hF nl14).symm
    obtain ⟨w4, e4, hw4⟩ := pick3 v60 v61 (.int 1000) (.int 1000000000000000) (.int 100000000000000000000)
    refine ⟨_, v6, rfl, SqL.of (by rw [upd_ne n14, upd_same]), w4, e4, ?_⟩
    obtain ⟨w4, rfl, b4⟩ : ∃ i : Int, w4 = .int i ∧ (1 ≤ i ∧ i ≤ 100000000000000000000) := by
      rcases hw4 with rfl | rfl | rfl
      · exact ⟨_, rfl, by decide⟩
      · exact ⟨_, rfl, by decide⟩
      · exact ⟨_, rfl, by decide⟩
    refine ⟨st, _, _, w4, rfl, upd_same, by omega, lg_int (by omega), fun v7 x9 y9 v70 v71 => ⟨v7, rfl, ?_⟩⟩
    generalize (upd (upd (upd H' l14 (.lst [V.int 1000, V.int 1000000000000000, V.int 100000000000000000000])) st (.lst [.int x8, .int y8])) st (.lst [.int x9, .int y9])) = H13 at *
    clear hF n14 nl14 e4 hw4
    obtain ⟨start, hst⟩ : ∃ start, start = v7 - 3 := ⟨_, rfl⟩
    rw [← hst]
    rw [CB.rd_seq]
    walk_at "rs"
    have emx : (if start + 1 > 2 then start + 1 else 2) = (((max 2 (start + 1)).toNat : Nat) : Int) := by split <;> omega
    obtain ⟨r, hr1, rN⟩ := ex_nx (lo := (max 2 (start + 1)).toNat) (by unfold NXT; omega)
    generalize hlo : (max 2 (start + 1)).toNat = lo at *
    rw [emx]
    rw [CB.rd_seq]
    refine while_h (fun σ H' => (∃ k : Nat, σ = [some (.ref a), some (.ref st), some (.ref kp), some (.int (u - 2)), some (.ref t2), some (.int sn), some (.int k), t7, some (.int A1), some (.int B1), some (.int start), none, none] ∧ lo ≤ k ∧ k ≤ r))
      (fun σ _ => match σ with | [_, _, _, _, _, _, some (.int k), _, _, _, _, _, _] => (r - k).toNat | _ => 0) ⟨lo, rfl, Nat.le_refl _, hr1.2.1⟩ ?_
    rintro σ H14 ⟨k, rfl, k1, k2'⟩ N hN R hT hF'
    have rB : (k : Int) < 2 ^ 128 := Int.lt_of_le_of_lt (show (k : Int) ≤ 100000000000000000039 by unfold NXT at rN; omega) (by decide)
    walk_at "rs"
    refine ⟨(k : Int), rfl, rB, fun G6 z6 => ⟨rounds k, by rw [Int.toNat_natCast], ?_⟩⟩
    cases c : rounds k with
    | false =>
      refine hT G6 ?_
      walk_at "rs"
      have ne : k ≠ r := fun z => by rw [z, hr1.1] at c; cases c
      rw [show (k : Int) + 1 = ((k + 1 : Nat) : Int) by omega]
      exact hN _ _ ⟨k + 1, rfl, by omega, by omega⟩ (by show ((r : Int) - ((k + 1 : Nat) : Int)).toNat < ((r : Int) - (k : Int)).toNat; omega)
    | true =>
      refine hF' G6 ?_
      have er : k = r := by
        rcases Nat.lt_or_ge k r with z | z
        · have := hr1.2.2 k k1 z
          rw [c] at this
          cases this
        · omega
      subst er
      dsimp only []
      rw [CB.rd_seq]
      walk_at "rs"
      refine ⟨start, rfl, by omega, fun r' G7 hr2 z7 => ⟨.int (r' : Nat), rfl, .inl ⟨_, rfl⟩, r', k, rfl, _, rfl, ?_⟩⟩
      rw [hlo] at hr2
      rw [nx_uniq hr2 hr1, decide_eq_true rfl, if_neg (by decide)]
      walk_at "nx"
      refine ⟨BND, rfl, fun G8 z8 => ?_⟩
      rw [if_pos (Int.le_refl BND)]
      refine ⟨rfl, ?_⟩
      rw [if_pos rfl]
      refine ⟨_, rfl, fun G9 z9 => ?_⟩
      rw [if_neg (by decide)]
      refine ⟨rfl, ?_⟩
      rw [if_pos rfl]
      have e40 : (10 : Int) ^ Int.toNat 40 = 10000000000000000000000000000000000000000 := by decide
      rw [e40]
      refine ⟨⟨by decide, by decide +kernel⟩, _, rfl, fun G10 z10 => ?_⟩
      rw [if_pos (by decide)]
      refine ⟨rfl, ?_⟩
      rw [decide_eq_true rfl]
      exact q _
end

abbrev s_RI : Stmt := inClass (top 3) 0
theorem sc_RI : FnScope ["self", "reason"] ["self", "reason"] (defScope s_RI) := ⟨rfl, rfl, rfl, by decide +kernel, rfl, by decide +kernel, by decide +kernel⟩
theorem ri_fn {P : Program} {w : World} {K : PySem.W.Frag} {mg : Str → Option Value} {base : Heap} {f : Addr} {fd : FuncData} (F : Fun K "__init__" "Refused.__init__" s_RI f fd) : FnOk P w K mg base CX0 1 f fd ["self", "reason"] (spRI K) := by
  refine F.ok sc_RI (fun vs H Q E h => by obtain ⟨a, C, v, rfl, _⟩ := h; rfl) (fun cdv A outer s H vs Q E hr h => ?_)
  obtain ⟨a, C, v, rfl, ox, n, ha, q⟩ := h
  refine ⟨_, pss_one (ps_ost (pv 0) (pv 1)), ?_⟩
  exact ⟨_, rfl, _, rfl, a, C, rfl, ox, n, .inl ⟨ha, fun dx hd ne => q dx hd ne⟩⟩
theorem all_mk {l : PySem.W.OpenLaw} {w : World} {K : PySem.W.Frag} {h : Heap} {mg : Str → Option Value} {fa f__law_take f__law_state f_power f__law_powered f_least_divisor f_stands_round f_is_prime f_next_prime f_primes_to f__law_primes f__law_inner f__law_plain f__law_whole f__law_says f__law_same f__law_rounds f__law_refused f_law ag_BASES CR fI NR : Addr} (X : K.In h) (G : h.Ns mainGlobals mg) (hfa : mg "law" = some (.ref fa))
    {od__law_take an__law_take od__law_state an__law_state od_power an_power od__law_powered an__law_powered od_least_divisor an_least_divisor od_stands_round an_stands_round od_is_prime an_is_prime od_next_prime an_next_prime od_primes_to an_primes_to od__law_primes an__law_primes od__law_inner an__law_inner od__law_plain an__law_plain od__law_whole an__law_whole od__law_says an__law_says od__law_same an__law_same od__law_rounds an__law_rounds od__law_refused an__law_refused od_law an_law og_BASES od_I an_I dd_R : Option Addr} {sl__law_take sl__law_state sl_power sl__law_powered sl_least_divisor sl_stands_round sl_is_prime sl_next_prime sl_primes_to sl__law_primes sl__law_inner sl__law_plain sl__law_whole sl__law_says sl__law_same sl__law_rounds sl__law_refused sl_law sg_BASES sl_I : Array (Option Value)} {oc__law_take kV__law_take dc__law_take pm__law_take cd__law_take ct__law_take oc__law_state kV__law_state dc__law_state pm__law_state cd__law_state ct__law_state oc_power kV_power dc_power pm_power cd_power ct_power oc__law_powered kV__law_powered dc__law_powered pm__law_powered cd__law_powered ct__law_powered oc_least_divisor kV_least_divisor dc_least_divisor pm_least_divisor cd_least_divisor ct_least_divisor oc_stands_round kV_stands_round dc_stands_round pm_stands_round cd_stands_round ct_stands_round oc_is_prime kV_is_prime dc_is_prime pm_is_prime cd_is_prime ct_is_prime oc_next_prime kV_next_prime dc_next_prime pm_next_prime cd_next_prime ct_next_prime oc_primes_to kV_primes_to dc_primes_to pm_primes_to cd_primes_to ct_primes_to oc__law_primes kV__law_primes dc__law_primes pm__law_primes cd__law_primes ct__law_primes oc__law_inner kV__law_inner dc__law_inner pm__law_inner cd__law_inner ct__law_inner oc__law_plain kV__law_plain dc__law_plain pm__law_plain cd__law_plain ct__law_plain oc__law_whole kV__law_whole dc__law_whole pm__law_whole cd__law_whole ct__law_whole oc__law_says kV__law_says dc__law_says pm__law_says cd__law_says ct__law_says oc__law_same kV__law_same dc__law_same pm__law_same cd__law_same ct__law_same oc__law_rounds kV__law_rounds dc__law_rounds pm__law_rounds cd__law_rounds ct__law_rounds oc__law_refused kV__law_refused dc__law_refused pm__law_refused cd__law_refused ct__law_refused oc_law kV_law dc_law pm_law cd_law ct_law oc_I kV_I dc_I pm_I cd_I ct_I : Value} {t_BOUND t_TRIED_TO tg_BASES_0 tg_BASES_1 tg_BASES_2 tg_BASES_3 tg_BASES_4 tg_BASES_5 tg_BASES_6 tg_BASES_7 tg_BASES_8 tg_BASES_9 tg_BASES_10 tg_BASES_11 tg_BASES_12 : Tok} {ng_BASES : Nat} {nm_R q_R : Str} {bs_R bm_R sub_R : List Value} {sn_R : List Str} {ab_R : Bool} {col_R : Option Bool} {m0_R m1_R m2_R m3_R m5_R : Option Value}
    (a__law_take : PySem.W.nsIn K mainGlobals "_law_take" = some (some (.ref f__law_take)))
    (l__law_take : K.lookup f__law_take = some ⟨oc__law_take, od__law_take, .func (PySem.W.fnOf "_law_take" "_law_take" (defArgs s__law_take) (defBody s__law_take) (defScope s__law_take) .none kV__law_take dc__law_take pm__law_take an__law_take cd__law_take ct__law_take), sl__law_take⟩)
    (c__law_take : PySem.W.codeIn K cd__law_take "_law_take" = true)
    (k__law_take : PySem.W.keepIn K (.ref f__law_take) = true)
    (a__law_state : PySem.W.nsIn K mainGlobals "_law_state" = some (some (.ref f__law_state)))
    (l__law_state : K.lookup f__law_state = some ⟨oc__law_state, od__law_state, .func (PySem.W.fnOf "_law_state" "_law_state" (defArgs s__law_state) (defBody s__law_state) (defScope s__law_state) .none kV__law_state dc__law_state pm__law_state an__law_state cd__law_state ct__law_state), sl__law_state⟩)
    (c__law_state : PySem.W.codeIn K cd__law_state "_law_state" = true)
    (k__law_state : PySem.W.keepIn K (.ref f__law_state) = true)
    (a_power : PySem.W.nsIn K mainGlobals "power" = some (some (.ref f_power)))
    (l_power : K.lookup f_power = some ⟨oc_power, od_power, .func (PySem.W.fnOf "power" "power" (defArgs s_power) (defBody s_power) (defScope s_power) .none kV_power dc_power pm_power an_power cd_power ct_power), sl_power⟩)
    (c_power : PySem.W.codeIn K cd_power "power" = true)
    (k_power : PySem.W.keepIn K (.ref f_power) = true)
    (a__law_powered : PySem.W.nsIn K mainGlobals "_law_powered" = some (some (.ref f__law_powered)))
    (l__law_powered : K.lookup f__law_powered = some ⟨oc__law_powered, od__law_powered, .func (PySem.W.fnOf "_law_powered" "_law_powered" (defArgs s__law_powered) (defBody s__law_powered) (defScope s__law_powered) .none kV__law_powered dc__law_powered pm__law_powered an__law_powered cd__law_powered ct__law_powered), sl__law_powered⟩)
    (c__law_powered : PySem.W.codeIn K cd__law_powered "_law_powered" = true)
    (k__law_powered : PySem.W.keepIn K (.ref f__law_powered) = true)
    (a_least_divisor : PySem.W.nsIn K mainGlobals "least_divisor" = some (some (.ref f_least_divisor)))
    (l_least_divisor : K.lookup f_least_divisor = some ⟨oc_least_divisor, od_least_divisor, .func (PySem.W.fnOf "least_divisor" "least_divisor" (defArgs s_least_divisor) (defBody s_least_divisor) (defScope s_least_divisor) .none kV_least_divisor dc_least_divisor pm_least_divisor an_least_divisor cd_least_divisor ct_least_divisor), sl_least_divisor⟩)
    (c_least_divisor : PySem.W.codeIn K cd_least_divisor "least_divisor" = true)
    (k_least_divisor : PySem.W.keepIn K (.ref f_least_divisor) = true)
    (a_stands_round : PySem.W.nsIn K mainGlobals "stands_round" = some (some (.ref f_stands_round)))
    (l_stands_round : K.lookup f_stands_round = some ⟨oc_stands_round, od_stands_round, .func (PySem.W.fnOf "stands_round" "stands_round" (defArgs s_stands_round) (defBody s_stands_round) (defScope s_stands_round) .none kV_stands_round dc_stands_round pm_stands_round an_stands_round cd_stands_round ct_stands_round), sl_stands_round⟩)
    (c_stands_round : PySem.W.codeIn K cd_stands_round "stands_round" = true)
    (k_stands_round : PySem.W.keepIn K (.ref f_stands_round) = true)
    (a_is_prime : PySem.W.nsIn K mainGlobals "is_prime" = some (some (.ref f_is_prime)))
    (l_is_prime : K.lookup f_is_prime = some ⟨oc_is_prime, od_is_prime, .func (PySem.W.fnOf "is_prime" "is_prime" (defArgs s_is_prime) (defBody s_is_prime) (defScope s_is_prime) .none kV_is_prime dc_is_prime pm_is_prime an_is_prime cd_is_prime ct_is_prime), sl_is_prime⟩)
    (c_is_prime : PySem.W.codeIn K cd_is_prime "is_prime" = true)
    (k_is_prime : PySem.W.keepIn K (.ref f_is_prime) = true)
    (a_next_prime : PySem.W.nsIn K mainGlobals "next_prime" = some (some (.ref f_next_prime)))
    (l_next_prime : K.lookup f_next_prime = some ⟨oc_next_prime, od_next_prime, .func (PySem.W.fnOf "next_prime" "next_prime" (defArgs s_next_prime) (defBody s_next_prime) (defScope s_next_prime) .none kV_next_prime dc_next_prime pm_next_prime an_next_prime cd_next_prime ct_next_prime), sl_next_prime⟩)
    (c_next_prime : PySem.W.codeIn K cd_next_prime "next_prime" = true)
    (k_next_prime : PySem.W.keepIn K (.ref f_next_prime) = true)
    (a_primes_to : PySem.W.nsIn K mainGlobals "primes_to" = some (some (.ref f_primes_to)))
    (l_primes_to : K.lookup f_primes_to = some ⟨oc_primes_to, od_primes_to, .func (PySem.W.fnOf "primes_to" "primes_to" (defArgs s_primes_to) (defBody s_primes_to) (defScope s_primes_to) .none kV_primes_to dc_primes_to pm_primes_to an_primes_to cd_primes_to ct_primes_to), sl_primes_to⟩)
    (c_primes_to : PySem.W.codeIn K cd_primes_to "primes_to" = true)
    (k_primes_to : PySem.W.keepIn K (.ref f_primes_to) = true)
    (a__law_primes : PySem.W.nsIn K mainGlobals "_law_primes" = some (some (.ref f__law_primes)))
    (l__law_primes : K.lookup f__law_primes = some ⟨oc__law_primes, od__law_primes, .func (PySem.W.fnOf "_law_primes" "_law_primes" (defArgs s__law_primes) (defBody s__law_primes) (defScope s__law_primes) .none kV__law_primes dc__law_primes pm__law_primes an__law_primes cd__law_primes ct__law_primes), sl__law_primes⟩)
    (c__law_primes : PySem.W.codeIn K cd__law_primes "_law_primes" = true)
    (k__law_primes : PySem.W.keepIn K (.ref f__law_primes) = true)
    (a__law_inner : PySem.W.nsIn K mainGlobals "_law_inner" = some (some (.ref f__law_inner)))
    (l__law_inner : K.lookup f__law_inner = some ⟨oc__law_inner, od__law_inner, .func (PySem.W.fnOf "_law_inner" "_law_inner" (defArgs s__law_inner) (defBody s__law_inner) (defScope s__law_inner) .none kV__law_inner dc__law_inner pm__law_inner an__law_inner cd__law_inner ct__law_inner), sl__law_inner⟩)
    (c__law_inner : PySem.W.codeIn K cd__law_inner "_law_inner" = true)
    (k__law_inner : PySem.W.keepIn K (.ref f__law_inner) = true)
    (a__law_plain : PySem.W.nsIn K mainGlobals "_law_plain" = some (some (.ref f__law_plain)))
    (l__law_plain : K.lookup f__law_plain = some ⟨oc__law_plain, od__law_plain, .func (PySem.W.fnOf "_law_plain" "_law_plain" (defArgs s__law_plain) (defBody s__law_plain) (defScope s__law_plain) .none kV__law_plain dc__law_plain pm__law_plain an__law_plain cd__law_plain ct__law_plain), sl__law_plain⟩)
    (c__law_plain : PySem.W.codeIn K cd__law_plain "_law_plain" = true)
    (k__law_plain : PySem.W.keepIn K (.ref f__law_plain) = true)
    (a__law_whole : PySem.W.nsIn K mainGlobals "_law_whole" = some (some (.ref f__law_whole)))
    (l__law_whole : K.lookup f__law_whole = some ⟨oc__law_whole, od__law_whole, .func (PySem.W.fnOf "_law_whole" "_law_whole" (defArgs s__law_whole) (defBody s__law_whole) (defScope s__law_whole) .none kV__law_whole dc__law_whole pm__law_whole an__law_whole cd__law_whole ct__law_whole), sl__law_whole⟩)
    (c__law_whole : PySem.W.codeIn K cd__law_whole "_law_whole" = true)
    (k__law_whole : PySem.W.keepIn K (.ref f__law_whole) = true)
    (a__law_says : PySem.W.nsIn K mainGlobals "_law_says" = some (some (.ref f__law_says)))
    (l__law_says : K.lookup f__law_says = some ⟨oc__law_says, od__law_says, .func (PySem.W.fnOf "_law_says" "_law_says" (defArgs s__law_says) (defBody s__law_says) (defScope s__law_says) .none kV__law_says dc__law_says pm__law_says an__law_says cd__law_says ct__law_says), sl__law_says⟩)
    (c__law_says : PySem.W.codeIn K cd__law_says "_law_says" = true)
    (k__law_says : PySem.W.keepIn K (.ref f__law_says) = true)
    (a__law_same : PySem.W.nsIn K mainGlobals "_law_same" = some (some (.ref f__law_same)))
    (l__law_same : K.lookup f__law_same = some ⟨oc__law_same, od__law_same, .func (PySem.W.fnOf "_law_same" "_law_same" (defArgs s__law_same) (defBody s__law_same) (defScope s__law_same) .none kV__law_same dc__law_same pm__law_same an__law_same cd__law_same ct__law_same), sl__law_same⟩)
    (c__law_same : PySem.W.codeIn K cd__law_same "_law_same" = true)
    (k__law_same : PySem.W.keepIn K (.ref f__law_same) = true)
    (a__law_rounds : PySem.W.nsIn K mainGlobals "_law_rounds" = some (some (.ref f__law_rounds)))
    (l__law_rounds : K.lookup f__law_rounds = some ⟨oc__law_rounds, od__law_rounds, .func (PySem.W.fnOf "_law_rounds" "_law_rounds" (defArgs s__law_rounds) (defBody s__law_rounds) (defScope s__law_rounds) .none kV__law_rounds dc__law_rounds pm__law_rounds an__law_rounds cd__law_rounds ct__law_rounds), sl__law_rounds⟩)
    (c__law_rounds : PySem.W.codeIn K cd__law_rounds "_law_rounds" = true)
    (k__law_rounds : PySem.W.keepIn K (.ref f__law_rounds) = true)
    (a__law_refused : PySem.W.nsIn K mainGlobals "_law_refused" = some (some (.ref f__law_refused)))
    (l__law_refused : K.lookup f__law_refused = some ⟨oc__law_refused, od__law_refused, .func (PySem.W.fnOf "_law_refused" "_law_refused" (defArgs s__law_refused) (defBody s__law_refused) (defScope s__law_refused) .none kV__law_refused dc__law_refused pm__law_refused an__law_refused cd__law_refused ct__law_refused), sl__law_refused⟩)
    (c__law_refused : PySem.W.codeIn K cd__law_refused "_law_refused" = true)
    (k__law_refused : PySem.W.keepIn K (.ref f__law_refused) = true)
    (a_law : PySem.W.nsIn K mainGlobals "law" = some (some (.ref f_law)))
    (l_law : K.lookup f_law = some ⟨oc_law, od_law, .func (PySem.W.fnOf "law" "law" (defArgs s_law) (defBody s_law) (defScope s_law) .none kV_law dc_law pm_law an_law cd_law ct_law), sl_law⟩)
    (c_law : PySem.W.codeIn K cd_law "law" = true)
    (k_law : PySem.W.keepIn K (.ref f_law) = true)
    (z_abs : PySem.W.nsIn K mainGlobals "abs" = some none)
    (z_int : PySem.W.nsIn K mainGlobals "int" = some none)
    (z_bool : PySem.W.nsIn K mainGlobals "bool" = some none)
    (z_str : PySem.W.nsIn K mainGlobals "str" = some none)
    (z_tuple : PySem.W.nsIn K mainGlobals "tuple" = some none)
    (z_max : PySem.W.nsIn K mainGlobals "max" = some none)
    (z_min : PySem.W.nsIn K mainGlobals "min" = some none)
    (z_range : PySem.W.nsIn K mainGlobals "range" = some none)
    (z_isinstance : PySem.W.nsIn K mainGlobals "isinstance" = some none)
    (z_len : PySem.W.nsIn K mainGlobals "len" = some none)
    (z_all : PySem.W.nsIn K mainGlobals "all" = some none)
    (z_isqrt : PySem.W.nsIn K mainGlobals "isqrt" = some (some (.builtin "math.isqrt")))
    (v_BOUND : PySem.W.nsIn K mainGlobals "BOUND" = some (some (.int 3317044064679887385961981 t_BOUND)))
    (v_TRIED_TO : PySem.W.nsIn K mainGlobals "TRIED_TO" = some (some (.int 1000 t_TRIED_TO)))
    (vg_BASES : PySem.W.nsIn K mainGlobals "BASES" = some (some (.ref ag_BASES)))
    (lg_BASES : K.lookup ag_BASES = some ⟨.type "tuple", og_BASES, .seq #[.int 2 tg_BASES_0, .int 3 tg_BASES_1, .int 5 tg_BASES_2, .int 7 tg_BASES_3, .int 11 tg_BASES_4, .int 13 tg_BASES_5, .int 17 tg_BASES_6, .int 19 tg_BASES_7, .int 23 tg_BASES_8, .int 29 tg_BASES_9, .int 31 tg_BASES_10, .int 37 tg_BASES_11, .int 41 tg_BASES_12] ng_BASES, sg_BASES⟩)
    (aR : PySem.W.nsIn K mainGlobals "Refused" = some (some (.ref CR)))
    (xR : K.lookup CR = some (excClassObj nm_R q_R CR NR bs_R bm_R true sn_R sub_R ab_R col_R dd_R m0_R m1_R m2_R m3_R m5_R "ValueError.__new__"))
    (vR : PySem.HandSPX.refsVE bm_R = true)
    (sR : PySem.W.findIn K (.ref CR) "__setattr__" = some (some (.builtin "object.__setattr__")))
    (gR : PySem.W.findIn K (.ref CR) "__getattribute__" = some (some (.builtin "BaseException.__getattribute__")))
    (hR : PySem.W.findIn K (.ref CR) "__getattr__" = some none)
    (nR : PySem.W.findIn K (.ref CR) "reason" = some none)
    (iR : PySem.W.findIn K (.ref CR) "__init__" = some (some (.ref fI)))
    (tI : PySem.W.typeIn K (.ref fI) = some (.type "function"))
    (lI : K.lookup fI = some ⟨oc_I, od_I, .func (PySem.W.fnOf "__init__" "Refused.__init__" (defArgs s_RI) (defBody s_RI) (defScope s_RI) .none kV_I dc_I pm_I an_I cd_I ct_I), sl_I⟩)
    (cI : PySem.W.codeIn K cd_I "Refused.__init__" = true)
    (kI : PySem.W.keepIn K (.ref fI) = true)
    (kR : PySem.W.keepIn K (.ref CR) = true)
    (bR : PySem.W.subIn K (.ref CR) (.type "BaseException") = some true)
    (tR : PySem.W.typeIn K (.ref CR) = some (.type "type"))
    (dR : PySem.W.hasDictIn K CR = true)
    (cR : PySem.W.isClsIn K CR = true)
    (rr : PySem.W.subIn K (.ref CR) (.ref CR) = some true) :
    ∃ fd : FuncData, (∀ (s : Shared) (v : Value), BindsTo s fd ⟨[v], []⟩ [("script", v)]) ∧ ∀ base : Heap, K.In base → base.Ns mainGlobals mg → FnOk l.prog w K mg base CX0 5 fa fd ["script"] (spLaw K) := by
  have e := hfa.symm.trans (PySem.W.mg_of X G a_law)
  cases e
  have B : Bl mg := { abs := PySem.W.mg_none_of X G z_abs, int := PySem.W.mg_none_of X G z_int, bool := PySem.W.mg_none_of X G z_bool, str := PySem.W.mg_none_of X G z_str, tuple := PySem.W.mg_none_of X G z_tuple, max := PySem.W.mg_none_of X G z_max, min := PySem.W.mg_none_of X G z_min, range := PySem.W.mg_none_of X G z_range, isinstance := PySem.W.mg_none_of X G z_isinstance, len := PySem.W.mg_none_of X G z_len, all := PySem.W.mg_none_of X G z_all, isqrt := PySem.W.mg_of X G z_isqrt, c_BOUND := ⟨_, PySem.W.mg_of X G v_BOUND⟩, c_TRIED_TO := ⟨_, PySem.W.mg_of X G v_TRIED_TO⟩ }
  have d__law_take : Dn K mg "_law_take" s__law_take ["state", "m"] := dn_mk X G a__law_take l__law_take c__law_take k__law_take fun _ _ _ _ _ _ us hl => match us, hl with | [_, _], _ => rfl
  have d__law_state : Dn K mg "_law_state" s__law_state ["script"] := dn_mk X G a__law_state l__law_state c__law_state k__law_state fun _ _ _ _ _ _ us hl => match us, hl with | [_], _ => rfl
  have d_power : Dn K mg "power" s_power ["a", "e", "m"] := dn_mk X G a_power l_power c_power k_power fun _ _ _ _ _ _ us hl => match us, hl with | [_, _, _], _ => rfl
  have d__law_powered : Dn K mg "_law_powered" s__law_powered ["a", "e", "m"] := dn_mk X G a__law_powered l__law_powered c__law_powered k__law_powered fun _ _ _ _ _ _ us hl => match us, hl with | [_, _, _], _ => rfl
  have d_least_divisor : Dn K mg "least_divisor" s_least_divisor ["n", "most"] := dn_mk X G a_least_divisor l_least_divisor c_least_divisor k_least_divisor fun _ _ _ _ _ _ us hl => match us, hl with | [_, _], _ => rfl
  have d_stands_round : Dn K mg "stands_round" s_stands_round ["n", "a"] := dn_mk X G a_stands_round l_stands_round c_stands_round k_stands_round fun _ _ _ _ _ _ us hl => match us, hl with | [_, _], _ => rfl
  have d_is_prime : Dn K mg "is_prime" s_is_prime ["n"] := dn_mk X G a_is_prime l_is_prime c_is_prime k_is_prime fun _ _ _ _ _ _ us hl => match us, hl with | [_], _ => rfl
  have d_next_prime : Dn K mg "next_prime" s_next_prime ["n"] := dn_mk X G a_next_prime l_next_prime c_next_prime k_next_prime fun _ _ _ _ _ _ us hl => match us, hl with | [_], _ => rfl
  have d_primes_to : Dn K mg "primes_to" s_primes_to ["n"] := dn_mk X G a_primes_to l_primes_to c_primes_to k_primes_to fun _ _ _ _ _ _ us hl => match us, hl with | [_], _ => rfl
  have d__law_primes : Dn K mg "_law_primes" s__law_primes ["most"] := dn_mk X G a__law_primes l__law_primes c__law_primes k__law_primes fun _ _ _ _ _ _ us hl => match us, hl with | [_], _ => rfl
  have d__law_inner : Dn K mg "_law_inner" s__law_inner ["value"] := dn_mk X G a__law_inner l__law_inner c__law_inner k__law_inner fun _ _ _ _ _ _ us hl => match us, hl with | [_], _ => rfl
  have d__law_plain : Dn K mg "_law_plain" s__law_plain ["value"] := dn_mk X G a__law_plain l__law_plain c__law_plain k__law_plain fun _ _ _ _ _ _ us hl => match us, hl with | [_], _ => rfl
  have d__law_whole : Dn K mg "_law_whole" s__law_whole ["value", "due"] := dn_mk X G a__law_whole l__law_whole c__law_whole k__law_whole fun _ _ _ _ _ _ us hl => match us, hl with | [_, _], _ => rfl
  have d__law_says : Dn K mg "_law_says" s__law_says ["value", "due"] := dn_mk X G a__law_says l__law_says c__law_says k__law_says fun _ _ _ _ _ _ us hl => match us, hl with | [_, _], _ => rfl
  have d__law_same : Dn K mg "_law_same" s__law_same ["one", "two"] := dn_mk X G a__law_same l__law_same c__law_same k__law_same fun _ _ _ _ _ _ us hl => match us, hl with | [_, _], _ => rfl
  have d__law_rounds : Dn K mg "_law_rounds" s__law_rounds ["n"] := dn_mk X G a__law_rounds l__law_rounds c__law_rounds k__law_rounds fun _ _ _ _ _ _ us hl => match us, hl with | [_], _ => rfl
  have d__law_refused : Dn K mg "_law_refused" s__law_refused ["n"] := dn_mk X G a__law_refused l__law_refused c__law_refused k__law_refused fun _ _ _ _ _ _ us hl => match us, hl with | [_], _ => rfl
  have d_law : Dn K mg "law" s_law ["script"] := dn_mk X G a_law l_law c_law k_law fun _ _ _ _ _ _ us hl => match us, hl with | [_], _ => rfl
  have hR2 : PySem.W.exmOne K (.ref CR) (.ref CR) = some true := exm_b bR cR tR rr
  refine ⟨PySem.W.fnOf "law" "law" (defArgs s_law) (defBody s_law) (defScope s_law) .none kV_law dc_law pm_law an_law cd_law ct_law, fun s v => .of_eq rfl, fun base _ _ => ?_⟩
  have FI := fun_mk (st := s_RI) lI cI kI
  have bI := FI.binds (ps := ["self", "reason"]) fun _ _ _ _ _ _ us hl => match us, hl with | [_, _], _ => rfl
  have e_E : ErrQ l.prog w K mg base CR := ⟨fI, _, ⟨PySem.W.mg_of X G aR, ⟨⟨nm_R, q_R, NR, bs_R, bm_R, sn_R, sub_R, ab_R, col_R, dd_R, m0_R, m1_R, m2_R, m3_R, m5_R, xR, vR⟩, sR, bR, tR, kR⟩, iR, tI, nR, ⟨gR, hR, bR, dR⟩, hR2⟩,
    ri_fn FI, bI⟩
  have c_BASES : TC K mg "BASES" [2, 3, 5, 7, 11, 13, 17, 19, 23, 29, 31, 37, 41] := ⟨_, PySem.W.mg_of X G vg_BASES, fun H => .inr ⟨_, _, _, lg_BASES, rfl, rfl, by show 13 ≤ sizeLine; rw [PySem.sizeLine_eq]; decide, (.cons ⟨_, rfl⟩ (.cons ⟨_, rfl⟩ (.cons ⟨_, rfl⟩ (.cons ⟨_, rfl⟩ (.cons ⟨_, rfl⟩ (.cons ⟨_, rfl⟩ (.cons ⟨_, rfl⟩ (.cons ⟨_, rfl⟩ (.cons ⟨_, rfl⟩ (.cons ⟨_, rfl⟩ (.cons ⟨_, rfl⟩ (.cons ⟨_, rfl⟩ (.cons ⟨_, rfl⟩ .nil)))))))))))))⟩⟩
  have r_take := cal_take (P := l.prog) (w := w) (base := base) d__law_take B
  have r_state := cal_state (P := l.prog) (w := w) (base := base) d__law_state B
  have r_pow := cal_pow (P := l.prog) (w := w) (base := base) d_power B
  have r_lpow := cal_lpow (P := l.prog) (w := w) (base := base) d__law_powered B
  have r_least := cal_least (P := l.prog) (w := w) (base := base) d_least_divisor B
  have r_round := cal_round (P := l.prog) (w := w) (base := base) d_stands_round B r_pow
  have r_isp := cal_isp (P := l.prog) (w := w) (base := base) d_is_prime B r_least r_round c_BASES e_E
  have r_np := cal_np (P := l.prog) (w := w) (base := base) d_next_prime B r_isp
  have r_pt := cal_pt (P := l.prog) (w := w) (base := base) d_primes_to B
  have r_lp := cal_lp (P := l.prog) (w := w) (base := base) d__law_primes B
  have r_inn := cal_inn (P := l.prog) (w := w) (base := base) d__law_inner B
  have r_innT := cal_innT (P := l.prog) (w := w) (base := base) d__law_inner B r_inn
  have r_pl1 := cal_pl1 (P := l.prog) (w := w) (base := base) d__law_plain B r_inn
  have r_plT := cal_plT (P := l.prog) (w := w) (base := base) d__law_plain B r_innT
  have r_wh := cal_wh (P := l.prog) (w := w) (base := base) d__law_whole B
  have r_says := cal_says (P := l.prog) (w := w) (base := base) d__law_says B
  have r_same1 := cal_same1 (P := l.prog) (w := w) (base := base) d__law_same B
  have r_same2 := cal_same2 (P := l.prog) (w := w) (base := base) d__law_same B r_same1
  have r_lr := cal_lr (P := l.prog) (w := w) (base := base) d__law_rounds B r_lpow
  have r_ref := cal_ref (P := l.prog) (w := w) (base := base) d__law_refused B r_isp e_E
  exact ok_law (P := l.prog) (w := w) (base := base) (fun_mk (st := s_law) l_law c_law k_law) B r_state r_take r_lp r_pt r_plT r_pl1 r_same2 r_says r_isp r_lr r_np r_wh r_ref
theorem walk {l : PySem.W.OpenLaw} {q : Program} {loose : List Str} {XP : (Str → Option Value) → Heap → Prop} {YP : World → Heap → Prop} {d : DefRec} {K : Params → PySem.W.Frag} (hn : l.most = some 63) (hdf : d.params.defaults = []) (hY : ∀ (w : World) (h : Heap), YP w h → (K w.params).In h)
    (F : ∀ (w : World) (mg : Str → Option Value) (fa : Addr) (h : Heap), (K w.params).In h → h.Ns mainGlobals mg → mg d.name = some (.ref fa) → ∃ fd : FuncData, (∀ (s : Shared) (u : Value), BindsTo s fd ⟨[u], []⟩ [("script", u)]) ∧ ∀ base : Heap, (K w.params).In base → base.Ns mainGlobals mg → FnOk l.prog w (K w.params) mg base CX0 5 fa fd ["script"] (spLaw (K w.params))) :
    PySem.W.WalkO q loose XP YP l.row.toRowW d [] (fun f vs => PySem.call f vs) :=
  L2.walk_of (n := 63) (k := 5) (x := "script") (CX := fun _ => CX0) (sp := fun w => spLaw (K w.params)) hn (by decide) hdf ⟨rfl, by decide, by decide⟩ hY F (fun _ _ a ns hl _ hS => ⟨a, ns, rfl, hS, hl, fun _ => rfl⟩) fun _ _ _ _ _ z => z

end L06
open PySem PySem.W PyProof.Rows
set_option maxRecDepth 100000 in
set_option maxHeartbeats 0 in
theorem PySem.Challenge.cw_classledger_k06_primes_told_holds : PySem.Challenge.rw_classledger_k06_primes_told.Holds := by
  w_on; o_law; k_head; (case hw => w_witness2)
  k_fill
  refine L06.walk (l := PySem.Challenge.rw_classledger_k06_primes_told) rfl rfl (fun w h Y => PySem.W.kIn_of Y) ?F
  case F =>
    intro w mg fa h KX G hmg
    refine' L06.all_mk KX G hmg ?a__law_take ?l__law_take ?c__law_take ?k__law_take ?a__law_state ?l__law_state ?c__law_state ?k__law_state ?a_power ?l_power ?c_power ?k_power ?a__law_powered ?l__law_powered ?c__law_powered ?k__law_powered ?a_least_divisor ?l_least_divisor ?c_least_divisor ?k_least_divisor ?a_stands_round ?l_stands_round ?c_stands_round ?k_stands_round ?a_is_prime ?l_is_prime ?c_is_prime ?k_is_prime ?a_next_prime ?l_next_prime ?c_next_prime ?k_next_prime ?a_primes_to ?l_primes_to ?c_primes_to ?k_primes_to ?a__law_primes ?l__law_primes ?c__law_primes ?k__law_primes ?a__law_inner ?l__law_inner ?c__law_inner ?k__law_inner ?a__law_plain ?l__law_plain ?c__law_plain ?k__law_plain ?a__law_whole ?l__law_whole ?c__law_whole ?k__law_whole ?a__law_says ?l__law_says ?c__law_says ?k__law_says ?a__law_same ?l__law_same ?c__law_same ?k__law_same ?a__law_rounds ?l__law_rounds ?c__law_rounds ?k__law_rounds ?a__law_refused ?l__law_refused ?c__law_refused ?k__law_refused ?a_law ?l_law ?c_law ?k_law ?z_abs ?z_int ?z_bool ?z_str ?z_tuple ?z_max ?z_min ?z_range ?z_isinstance ?z_len ?z_all ?z_isqrt ?v_BOUND ?v_TRIED_TO ?vg_BASES ?lg_BASES ?aR ?xR ?vR ?sR ?gR ?hR ?nR ?iR ?tI ?lI ?cI ?kI ?kR ?bR ?tR ?dR ?cR ?rr
    (case a__law_take => k_is); (case l__law_take => k_is); (case c__law_take => k_is); (case k__law_take => k_is)
    (case a__law_state => k_is); (case l__law_state => k_is); (case c__law_state => k_is); (case k__law_state => k_is)
    (case a_power => k_is); (case l_power => k_is); (case c_power => k_is); (case k_power => k_is)
    (case a__law_powered => k_is); (case l__law_powered => k_is); (case c__law_powered => k_is); (case k__law_powered => k_is)
    (case a_least_divisor => k_is); (case l_least_divisor => k_is); (case c_least_divisor => k_is); (case k_least_divisor => k_is)
    (case a_stands_round => k_is); (case l_stands_round => k_is); (case c_stands_round => k_is); (case k_stands_round => k_is)
    (case a_is_prime => k_is); (case l_is_prime => k_is); (case c_is_prime => k_is); (case k_is_prime => k_is)
    (case a_next_prime => k_is); (case l_next_prime => k_is); (case c_next_prime => k_is); (case k_next_prime => k_is)
    (case a_primes_to => k_is); (case l_primes_to => k_is); (case c_primes_to => k_is); (case k_primes_to => k_is)
    (case a__law_primes => k_is); (case l__law_primes => k_is); (case c__law_primes => k_is); (case k__law_primes => k_is)
    (case a__law_inner => k_is); (case l__law_inner => k_is); (case c__law_inner => k_is); (case k__law_inner => k_is)
    (case a__law_plain => k_is); (case l__law_plain => k_is); (case c__law_plain => k_is); (case k__law_plain => k_is)
    (case a__law_whole => k_is); (case l__law_whole => k_is); (case c__law_whole => k_is); (case k__law_whole => k_is)
    (case a__law_says => k_is); (case l__law_says => k_is); (case c__law_says => k_is); (case k__law_says => k_is)
    (case a__law_same => k_is); (case l__law_same => k_is); (case c__law_same => k_is); (case k__law_same => k_is)
    (case a__law_rounds => k_is); (case l__law_rounds => k_is); (case c__law_rounds => k_is); (case k__law_rounds => k_is)
    (case a__law_refused => k_is); (case l__law_refused => k_is); (case c__law_refused => k_is); (case k__law_refused => k_is)
    (case a_law => k_is); (case l_law => k_is); (case c_law => k_is); (case k_law => k_is)
    (case z_abs => k_is); (case z_int => k_is); (case z_bool => k_is); (case z_str => k_is)
    (case z_tuple => k_is); (case z_max => k_is); (case z_min => k_is); (case z_range => k_is)
    (case z_isinstance => k_is); (case z_len => k_is); (case z_all => k_is); (case z_isqrt => k_is)
    (case v_BOUND => k_is); (case v_TRIED_TO => k_is); (case vg_BASES => k_is); (case lg_BASES => k_is)
    (case aR => k_is); (case xR => k_is); (case vR => first | rfl | decide +kernel); (case sR => k_is)
    (case gR => k_is); (case hR => k_is); (case nR => k_is); (case iR => k_is)
    (case tI => k_is); (case lI => k_is); (case cI => k_is); (case kI => k_is)
    (case kR => k_is); (case bR => k_is); (case tR => k_is); (case dR => k_is)
    (case cR => k_is); (case rr => k_is)
