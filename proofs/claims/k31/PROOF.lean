import PyProof.Rows.All
import Wide.All
import OpenK.AllK
import Wide.FinOn
import HandS.ForMost
import HandS.Exc
import HandS.ExcOwn
import HandS.ExcInit
import HandS.TryOnly
import HandS.TryMany
import HandS.WordsExc
import HandS.Gcd
import HandS.Wide
import HandS.WideMore
import HandS.WideBits
import HandS.IsInst
import HandS.Style
import HandS.Flow
import HandS.SortRule
import HandS.SortInts
import HandS.Conv
import HandS.ExcField
import KE.SortData
import HandS.More
import KE.BitLaws
import PySem.Challenge.RW_classledger_k31_whole_fundamental_discri
set_option Elab.async false
set_option linter.all false
set_option maxRecDepth 100000
set_option maxHeartbeats 4000000
namespace CB
open PySem PySem.Spec PyProof.Rows L2
/-! ### operators of any size -/
section
variable {X : Cx}
theorem op_mulI : OpR X (binaryOp .Mult) (rI IntMulOk fun i j => .int (i * j)) := opI fun _ _ _ _ _ _ _ hc q => mul_int q hc
theorem iop_mulI : OpR X (inplaceOp .Mult) (rI IntMulOk fun i j => .int (i * j)) := opI fun _ _ _ _ _ _ _ hc q => imul_int q hc
/-- math.isqrt of an int below 2 ^ 13000 -/
def rIsqrt : List V → Hp → VK → Prop := fun vs H Q => ∃ a : Int, vs = [.int a] ∧ 0 ≤ a ∧ a < 2 ^ 13000 ∧ Q (.int ((Float64.isqrt a.toNat : Nat) : Int)) H
theorem log_lt {n k : Nat} (h : n < 2 ^ (k + 1)) : n.log2 ≤ k := PySem.W.mg_log h
theorem cr_isqrt : CallR X (.builtin "math.isqrt") rIsqrt := by
  intro pins s σ H vs us Q I r h
  obtain ⟨a, rfl, h0, h1, q⟩ := h
  obtain ⟨u, rfl, ru⟩ := vals1 r
  obtain ⟨t, rfl⟩ := ru
  have hl : a.toNat.log2 ≤ 12999 := log_lt (by
    have e : ((2 : Int) ^ 13000) = ((2 ^ 13000 : Nat) : Int) := by rw [Int.natCast_pow]; rfl
    rw [e] at h1
    show a.toNat < 2 ^ 13000
    omega)
  exact call_function_meets PySem.W.MGF.kind_isqrt PySem.W.MGF.plain_isqrt PySem.W.MGF.entry_isqrt (PySem.W.MGF.args_isqrt _) (PySem.W.mg_run_isqrt a t (by omega) (by omega) (by omega)).meets
    ⟨.int _, H, I.tok _, ⟨_, rfl⟩, q⟩
theorem isqrt_spec (n : Nat) : Float64.isqrt n * Float64.isqrt n ≤ n ∧ n < (Float64.isqrt n + 1) * (Float64.isqrt n + 1) := PySem.Float64.isqrt_spec n
/-! ### a < b < c < d -/
def tChain3 (r r' r'' : R2) (ta tb tc td : TE) : TE := fun σ H Q => ta σ H fun x H1 => tb σ H1 fun y H2 => r x y H2 fun z H3 => ∃ k, z = .bl k ∧
  (if k = true then tc σ H3 fun y' H4 => r' y y' H4 fun z' H5 => ∃ k', z' = .bl k' ∧ (if k' = true then td σ H5 fun w' H6 => r'' y' w' H6 Q else Q (.bl false) H5) else Q (.bl false) H3)
variable {a b c d : Expr} {ta tb tc td : TE} {pos : Pos}
theorem pt_chain3 {o1 o2 o3 : CmpOp} {r r' r'' : R2} (ho : OpR X (compareOp o1) r) (ho' : OpR X (compareOp o2) r') (ho'' : OpR X (compareOp o3) r'') (ha : PE X a ta) (hb : PE X b tb) (hc : PE X c tc) (hd : PE X d td)
    (hm : lastMarks [o1, o2, o3] [b, c, d] = false := by with_unfolding_all rfl) : PT X (.Compare a [o1, o2, o3] [b, c, d] pos) (tTest (tChain3 r r' r'' ta tb tc td)) := by
  refine ⟨fun pins s σ H Q I h => ?_⟩
  refine isTrue_chain (thn (ha.run pins s σ H _ I h) fun v s1 ⟨x, H1, I1, r1, q1⟩ => test_link (thn (hb.run pins s1 σ H1 _ I1 q1) fun u s2 ⟨y, H2, I2, r2, q2⟩ =>
    thn (ho pins s2 σ H2 x y v u _ I2 r1 r2 q2) fun d1 s3 ⟨z, H3, I3, r3, k, e, q3⟩ => ?_)) hm
  subst e
  cases r3
  refine wpAny_truthy_bool ?_
  cases k with
  | false =>
    obtain ⟨k', e', q'⟩ := q3
    cases e'
    exact ite_ff ⟨H3, I3, q'⟩
  | true =>
    refine ite_tt (test_link (thn (hc.run pins s3 σ H3 _ I3 q3) fun u' s4 ⟨y', H4, I4, r4, q4⟩ => thn (ho' pins s4 σ H4 y y' u u' _ I4 r2 r4 q4) fun d2 s5 ⟨z2, H5, I5, r5, k2, e2, q5⟩ => ?_))
    subst e2
    cases r5
    refine wpAny_truthy_bool ?_
    cases k2 with
    | false =>
      obtain ⟨k', e', q'⟩ := q5
      cases e'
      exact ite_ff ⟨H5, I5, q'⟩
    | true =>
      refine ite_tt (test_last (thn (hd.run pins s5 σ H5 _ I5 q5) fun w' s6 ⟨z3, H6, I6, r6, q6⟩ => thn (ho'' pins s6 σ H6 y' z3 u' w' _ I6 r4 r6 q6) fun d3 s7 ⟨z4, H7, I7, r7, k4, e4, q7⟩ => ?_))
      subst e4
      cases r7
      exact wpAny_truthy_bool ⟨H7, I7, q7⟩
end
/-! ### a def that a caller calls by its name -/
structure Cal (P : Program) (w : World) (K : PySem.W.Frag) (mg : Str → Option Value) (base : Heap) (x : Str) (k : Nat) (ps : List Str) (sp : Sp) : Prop where
  ok : ∃ f fd, FnOk P w K mg base CX0 k f fd ps sp ∧ mg x = some (.ref f) ∧ PySem.W.keepIn K (.ref f) = true ∧ Binds K fd ps []
section
variable {X : Cx} {k : Nat} {ps : List Str} {sp : Sp} {x : Str} {p pos : Pos} {e : Expr} {es : List Expr} {t : TA}
theorem pe_cal (C : Cal X.prog X.w X.K X.mg X.base x k ps sp) (hr : Room k X.A) (hg : Gl X x) (ha : PA X (e :: es) t) (hdb : (x == ("__debug__" : Str)) = false := by decide)
    (he : starEach (e :: es) X.env = (false, eval e X.env) :: starEach es X.env := by rfl) (hpl : (backTo pos (starEach es X.env)).any (·.1) = false := by rfl) : PE X (.Call (.Name x p) (e :: es) [] pos) (tCall sp [] E0 t) := by
  obtain ⟨f, fd, F, hm, hk, hb⟩ := C.ok
  exact pe_call F hr hg hm hk hb .nil pass0 ha hdb he hpl
end
/-! ### readings, unfolded -/
section
variable {σ : L2.St} {H : Hp} {Q : VK} {QT : Bool → Hp → Prop} {QA : List V → Hp → Prop} {D : Ends} {i j : Nat} {v x y : V} {ta tb tc td : TE} {tA tB' : TT} {t u : TS} {tr : TA} {K : PySem.W.Frag}
theorem rd_var : tVar i σ H Q = ∃ v, σ[i]? = some (some v) ∧ Q v H := rfl
theorem rd_C : tC v σ H Q = Q v H := rfl
theorem rd_op {r : R2} : tOp r ta tb σ H Q = ta σ H fun x H1 => tb σ H1 fun y H2 => r x y H2 Q := rfl
theorem rd_un {r : V → Hp → VK → Prop} : tUn r ta σ H Q = ta σ H fun x H1 => r x H1 Q := rfl
theorem rd_I {C : Int → Int → Prop} {g : Int → Int → V} : rI C g x y H Q = ∃ i j, x = .int i ∧ y = .int j ∧ C i j ∧ Q (g i j) H := rfl
theorem rd_I0 {g : Int → Int → V} : rI0 g x y H Q = ∃ i j, x = .int i ∧ y = .int j ∧ Q (g i j) H := rfl
theorem rd_U {g : Int → V} : rU g x H Q = ∃ i, x = .int i ∧ Q (g i) H := rfl
theorem rd_Eq : rEq x y H Q = (scal x y = true ∧ Q (.bl (decide (x = y))) H) := rfl
theorem rd_Ne : rNe x y H Q = (scal x y = true ∧ Q (.bl (!decide (x = y))) H) := rfl
theorem rd_test : tTest ta σ H QT = ta σ H fun x H' => ∃ k, x = .bl k ∧ QT k H' := rfl
theorem rd_B : L2.tB ta σ H QT = ta σ H fun x H' => ∃ k, x = .bl k ∧ QT k H' := rfl
theorem rd_and {s t : TT} : tAnd s t σ H QT = s σ H fun c H1 => if c = true then t σ H1 QT else QT false H1 := rfl
theorem rd_or {s t : TT} : tOr s t σ H QT = s σ H fun c H1 => if c = true then QT true H1 else t σ H1 QT := rfl
theorem rd_not {s : TT} : tNot s σ H QT = s σ H fun c H1 => QT (!c) H1 := rfl
theorem rd_andV : tAndV ta tb σ H Q = ta σ H fun x H1 => ∃ c, x = .bl c ∧ if c = true then tb σ H1 Q else Q (.bl false) H1 := rfl
theorem rd_orV : tOrV ta tb σ H Q = ta σ H fun x H1 => ∃ c, x = .bl c ∧ if c = true then Q (.bl true) H1 else tb σ H1 Q := rfl
theorem rd_notV : tNotV ta σ H Q = ta σ H fun x H1 => ∃ c, x = .bl c ∧ Q (.bl (!c)) H1 := rfl
theorem rd_if {c : TT} : tIf c ta tb σ H Q = c σ H fun b H1 => if b = true then ta σ H1 Q else tb σ H1 Q := rfl
theorem rd_chain {r r' : R2} : tChain r r' ta tb tc σ H Q = ta σ H fun x H1 => tb σ H1 fun y H2 => r x y H2 fun z H3 => ∃ k, z = .bl k ∧ (if k = true then tc σ H3 fun w' H4 => r' y w' H4 Q else Q (.bl false) H3) := rfl
theorem rd_chain3 {r r' r'' : R2} : tChain3 r r' r'' ta tb tc td σ H Q = ta σ H fun x H1 => tb σ H1 fun y H2 => r x y H2 fun z H3 => ∃ k, z = .bl k ∧
  (if k = true then tc σ H3 fun y' H4 => r' y y' H4 fun z' H5 => ∃ k', z' = .bl k' ∧ (if k' = true then td σ H5 fun w' H6 => r'' y' w' H6 Q else Q (.bl false) H5) else Q (.bl false) H3) := rfl
theorem rd_next : tNext D σ H = D.nx σ H := rfl
theorem rd_seq : tSeq t u D σ H = t { D with nx := u D } σ H := rfl
theorem rd_drop : tDrop ta D σ H = ta σ H fun _ H1 => D.nx σ H1 := rfl
theorem rd_ret : tRet ta D σ H = ta σ H D.rt := rfl
theorem rd_retN : tRetN D σ H = D.rt .non H := rfl
theorem rd_break : tBreak D σ H = D.bk σ H := rfl
theorem rd_cont : tCont D σ H = D.ct σ H := rfl
theorem rd_ifS {c : TT} : tIfS c t u D σ H = c σ H fun b H1 => if b = true then t D σ H1 else u D σ H1 := rfl
theorem rd_asg {g : TG} : tAsg ta g D σ H = ta σ H fun x H1 => g x σ H1 D.nx := rfl
theorem rd_name {QS : L2.St → Hp → Prop} : gName i v σ H QS = QS (σ.set i (some v)) H := rfl
theorem rd_gsub {to ti : TE} {s : TSet} {QS : L2.St → Hp → Prop} : gSub to ti s v σ H QS = to σ H fun o H1 => ti σ H1 fun i H2 => s o i v H2 fun H3 => QS σ H3 := rfl
theorem rd_gtup {n : Nat} {g : TGs} {QS : L2.St → Hp → Prop} : gTup K n g v σ H QS = ∃ a xs, v = .ref a ∧ SqT K H a xs ∧ xs.length = n ∧ g xs σ H QS := rfl
theorem rd_gcons {g : TG} {gs : TGs} {vs : List V} {QS : L2.St → Hp → Prop} : gCons g gs vs σ H QS = ∃ v r, vs = v :: r ∧ g v σ H fun σ' H' => gs r σ' H' QS := rfl
theorem rd_gnil {vs : List V} {QS : L2.St → Hp → Prop} : gNil vs σ H QS = (vs = [] ∧ QS σ H) := rfl
theorem rd_par : tPar i j tr D σ H = tr σ H fun vs H1 => ∃ v w, vs = [v, w] ∧ D.nx ((σ.set i (some v)).set j (some w)) H1 := rfl
theorem rd_aug {te : TE} {ti : TIp} : tAug i te ti D σ H = ∃ x, σ[i]? = some (some x) ∧ te σ H fun y H1 => ti x y H1 fun z H2 => D.nx (σ.set i (some z)) H2 := rfl
theorem rd_ipI {f : Int → Int → Int} : ipI f x y H Q = ∃ i j, x = .int i ∧ y = .int j ∧ Q (.int (f i j)) H := rfl
theorem rd_nil : tNil σ H QA = QA [] H := rfl
theorem rd_cons : tCons ta tr σ H QA = ta σ H fun x H1 => tr σ H1 fun xs H2 => QA (x :: xs) H2 := rfl
theorem rd_tup : tTup tr σ H Q = tr σ H fun xs H1 => xs.length ≤ sizeLine ∧ ∀ p, H1 p = none → Q (.ref p) (upd H1 p (.tup xs)) := rfl
theorem rd_lst : tLst tr σ H Q = tr σ H fun xs H1 => xs.length ≤ sizeLine ∧ ∀ p, H1 p = none → Q (.ref p) (upd H1 p (.lst xs)) := rfl
theorem rd_CB {r : List V → Hp → VK → Prop} : tCB r tr σ H Q = tr σ H fun vs H1 => r vs H1 Q := rfl
theorem rd_call {sp : Sp} {dvs : List V} {E : XK} : tCall sp dvs E tr σ H Q = tr σ H fun vs H1 => sp (vs ++ dvs) H1 Q E := rfl
theorem rd_callS {sp : Sp} {E : L2.St → XK} : tCallS sp E tr σ H Q = tr σ H fun vs H1 => sp vs H1 Q (E σ) := rfl
theorem rd_ixL : rIxL K x y H Q = ∃ p xs i v, x = .ref p ∧ y = .int i ∧ SqL K H p xs ∧ atI xs i = some v ∧ Q v H := rfl
theorem rd_ixT : rIxT K x y H Q = ∃ p xs i v, x = .ref p ∧ y = .int i ∧ SqT K H p xs ∧ atI xs i = some v ∧ Q v H := rfl
theorem rd_isqrt {vs : List V} : rIsqrt vs H Q = ∃ a : Int, vs = [.int a] ∧ 0 ≤ a ∧ a < 2 ^ 13000 ∧ Q (.int ((Float64.isqrt a.toNat : Nat) : Int)) H := rfl
theorem rd_sum {vs : List V} : rSum K vs H Q = ∃ (a : Addr) (ns : List Int), vs = [V.ref a] ∧ SqL K H a (ns.map V.int) ∧ Q (.int ns.sum) H := rfl
end

/-! ### a def of the text: it stands, its name, its parameters -/
structure Dn (K : PySem.W.Frag) (mg : Str → Option Value) (x : Str) (st : Stmt) (ps : List Str) : Prop where
  ok : ∃ f fd, Fun K x x st f fd ∧ mg x = some (.ref f) ∧ Binds K fd ps []
section
variable {P : Program} {w : World} {K : PySem.W.Frag} {mg : Str → Option Value} {base : Heap}
theorem Dn.cal {x : Str} {st : Stmt} {N ps : List Str} {k : Nat} {sp : Sp} (D : Dn K mg x st ps) (S : FnScope N ps (defScope st)) (len : ∀ vs H Q E, sp vs H Q E → vs.length = ps.length)
    (hbody : ∀ (f : Addr) (cdv : Value) (A : Around) (outer : List Env) (s : Shared) (H : Hp) (vs : List V) (Q : VK) (E : XK), Room k (A.deeper (envOfC x (defScope st) s.heap.objs.size f cdv)) → sp vs H Q E →
      ∃ t, PSs (cxOf CX0 P w K mg base N x (defScope st) f cdv A outer s H E).nox (defBody st) t ∧ t { nx := fun _ H' => Q .non H', rt := Q } (start N vs) H) : Cal P w K mg base x (k + 1) ps sp := by
  obtain ⟨f, fd, F, hm, hb⟩ := D.ok
  exact ⟨f, fd, F.ok S len fun cdv A outer s H vs Q E hr h => hbody f cdv A outer s H vs Q E hr h, hm, F.kp, hb⟩
end
/-- a weaker wish -/
theorem same_upd {H : Hp} {p : Addr} {o : HO} (h : H p = none) : Same H (upd H p o) := fun b x e => by
  rw [upd_ne (ne_of_none e h)]
  exact e
theorem ex_int {p : Int → Prop} {i : Int} : (∃ j, V.int i = V.int j ∧ p j) = p i := by simp
theorem ex_bl {p : Bool → Prop} {i : Bool} : (∃ j, V.bl i = V.bl j ∧ p j) = p i := by simp
theorem ex_ref {p : Addr → Prop} {i : Addr} : (∃ j, V.ref i = V.ref j ∧ p j) = p i := by simp
theorem ex_str {p : Str → Prop} {i : Str} : (∃ j, V.str i = V.str j ∧ p j) = p i := by simp
theorem ex_some {p : V → Prop} {x : V} : (∃ v, some (some x) = some (some v) ∧ p v) = p x := by simp
theorem ex_2i {p : Int → Int → Prop} {i j : Int} : (∃ a b, V.int i = V.int a ∧ V.int j = V.int b ∧ p a b) = p i j := by simp
theorem ex_l1 {p : Int → Prop} {i : Int} : (∃ j, [V.int i] = [V.int j] ∧ p j) = p i := by simp
theorem ex_l2 {p : Int → Int → Prop} {i j : Int} : (∃ a b, [V.int i, V.int j] = [V.int a, V.int b] ∧ p a b) = p i j := propext ⟨fun ⟨_, _, e, h⟩ => by cases e; exact h, fun h => ⟨_, _, rfl, h⟩⟩
theorem ex_v2 {p : V → V → Prop} {i j : V} : (∃ a b, [i, j] = [a, b] ∧ p a b) = p i j := propext ⟨fun ⟨_, _, e, h⟩ => by cases e; exact h, fun h => ⟨_, _, rfl, h⟩⟩
theorem int1_eq {p : Int → Prop} {q : Bool → Prop} {i : Int} : ((∃ j, [V.int i] = [V.int j] ∧ p j) ∨ ∃ k, [V.int i] = [V.bl k] ∧ q k) = p i := by simp
theorem scal_int {i j : Int} : (scal (V.int i) (V.int j) = true) = True := by simp [scal]
theorem scal_str {i j : Str} : (scal (V.str i) (V.str j) = true) = True := by simp [scal]
theorem dec_ii {i j : Int} : decide (V.int i = V.int j) = decide (i = j) := by simp
theorem ite_dec {p : Prop} [Decidable p] {A B : Prop} : (if decide p = true then A else B) = (if p then A else B) := by simp
theorem ite_ndec {p : Prop} [Decidable p] {A B : Prop} : (if (!decide p) = true then A else B) = (if p then B else A) := by
  by_cases h : p <;> simp [h]
section
variable {H : Hp} {Q : VK} {x y v : V}
theorem rd_setL {R : Hp → Prop} : rSetL x y v H R = ∃ p xs k j, x = .ref p ∧ y = .int k ∧ H p = some (.lst xs) ∧ ixN xs.length k = some j ∧ R (upd H p (.lst (xs.set j v))) := rfl
theorem rd_append {K : PySem.W.Frag} {to : TE} {t : TA} {σ : L2.St} : tBM K "list" rAppend to t σ H Q = to σ H fun x H1 => tyV K "list" x H1 ∧ t σ H1 fun xs H2 => ∃ l ys y, x = .ref l ∧ xs = [y] ∧ H2 l = some (.lst ys) ∧ ys.length < sizeLine ∧ Q .non (upd H2 l (.lst (ys ++ [y]))) := rfl
theorem K_nox {X : Cx} : X.nox.K = X.K := rfl
theorem K_cxOf {CX : CXT} {P : Program} {w : World} {K : PySem.W.Frag} {mg : Str → Option Value} {base : Heap} {N : List Str} {qual : Str} {scope : Scope} {f : Addr} {cd : Value} {A : Around} {outer : List Env} {s : Shared} {H : Hp} {E : XK} :
  (cxOf CX P w K mg base N qual scope f cd A outer s H E).K = K := rfl
end
/-- int * int with a small side -/
theorem mulL {i j : Int} (h : -(2 ^ 64) < i ∧ i < 2 ^ 64) : IntMulOk i j := CMul.ok (.inl h)
theorem mulR {i j : Int} (h : -(2 ^ 64) < j ∧ j < 2 ^ 64) : IntMulOk i j := CMul.ok (.inr h)
theorem tyL {K : PySem.W.Frag} {l : Addr} {xs : List V} {H : Hp} (h : H l = some (.lst xs)) : tyV K "list" (.ref l) H := .inl ⟨rfl, _, SqL.of h⟩
/-! ### loops, by a word: the reading stops at ForL .. -/
def ForJ (J : It) (g : TG) (tb : TS) (D : Ends) (σ : L2.St) (H1 : Hp) : Prop := ∃ W : Nat → Nat → L2.St → Hp → Prop, (∃ m, W 0 m σ H1) ∧ ∀ i m σ H, W i m σ H →
  (J.stop i H ∧ D.nx σ H) ∨ (J.go i H ∧ ∃ N : L2.St → Hp → Prop, (∀ σ' H', N σ' H' → ∃ m', m' < m ∧ W (i + 1) m' σ' H') ∧ ∀ x H', J.yld i H x H' → g x σ H' fun σ2 H2 => tb { D with nx := N, ct := N, bk := D.nx } σ2 H2)
def ForL (K : PySem.W.Frag) (a : Addr) := ForJ (Itl K a)
def ForT (K : PySem.W.Frag) (a : Addr) := ForJ (Itt K a)
def ForR (lo : Int) (n : Nat) := ForJ (Itr lo n)
def ForC (lo c : Int) (n : Nat) := ForJ (Itc lo c n)
section
variable {K : PySem.W.Frag} {a : Addr} {xs : List V} {g : TG} {tb : TS} {D : Ends} {σ : L2.St} {H : Hp} {te : TE} {ta : TA}
theorem rd_forL : tFor (iList K te) g tb D σ H = te σ H fun x H1 => ∃ a, x = .ref a ∧ (∃ xs, SqL K H1 a xs) ∧ ForL K a g tb D σ H1 := rfl
theorem rd_forT : tFor (iTup K te) g tb D σ H = te σ H fun x H1 => ∃ a, x = .ref a ∧ (∃ xs, SqT K H1 a xs) ∧ ForT K a g tb D σ H1 := rfl
theorem rd_forR1 : tFor (iRng1 ta) g tb D σ H = ta σ H fun vs H1 => ∃ j : Int, vs = [.int j] ∧ -(2 ^ 62) ≤ j ∧ j < 2 ^ 62 ∧ ForR 0 j.toNat g tb D σ H1 := rfl
theorem rd_forR2 : tFor (iRng2 ta) g tb D σ H = ta σ H fun vs H1 => ∃ i j : Int, vs = [.int i, .int j] ∧ (-(2 ^ 62) ≤ i ∧ i < 2 ^ 62 ∧ -(2 ^ 62) ≤ j ∧ j < 2 ^ 62) ∧ ForR i (j - i).toNat g tb D σ H1 := rfl
theorem rd_forR3 : tFor (iRng3 ta) g tb D σ H = ta σ H fun vs H1 => ∃ (i j c : Int) (n : Nat), vs = [.int i, .int j, .int c] ∧ RgC i j c n ∧ ForC i c n g tb D σ H1 := rfl
theorem ForL.mk (Pv : Nat → L2.St → Hp → Prop) (h0 : Pv 0 σ H) (hl : ∀ i σ H, i ≤ xs.length → Pv i σ H → SqL K H a xs)
    (hs : ∀ i x σ H, xs[i]? = some x → Pv i σ H → g x σ H fun σ2 H2 => tb { D with nx := Pv (i + 1), ct := Pv (i + 1), bk := D.nx } σ2 H2) (hd : ∀ σ H, Pv xs.length σ H → D.nx σ H) : ForL K a g tb D σ H := for_list Pv h0 hl hs hd
theorem ForT.mk (Pv : Nat → L2.St → Hp → Prop) (h0 : Pv 0 σ H) (hl : ∀ i σ H, i ≤ xs.length → Pv i σ H → SqT K H a xs)
    (hs : ∀ i x σ H, xs[i]? = some x → Pv i σ H → g x σ H fun σ2 H2 => tb { D with nx := Pv (i + 1), ct := Pv (i + 1), bk := D.nx } σ2 H2) (hd : ∀ σ H, Pv xs.length σ H → D.nx σ H) : ForT K a g tb D σ H := for_tup Pv h0 hl hs hd
theorem ForR.mk {lo : Int} {n : Nat} (Pv : Nat → L2.St → Hp → Prop) (h0 : Pv 0 σ H)
    (hs : ∀ i σ H, i < n → Pv i σ H → g (.int (lo + i)) σ H fun σ2 H2 => tb { D with nx := Pv (i + 1), ct := Pv (i + 1), bk := D.nx } σ2 H2) (hd : ∀ σ H, Pv n σ H → D.nx σ H) : ForR lo n g tb D σ H := for_range Pv h0 hs hd
theorem ForC.mk {lo c : Int} {n : Nat} (Pv : Nat → L2.St → Hp → Prop) (h0 : Pv 0 σ H)
    (hs : ∀ i σ H, i < n → Pv i σ H → g (.int (lo + (i : Nat) * c)) σ H fun σ2 H2 => tb { D with nx := Pv (i + 1), ct := Pv (i + 1), bk := D.nx } σ2 H2) (hd : ∀ σ H, Pv n σ H → D.nx σ H) : ForC lo c n g tb D σ H := for_rangeC Pv h0 hs hd
/-- while, the test's answer told (it lays nothing) -/
theorem while_mk {c : TT} (Pv : L2.St → Hp → Prop) (μ : L2.St → Hp → Nat) (h0 : Pv σ H)
    (hs : ∀ σ H, Pv σ H → ∃ b : Bool, (∀ Q : Bool → Hp → Prop, Q b H → c σ H Q) ∧ (b = true → tb { D with nx := fun σ' H' => Pv σ' H' ∧ μ σ' H' < μ σ H, ct := fun σ' H' => Pv σ' H' ∧ μ σ' H' < μ σ H, bk := D.nx } σ H) ∧ (b = false → D.nx σ H)) : tWhile c tb D σ H := by
  refine ⟨fun m σ H => m = μ σ H ∧ Pv σ H, ⟨_, rfl, h0⟩, ?_⟩
  rintro m σ H ⟨rfl, p⟩
  obtain ⟨b, hc, h1, h2⟩ := hs σ H p
  refine hc _ ?_
  cases b with
  | true => rw [if_pos rfl]; exact ⟨_, fun σ' H' ⟨p', l⟩ => ⟨_, l, rfl, p'⟩, h1 rfl⟩
  | false => rw [if_neg Bool.false_ne_true]; exact h2 rfl
end
/-! ### comprehensions -/
def LcJ (J : It) (g : TG) (tt : TT) (te : TE) (vs : List Nat) (σ : L2.St) (H1 : Hp) (Q : VK) : Prop := ∀ D, H1 D = none → ∃ W : Nat → Nat → Hp → Prop, (∃ m, W 0 m (upd H1 D (.lst []))) ∧ ∀ i m H, W i m H →
  (J.stop i H ∧ Q (.ref D) H) ∨ (J.go i H ∧ ∃ Nx : Hp → Prop, (∀ H', Nx H' → ∃ m', m' < m ∧ W (i + 1) m' H') ∧ ∀ x H', J.yld i H x H' → g x (wipe σ vs) H' fun σ2 H2 => wipe σ2 vs = wipe σ vs ∧ tt σ2 H2 fun b H3 =>
    if b = true then te σ2 H3 fun y H4 => ∃ acc, H4 D = some (.lst acc) ∧ acc.length < sizeLine ∧ Nx (upd H4 D (.lst (acc ++ [y]))) else Nx H3)
def LcL (K : PySem.W.Frag) (a : Addr) := LcJ (Itl K a)
def LcT (K : PySem.W.Frag) (a : Addr) := LcJ (Itt K a)
def LcR (lo : Int) (n : Nat) := LcJ (Itr lo n)
section
variable {K : PySem.W.Frag} {a : Addr} {xs : List V} {g : TG} {tt : TT} {te tl : TE} {ta : TA} {vs : List Nat} {σ : L2.St} {H : Hp} {Q : VK}
theorem rd_lcL : tLc (iList K tl) g tt te vs σ H Q = tl σ H fun x H1 => ∃ a, x = .ref a ∧ (∃ xs, SqL K H1 a xs) ∧ LcL K a g tt te vs σ H1 Q := rfl
theorem rd_lcT : tLc (iTup K tl) g tt te vs σ H Q = tl σ H fun x H1 => ∃ a, x = .ref a ∧ (∃ xs, SqT K H1 a xs) ∧ LcT K a g tt te vs σ H1 Q := rfl
theorem rd_lcR1 : tLc (iRng1 ta) g tt te vs σ H Q = ta σ H fun us H1 => ∃ j : Int, us = [.int j] ∧ -(2 ^ 62) ≤ j ∧ j < 2 ^ 62 ∧ LcR 0 j.toNat g tt te vs σ H1 Q := rfl
theorem rd_lcR2 : tLc (iRng2 ta) g tt te vs σ H Q = ta σ H fun us H1 => ∃ i j : Int, us = [.int i, .int j] ∧ (-(2 ^ 62) ≤ i ∧ i < 2 ^ 62 ∧ -(2 ^ 62) ≤ j ∧ j < 2 ^ 62) ∧ LcR i (j - i).toNat g tt te vs σ H1 Q := rfl
/-- the word of a comprehension at D: what is made so far, the heap -/
theorem LcL.mk (Pv : Nat → Addr → Hp → Prop) (h0 : ∀ D, H D = none → Pv 0 D (upd H D (.lst []))) (hl : ∀ D i H, i ≤ xs.length → Pv i D H → SqL K H a xs)
    (hs : ∀ D i x H, xs[i]? = some x → Pv i D H → g x (wipe σ vs) H fun σ2 H2 => wipe σ2 vs = wipe σ vs ∧ tt σ2 H2 fun b H3 =>
      if b = true then te σ2 H3 fun y H4 => ∃ acc, H4 D = some (.lst acc) ∧ acc.length < sizeLine ∧ Pv (i + 1) D (upd H4 D (.lst (acc ++ [y]))) else Pv (i + 1) D H3) (hd : ∀ D H', H D = none → Pv xs.length D H' → Q (.ref D) H') : LcL K a g tt te vs σ H Q :=
  fun D hD => lc_list (Qd := fun H' => Q (.ref D) H') (fun i H => Pv i D H) (h0 D hD) (hl D) (hs D) (fun H' p => hd D H' hD p)
theorem LcT.mk (Pv : Nat → Addr → Hp → Prop) (h0 : ∀ D, H D = none → Pv 0 D (upd H D (.lst []))) (hl : ∀ D i H, i ≤ xs.length → Pv i D H → SqT K H a xs)
    (hs : ∀ D i x H, xs[i]? = some x → Pv i D H → g x (wipe σ vs) H fun σ2 H2 => wipe σ2 vs = wipe σ vs ∧ tt σ2 H2 fun b H3 =>
      if b = true then te σ2 H3 fun y H4 => ∃ acc, H4 D = some (.lst acc) ∧ acc.length < sizeLine ∧ Pv (i + 1) D (upd H4 D (.lst (acc ++ [y]))) else Pv (i + 1) D H3) (hd : ∀ D H', H D = none → Pv xs.length D H' → Q (.ref D) H') : LcT K a g tt te vs σ H Q :=
  fun D hD => lc_tup (Qd := fun H' => Q (.ref D) H') (fun i H => Pv i D H) (h0 D hD) (hl D) (hs D) (fun H' p => hd D H' hD p)
theorem LcR.mk {lo : Int} {n : Nat} (Pv : Nat → Addr → Hp → Prop) (h0 : ∀ D, H D = none → Pv 0 D (upd H D (.lst [])))
    (hs : ∀ D i H, i < n → Pv i D H → g (.int (lo + i)) (wipe σ vs) H fun σ2 H2 => wipe σ2 vs = wipe σ vs ∧ tt σ2 H2 fun b H3 =>
      if b = true then te σ2 H3 fun y H4 => ∃ acc, H4 D = some (.lst acc) ∧ acc.length < sizeLine ∧ Pv (i + 1) D (upd H4 D (.lst (acc ++ [y]))) else Pv (i + 1) D H3) (hd : ∀ D H', H D = none → Pv n D H' → Q (.ref D) H') : LcR lo n g tt te vs σ H Q :=
  fun D hD => lc_range (Qd := fun H' => Q (.ref D) H') (fun i H => Pv i D H) (h0 D hD) (hs D) (fun H' p => hd D H' hD p)
theorem rd_yes {QT : Bool → Hp → Prop} : tYes σ H QT = QT true H := rfl
theorem rd_sl {r : V → Option Int → Option Int → Hp → VK → Prop} {tlo thi : L2.St → Hp → (Option Int → Hp → Prop) → Prop} : tSl r te tlo thi σ H Q = te σ H fun x H1 => tlo σ H1 fun l H2 => thi σ H2 fun u H3 => r x l u H3 Q := rfl
theorem rd_noPart {QO : Option Int → Hp → Prop} : tNoPart σ H QO = QO none H := rfl
theorem rd_part {QO : Option Int → Hp → Prop} : tPart te σ H QO = te σ H fun x H1 => ∃ i, x = .int i ∧ QO (some i) H1 := rfl
theorem rd_slL {x : V} {lo hi : Option Int} : rSlL K x lo hi H Q = ∃ a xs, x = .ref a ∧ SqL K H a xs ∧ ∀ p, H p = none → Q (.ref p) (upd H p (.lst (cutV xs lo hi))) := rfl
end
/-! ### isinstance of a built-in class -/
theorem isi_mk {K : PySem.W.Frag} {x : V} {T t : String} {b : Bool} {H : Hp} {Q : VK} (ty : TyX K H x (.type t)) (e : kitB t T = some b) (q : Q (.bl b) H) : rIsi K [x, .ty T] H Q := ⟨x, .ty T, _, _, b, rfl, .ty T, ty, kit_ty e, q⟩
/-! ### the same with the next turn's word a letter (simp doesn't read it) -/
section
variable {K : PySem.W.Frag} {a : Addr} {xs : List V} {g : TG} {tb : TS} {D : Ends} {σ : L2.St} {H : Hp} {te : TE} {ta : TA} {tt : TT} {vs : List Nat} {Q : VK}
theorem while_w {c : TT} (Pw : L2.St → Hp → Prop) (μ : L2.St → Hp → Nat) (h0 : Pw σ H)
    (hs : ∀ σ H, Pw σ H → ∀ N : L2.St → Hp → Prop, (∀ σ' H', Pw σ' H' → μ σ' H' < μ σ H → N σ' H') →
      ∃ b : Bool, (∀ Q : Bool → Hp → Prop, Q b H → c σ H Q) ∧ (b = true → tb { D with nx := N, ct := N, bk := D.nx } σ H) ∧ (b = false → D.nx σ H)) : tWhile c tb D σ H :=
  while_mk Pw μ h0 fun σ H p => hs σ H p _ fun _ _ h1 h2 => ⟨h1, h2⟩
theorem ForL.w (Pw : Nat → L2.St → Hp → Prop) (h0 : Pw 0 σ H) (hl : ∀ i σ H, i ≤ xs.length → Pw i σ H → SqL K H a xs)
    (hs : ∀ i x σ H, xs[i]? = some x → Pw i σ H → ∀ N : L2.St → Hp → Prop, (∀ σ' H', Pw (i + 1) σ' H' → N σ' H') → g x σ H fun σ2 H2 => tb { D with nx := N, ct := N, bk := D.nx } σ2 H2) (hd : ∀ σ H, Pw xs.length σ H → D.nx σ H) : ForL K a g tb D σ H :=
  ForL.mk Pw h0 hl (fun i x σ H e p => hs i x σ H e p _ fun _ _ h => h) hd
theorem ForT.w (Pw : Nat → L2.St → Hp → Prop) (h0 : Pw 0 σ H) (hl : ∀ i σ H, i ≤ xs.length → Pw i σ H → SqT K H a xs)
    (hs : ∀ i x σ H, xs[i]? = some x → Pw i σ H → ∀ N : L2.St → Hp → Prop, (∀ σ' H', Pw (i + 1) σ' H' → N σ' H') → g x σ H fun σ2 H2 => tb { D with nx := N, ct := N, bk := D.nx } σ2 H2) (hd : ∀ σ H, Pw xs.length σ H → D.nx σ H) : ForT K a g tb D σ H :=
  ForT.mk Pw h0 hl (fun i x σ H e p => hs i x σ H e p _ fun _ _ h => h) hd
theorem ForR.w {lo : Int} {n : Nat} (Pw : Nat → L2.St → Hp → Prop) (h0 : Pw 0 σ H)
    (hs : ∀ i σ H, i < n → Pw i σ H → ∀ N : L2.St → Hp → Prop, (∀ σ' H', Pw (i + 1) σ' H' → N σ' H') → g (.int (lo + i)) σ H fun σ2 H2 => tb { D with nx := N, ct := N, bk := D.nx } σ2 H2) (hd : ∀ σ H, Pw n σ H → D.nx σ H) : ForR lo n g tb D σ H :=
  ForR.mk Pw h0 (fun i σ H e p => hs i σ H e p _ fun _ _ h => h) hd
theorem ForC.w {lo c : Int} {n : Nat} (Pw : Nat → L2.St → Hp → Prop) (h0 : Pw 0 σ H)
    (hs : ∀ i σ H, i < n → Pw i σ H → ∀ N : L2.St → Hp → Prop, (∀ σ' H', Pw (i + 1) σ' H' → N σ' H') → g (.int (lo + (i : Nat) * c)) σ H fun σ2 H2 => tb { D with nx := N, ct := N, bk := D.nx } σ2 H2) (hd : ∀ σ H, Pw n σ H → D.nx σ H) : ForC lo c n g tb D σ H :=
  ForC.mk Pw h0 (fun i σ H e p => hs i σ H e p _ fun _ _ h => h) hd
/-- a comprehension: Pw turn D made heap: the list at D holds made -/
theorem LcL.w (Pw : Nat → Addr → List V → Hp → Prop) (h0 : ∀ D, H D = none → Pw 0 D [] (upd H D (.lst []))) (hl : ∀ D i ys H, i ≤ xs.length → Pw i D ys H → SqL K H a xs)
    (hs : ∀ D i x ys H, xs[i]? = some x → Pw i D ys H → ∀ N : Hp → Prop, (∀ ys' H', Pw (i + 1) D ys' H' → N H') → g x (wipe σ vs) H fun σ2 H2 => wipe σ2 vs = wipe σ vs ∧ tt σ2 H2 fun b H3 =>
      if b = true then te σ2 H3 fun y H4 => ∃ acc, H4 D = some (.lst acc) ∧ acc.length < sizeLine ∧ N (upd H4 D (.lst (acc ++ [y]))) else N H3) (hd : ∀ D ys H', H D = none → Pw xs.length D ys H' → Q (.ref D) H') : LcL K a g tt te vs σ H Q :=
  LcL.mk (xs := xs) (fun i D H => ∃ ys, Pw i D ys H) (fun D n => ⟨[], h0 D n⟩) (fun D i H hi ⟨ys, p⟩ => hl D i ys H hi p) (fun D i x H e ⟨ys, p⟩ => hs D i x ys H e p _ fun ys' H' h => ⟨ys', h⟩) (fun D H' n ⟨ys, p⟩ => hd D ys H' n p)
theorem LcT.w (Pw : Nat → Addr → List V → Hp → Prop) (h0 : ∀ D, H D = none → Pw 0 D [] (upd H D (.lst []))) (hl : ∀ D i ys H, i ≤ xs.length → Pw i D ys H → SqT K H a xs)
    (hs : ∀ D i x ys H, xs[i]? = some x → Pw i D ys H → ∀ N : Hp → Prop, (∀ ys' H', Pw (i + 1) D ys' H' → N H') → g x (wipe σ vs) H fun σ2 H2 => wipe σ2 vs = wipe σ vs ∧ tt σ2 H2 fun b H3 =>
      if b = true then te σ2 H3 fun y H4 => ∃ acc, H4 D = some (.lst acc) ∧ acc.length < sizeLine ∧ N (upd H4 D (.lst (acc ++ [y]))) else N H3) (hd : ∀ D ys H', H D = none → Pw xs.length D ys H' → Q (.ref D) H') : LcT K a g tt te vs σ H Q :=
  LcT.mk (xs := xs) (fun i D H => ∃ ys, Pw i D ys H) (fun D n => ⟨[], h0 D n⟩) (fun D i H hi ⟨ys, p⟩ => hl D i ys H hi p) (fun D i x H e ⟨ys, p⟩ => hs D i x ys H e p _ fun ys' H' h => ⟨ys', h⟩) (fun D H' n ⟨ys, p⟩ => hd D ys H' n p)
theorem LcR.w {lo : Int} {n : Nat} (Pw : Nat → Addr → List V → Hp → Prop) (h0 : ∀ D, H D = none → Pw 0 D [] (upd H D (.lst [])))
    (hs : ∀ D i ys H, i < n → Pw i D ys H → ∀ N : Hp → Prop, (∀ ys' H', Pw (i + 1) D ys' H' → N H') → g (.int (lo + i)) (wipe σ vs) H fun σ2 H2 => wipe σ2 vs = wipe σ vs ∧ tt σ2 H2 fun b H3 =>
      if b = true then te σ2 H3 fun y H4 => ∃ acc, H4 D = some (.lst acc) ∧ acc.length < sizeLine ∧ N (upd H4 D (.lst (acc ++ [y]))) else N H3) (hd : ∀ D ys H', H D = none → Pw n D ys H' → Q (.ref D) H') : LcR lo n g tt te vs σ H Q :=
  LcR.mk (fun i D H => ∃ ys, Pw i D ys H) (fun D n => ⟨[], h0 D n⟩) (fun D i H e ⟨ys, p⟩ => hs D i ys H e p _ fun ys' H' h => ⟨ys', h⟩) (fun D H' n ⟨ys, p⟩ => hd D ys H' n p)
end
theorem rd_max2 {xs : List V} {H : Hp} {Q : VK} : (fun (xs : List V) (H : Hp) (Q : VK) => ∃ i j : Int, xs = [.int i, .int j] ∧ Q (.int (if j > i then j else i)) H) xs H Q = ∃ i j : Int, xs = [.int i, .int j] ∧ Q (.int (if j > i then j else i)) H := rfl
theorem rd_wipe0 {σ : L2.St} : wipe σ [] = σ := rfl
theorem rd_wipe1 {σ : L2.St} {v : Nat} {vs : List Nat} : wipe σ (v :: vs) = (wipe σ vs).set v none := rfl
theorem rd_eqD {K : PySem.W.Frag} {x y : V} {H : Hp} {Q : VK} : rEqD K x y H Q = ∃ d e, Dp K H x d ∧ Dp K H y e ∧ SeqAt.shaped d = true ∧ SeqAt.shaped e = true ∧ Q (.bl (PyData.eqv d e)) H := rfl
theorem rd_neD {K : PySem.W.Frag} {x y : V} {H : Hp} {Q : VK} : rNeD K x y H Q = ∃ d e, Dp K H x d ∧ Dp K H y e ∧ SeqAt.shaped d = true ∧ SeqAt.shaped e = true ∧ Q (.bl (!PyData.eqv d e)) H := rfl
theorem rd_rep {x y : V} {H : Hp} {Q : VK} : rRep x y H Q = ∃ l k xs, x = .ref l ∧ y = .int k ∧ H l = some (.lst xs) ∧ -(2 ^ 63) ≤ k ∧ k < 2 ^ 63 ∧ xs.length * k.toNat ≤ sizeLine ∧ ∀ p, H p = none → Q (.ref p) (upd H p (.lst (List.replicate k.toNat xs).flatten)) := rfl
theorem dp_ints {K : PySem.W.Frag} {H : Hp} : ∀ l : List Int, DpAll K H (l.map V.int) (l.map PyData.int)
  | [] => .nil
  | i :: l => .cons (.int i) (dp_ints l)
theorem dp_strs {K : PySem.W.Frag} {H : Hp} : ∀ l : List Str, DpAll K H (l.map V.str) (l.map PyData.str)
  | [] => .nil
  | i :: l => .cons (.str i) (dp_strs l)
/-! ### powers of any size; tuples made of lists; data -/
def CPowI (i j : Int) : Prop := 0 ≤ j ∧ (Builtin.Int.intBits i : Int) * j ≤ 2 ^ 27
theorem op_powI {X : Cx} : OpR X (binaryOp .Pow) (rI CPowI fun i j => .int (i ^ j.toNat)) := opI fun _ _ _ _ _ _ _ hc q => pow_int hc.1 hc.2 q
theorem bits_le {i : Int} {n : Nat} (h : i.natAbs < 2 ^ n) (h0 : 0 < n) : Builtin.Int.intBits i ≤ n := by
  have a := PySem.Flt.log2_lt_of h0 h
  unfold Builtin.Int.intBits
  split <;> omega
theorem powI {i j : Int} {n : Nat} (h : i.natAbs < 2 ^ n) (h0 : 0 < n) (hj : 0 ≤ j) (hz : (n : Int) * j ≤ 2 ^ 27) : CPowI i j := by
  refine ⟨hj, Int.le_trans (Int.mul_le_mul_of_nonneg_right ?_ hj) hz⟩
  exact Int.ofNat_le.mpr (bits_le h h0)
def rTupOf (K : PySem.W.Frag) : List V → Hp → VK → Prop := fun xs H Q => ∃ p ys, xs = [.ref p] ∧ ((SqL K H p ys ∧ ∀ l, H l = none → Q (.ref l) (upd H l (.tup ys))) ∨ (SqT K H p ys ∧ Q (.ref p) H))
theorem cr_tupOf {X : Cx} : CallR X (.type "tuple") (rTupOf X.K) := call_tuple_of
theorem rd_tupOf {K : PySem.W.Frag} {xs : List V} {H : Hp} {Q : VK} : rTupOf K xs H Q = ∃ p ys, xs = [.ref p] ∧ ((SqL K H p ys ∧ ∀ l, H l = none → Q (.ref l) (upd H l (.tup ys))) ∨ (SqT K H p ys ∧ Q (.ref p) H)) := rfl
def rLenS (K : PySem.W.Frag) : List V → Hp → VK → Prop := fun xs H Q => ∃ x n, xs = [x] ∧ LenV K x H n ∧ Q (.int n) H
theorem cr_lenS {X : Cx} : CallR X (.builtin "len") (rLenS X.K) := call_len
theorem rd_lenS {K : PySem.W.Frag} {xs : List V} {H : Hp} {Q : VK} : rLenS K xs H Q = ∃ x n, xs = [x] ∧ LenV K x H n ∧ Q (.int n) H := rfl
theorem rd_gcd {vs : List V} {H : Hp} {Q : VK} : rGcd vs H Q = ∃ a b : Int, vs = [.int a, .int b] ∧ Q (.int ((Nat.gcd a.natAbs b.natAbs : Nat) : Int)) H := rfl
/-- what holds between two statements -/
theorem seq_cut {t u : TS} {D : Ends} {σ : L2.St} {H : Hp} (Pw : L2.St → Hp → Prop) (h1 : ∀ R : L2.St → Hp → Prop, (∀ σ H, Pw σ H → R σ H) → t { D with nx := R } σ H) (h2 : ∀ σ H, Pw σ H → u D σ H) : tSeq t u D σ H := h1 (u D) h2
theorem rd_any {K : PySem.W.Frag} {vs : List V} {H : Hp} {Q : VK} : rAny K vs H Q = ∃ (a : Addr) (bs : List Bool), vs = [V.ref a] ∧ SqL K H a (bs.map V.bl) ∧ Q (.bl (bs.any id)) H := rfl
theorem rd_all {K : PySem.W.Frag} {vs : List V} {H : Hp} {Q : VK} : rAll K vs H Q = ∃ (a : Addr) (bs : List Bool), vs = [V.ref a] ∧ SqL K H a (bs.map V.bl) ∧ Q (.bl (bs.all id)) H := rfl
theorem rd_ext {K : PySem.W.Frag} {to : TE} {t : TA} {σ : L2.St} {H : Hp} {Q : VK} : tBM K "list" rExtend to t σ H Q = to σ H fun x H1 => tyV K "list" x H1 ∧ t σ H1 fun xs H2 => ∃ l b ys zs, x = .ref l ∧ xs = [.ref b] ∧ H2 l = some (.lst ys) ∧ H2 b = some (.lst zs) ∧ ys.length + zs.length ≤ sizeLine ∧ Q .non (upd H2 l (.lst (ys ++ zs))) := rfl
theorem rd_glst {K : PySem.W.Frag} {n : Nat} {g : TGs} {v : V} {σ : L2.St} {H : Hp} {QS : L2.St → Hp → Prop} : gLst K n g v σ H QS = ∃ a xs, v = .ref a ∧ SqL K H a xs ∧ xs.length = n ∧ g xs σ H QS := rfl
theorem ix_listK {X : Cx} {K : PySem.W.Frag} (h : X.K = K) : IxR X (rIxL K) := by
  subst h
  exact ix_list
theorem ix_tupK {X : Cx} {K : PySem.W.Frag} (h : X.K = K) : IxR X (rIxT K) := by
  subst h
  exact ix_tup
end CB/-! sorted of a list of triples of ints, any number of them -/
namespace CB
open PySem PyProof.Rows Srt SrtO L2
abbrev T3 := Int × Int × Int
def lexT (p q : T3) : Bool := if p.1 = q.1 then lexB p.2 q.2 else decide (p.1 < q.1)
theorem lexT_iff {p q : T3} : lexT p q = true ↔ p.1 < q.1 ∨ (p.1 = q.1 ∧ (p.2.1 < q.2.1 ∨ (p.2.1 = q.2.1 ∧ p.2.2 < q.2.2))) := by
  unfold lexT
  by_cases e : p.1 = q.1
  · rw [if_pos e, lexB_iff]
    omega
  · rw [if_neg e, decide_eq_true_eq]
    omega
theorem lexT_no {p q : T3} : lexT p q = false ↔ ¬ (p.1 < q.1 ∨ (p.1 = q.1 ∧ (p.2.1 < q.2.1 ∨ (p.2.1 = q.2.1 ∧ p.2.2 < q.2.2)))) := by
  rw [← lexT_iff]
  cases lexT p q <;> simp
theorem swo_T {α : Type} (k : α → T3) : Swo fun v u => lexT (k v) (k u) := by
  refine ⟨fun x y h => ?_, fun x y z h1 h2 => ?_⟩
  · have a := lexT_iff.mp h
    refine lexT_no.mpr ?_
    omega
  · have a := lexT_no.mp h1
    have b := lexT_no.mp h2
    refine lexT_no.mpr ?_
    omega
theorem lexT_eq {p q : T3} (h1 : lexT p q = false) (h2 : lexT q p = false) : p = q := by
  have a := lexT_no.mp h1
  have b := lexT_no.mp h2
  obtain ⟨p1, p2, p3⟩ := p
  obtain ⟨q1, q2, q3⟩ := q
  simp only at a b
  have e1 : p1 = q1 := by omega
  have e2 : p2 = q2 := by omega
  have e3 : p3 = q3 := by omega
  rw [e1, e2, e3]
/-- two sorted rearrangements of triples are one -/
theorem srtT_uniq : ∀ {l m : List T3}, l.Pairwise (fun p q => lexT q p = false) → m.Pairwise (fun p q => lexT q p = false) → l.Perm m → l = m := fun {l m} h1 h2 h => by
  refine List.Perm.eq_of_pairwise (le := fun p q => lexT q p = false) (fun a b _ _ x y => lexT_eq y x) h1 h2 h
section
variable {prog : Program} {w : World} {A : Around} {E : Value → Shared → Prop} {s : Shared}
def IsTrip (h : Heap) (v : Value) (k : T3) : Prop := ∃ a o t u r n, v = .ref a ∧ h.get? a = some o ∧ o.cls = .type "tuple" ∧ o.data = .seq #[.int k.1 t, .int k.2.1 u, .int k.2.2 r] n
theorem IsTrip.keeps {h h' : Heap} {v : Value} {k : T3} (p : IsTrip h v k) (kk : ∀ b o, h.get? b = some o → o.cls = .type "tuple" → h'.get? b = some o) : IsTrip h' v k := by
  obtain ⟨a, o, t, u, r, n, e, ho, hc, hd⟩ := p
  exact ⟨a, o, t, u, r, n, e, kk _ _ ho hc, hc, hd⟩
theorem firstsT {h : Heap} : ∀ {vs : List Value}, (∀ v ∈ vs, ∃ k, IsTrip h v k) → ∃ fs : List Value, PySem.W.KatTups h vs fs ∧ fs.length = vs.length ∧ ∀ f ∈ fs, ∃ x t, f = Value.int x t
  | [], _ => ⟨[], PySem.W.KatTups.nil, rfl, fun _ hm => by simp at hm⟩
  | v :: vs, hp => by
    obtain ⟨fs, h1, h2, h3⟩ := firstsT (vs := vs) fun v' hm => hp v' (List.mem_cons_of_mem _ hm)
    obtain ⟨k, a, o, t, u, r, n, e, ho, hc, hd⟩ := hp v (List.mem_cons_self ..)
    subst e
    refine ⟨.int k.1 t :: fs, PySem.W.KatTups.cons ho hc hd rfl h1, by rw [List.length_cons, List.length_cons, h2], fun f hm => ?_⟩
    rcases List.mem_cons.mp hm with rfl | hm
    · exact ⟨k.1, t, rfl⟩
    · exact h3 f hm
theorem trip_cmp {vs : List Value} {k : Value → T3} (hp : ∀ v ∈ vs, IsTrip s.heap v (k v)) : SrtO.Cmp prog w A s (tuples' true) (fun p => p.1 ∈ vs) (lt2 fun v u => lexT (k v) (k u)) := by
  intro p q hm hm'
  have h1 := hp _ hm
  have h2 := hp _ hm'
  show wpAny (model prog w) A (keyLt' (tuples' true) p.1 q.1) (fun r s' => s' = s ∧ r = lexT (k p.1) (k q.1)) (fun _ _ => False) s
  generalize k p.1 = kp at h1 ⊢
  generalize k q.1 = kq at h2 ⊢
  obtain ⟨x, y, z⟩ := kp
  obtain ⟨x', y', z'⟩ := kq
  obtain ⟨a, o, t, u, r, n, e, ho, hc, hd⟩ := h1
  obtain ⟨a', o', t', u', r', n', e', ho', hc', hd'⟩ := h2
  rw [e, e']
  simp only at hd hd'
  refine PySem.W.kat_lt ho hd ho' hd' ?_
  show PySem.W.KatLex prog w A true (decide (3 < 3)) _ [(.int x t, .int x' t'), (.int y u, .int y' u'), (.int z r, .int z' r')] 0 s
  refine PySem.W.kat_cons (SeqAt.EqAt.int_int x t x' t' prog w _ _ ?_)
  refine PySem.W.kat_go (fun e1 => ?_) (fun e1 => ?_)
  · have ex : x = x' := by simpa using e1
    refine PySem.W.kat_yes (PySem.W.kat_cons (SeqAt.EqAt.int_int y u y' u' prog w _ _ ?_))
    refine PySem.W.kat_go (fun e2 => ?_) (fun e2 => ?_)
    · have ey : y = y' := by simpa using e2
      refine PySem.W.kat_yes (PySem.W.kat_cons (SeqAt.EqAt.int_int z r z' r' prog w _ _ ?_))
      refine PySem.W.kat_go (fun e3 => ?_) (fun e3 => ?_)
      · have ez : z = z' := by simpa using e3
        have e4 : lexT (x, y, z) (x', y', z') = false := lexT_no.mpr (by simp only; omega)
        exact PySem.W.kat_yes (PySem.W.kat_nil ⟨rfl, e4.symm⟩)
      · have e4 : lexT (x, y, z) (x', y', z') = decide (z < z') := by
          unfold lexT lexB
          simp only
          rw [if_pos ex, if_pos ey]
        refine PySem.W.kat_no (PySem.W.kat_one _ _ (PyProof.Rows.lt_int ?_))
        exact (show s = s ∧ decide (z < z') = lexT (x, y, z) (x', y', z') from ⟨rfl, e4.symm⟩)
    · have ey : ¬ y = y' := by simpa using e2
      have e4 : lexT (x, y, z) (x', y', z') = decide (y < y') := by
        unfold lexT lexB
        simp only
        rw [if_pos ex, if_neg ey]
      refine PySem.W.kat_no (PySem.W.kat_one _ _ (PyProof.Rows.lt_int ?_))
      exact (show s = s ∧ decide (y < y') = lexT (x, y, z) (x', y', z') from ⟨rfl, e4.symm⟩)
  · have ex : ¬ x = x' := by simpa using e1
    have e3 : lexT (x, y, z) (x', y', z') = decide (x < x') := by
      unfold lexT
      simp only
      rw [if_neg ex]
    exact PySem.W.kat_no (oneLt_int ⟨rfl, e3.symm⟩)
theorem trips_sortableO {a : Addr} {vs : List Value} {k : Value → T3} (h0 : 0 < vs.length) (hp : ∀ v ∈ vs, IsTrip s.heap v (k v)) (ha : ∀ o, s.heap.get? a = some o → o.cls ≠ .type "tuple") : SortableO prog w A s a vs fun v u => lexT (k v) (k u) := by
  intro h' keep
  have hp' : ∀ v ∈ vs, IsTrip h' v (k v) := fun v hm => (hp v hm).keeps fun b o e c => keep b o (fun z => by subst z; exact ha o e c) e
  obtain ⟨fs, h1, h2, h3⟩ := firstsT fun v hm => ⟨_, hp' v hm⟩
  refine ⟨tuples' true, fun Q E hq => ?_, trip_cmp hp'⟩
  refine PySem.W.kat_kind (T := .type "int") h1 (by omega) (fun f hm => ?_) (by rfl) ?_
  · obtain ⟨x, t, rfl⟩ := h3 f hm
    exact PySem.W.Looks.now
  · have e : (Value.type "int" != Value.type "tuple") = true := by first | decide +kernel | rfl | decide
    rw [e]
    exact hq
theorem sorted_tripsO {l : Addr} {vs : List Value} {k : Value → T3} {Q : Value → Shared → Prop} (hl : s.heap.IsList l vs.toArray) (hz : vs.length ≤ sizeLine) (hp : ∀ v ∈ vs, IsTrip s.heap v (k v))
    (h : ∀ (h' : Heap) (d : Addr) (out : List Value), Srtd (fun v u => lexT (k v) (k u)) out → Stb (fun v u => lexT (k v) (k u)) out vs → (∀ b o, s.heap.get? b = some o → h'.get? b = some o) → s.heap.objs.size ≤ d → (∃ n, h'.get? d = some (seqObj "list" out.toArray n)) → Q (.ref d) { s with heap := h' }) :
    wpAny (model prog w) A (call (.builtin "sorted") [.ref l]) Q E s := by
  refine sorted_ord (swo_T k) hl hz (fun h2 h₁ a ha kk => ?_) fun out hs hb => ?_
  · refine trips_sortableO (s := { s with heap := h₁ }) (by omega) (fun v hm => (hp v hm).keeps fun b o e _ => (kk b o e).2) fun o e => ?_
    have e' : some o = some (seqObj "list" vs.toArray 0) := e.symm.trans ha
    cases e'
    intro c
    exact absurd (Value.type.inj c) (by decide)
  · exact h _ _ out hs hb (fun b o e => sortedAll_old e) (Nat.le_succ _) (sortedAll_at s.heap vs out.toArray)
end
end CB
namespace CB
open PySem PySem.Spec PyProof.Rows L2
/-- the triple that stands at x -/
def kT (H : Hp) : V → T3
  | .ref r => match H r with
    | some (.tup [.int a, .int b, .int c]) => (a, b, c)
    | _ => (0, 0, 0)
  | _ => (0, 0, 0)
def IsT3 (H : Hp) (x : V) : Prop := ∃ r a b c, x = V.ref r ∧ H r = some (.tup [.int a, .int b, .int c])
theorem IsT3.at {H : Hp} {x : V} (h : IsT3 H x) : ∃ r, x = V.ref r ∧ H r = some (.tup [.int (kT H x).1, .int (kT H x).2.1, .int (kT H x).2.2]) := by
  obtain ⟨r, a, b, c, rfl, e⟩ := h
  refine ⟨r, rfl, ?_⟩
  have q : kT H (V.ref r) = (a, b, c) := by
    show (match H r with
      | some (.tup [.int a, .int b, .int c]) => (a, b, c)
      | _ => (0, 0, 0)) = _
    rw [e]
  rw [q, e]
/-- the list of triples that stand at the xs -/
def Trs (H : Hp) (xs : List V) (ts : List T3) : Prop := (∀ x ∈ xs, IsT3 H x) ∧ ts = xs.map (kT H)
theorem kT_same {H H' : Hp} (s : Same H H') {x : V} (h : IsT3 H x) : kT H' x = kT H x ∧ IsT3 H' x := by
  obtain ⟨r, a, b, c, rfl, e⟩ := h
  have e' := s _ _ e
  refine ⟨?_, r, a, b, c, rfl, e'⟩
  show (match H' r with
      | some (.tup [.int a, .int b, .int c]) => (a, b, c)
      | _ => (0, 0, 0)) = (match H r with
      | some (.tup [.int a, .int b, .int c]) => (a, b, c)
      | _ => (0, 0, 0))
  rw [e, e']
theorem Trs.same {H H' : Hp} {xs : List V} {ts : List T3} (s : Same H H') (h : Trs H xs ts) : Trs H' xs ts := by
  obtain ⟨h1, rfl⟩ := h
  exact ⟨fun x m => (kT_same s (h1 x m)).2, List.map_congr_left fun x m => (kT_same s (h1 x m)).1.symm⟩
theorem Trs.keep {H H' : Hp} {xs : List V} {ts : List T3} (s : ∀ r a b c, H r = some (.tup [.int a, .int b, .int c]) → H' r = some (.tup [.int a, .int b, .int c])) (h : Trs H xs ts) : Trs H' xs ts := by
  obtain ⟨h1, rfl⟩ := h
  refine ⟨fun x m => ?_, List.map_congr_left fun x m => ?_⟩
  · obtain ⟨r, a, b, c, e, q⟩ := h1 x m
    exact ⟨r, a, b, c, e, s _ _ _ _ q⟩
  · obtain ⟨r, a, b, c, rfl, q⟩ := h1 x m
    show (match H r with
      | some (.tup [.int a, .int b, .int c]) => (a, b, c)
      | _ => (0, 0, 0)) = (match H' r with
      | some (.tup [.int a, .int b, .int c]) => (a, b, c)
      | _ => (0, 0, 0))
    rw [q, s _ _ _ _ q]
theorem same_at {H H1 : Hp} {f : Addr} {o : HO} (s : Same H H1) (n : H f = none) : Same H (upd H1 f o) := fun b x e => by
  rw [upd_ne (ne_of_none e n)]
  exact s b x e
theorem Trs.updL {H : Hp} {f : Addr} {l : List V} {o : HO} {xs : List V} {ts : List T3} (h : Trs H xs ts) (e : H f = some (.lst l)) : Trs (upd H f o) xs ts :=
  h.keep fun r a b c q => by rw [upd_ne (ne_of q e (by intro z; cases z))]; exact q
theorem Trs.updN {H : Hp} {f : Addr} {o : HO} {xs : List V} {ts : List T3} (h : Trs H xs ts) (e : H f = none) : Trs (upd H f o) xs ts := h.same (same_upd e)
theorem Trs.nil {H : Hp} : Trs H [] [] := ⟨fun x m => by simp at m, rfl⟩
theorem Trs.snoc {H : Hp} {xs : List V} {ts : List T3} {r : Addr} {a b c : Int} (h : Trs H xs ts) (e : H r = some (.tup [.int a, .int b, .int c])) : Trs H (xs ++ [.ref r]) (ts ++ [(a, b, c)]) := by
  obtain ⟨h1, rfl⟩ := h
  refine ⟨fun x m => ?_, ?_⟩
  · rcases List.mem_append.mp m with m | m
    · exact h1 x m
    · rw [List.mem_singleton.mp m]
      exact ⟨r, a, b, c, rfl, e⟩
  · rw [List.map_append]
    show _ = _ ++ [kT H (.ref r)]
    have q : kT H (V.ref r) = (a, b, c) := by
      show (match H r with
        | some (.tup [.int a, .int b, .int c]) => (a, b, c)
        | _ => (0, 0, 0)) = _
      rw [e]
    rw [q]
theorem Trs.get {H : Hp} {xs : List V} {ts : List T3} {i : Nat} {x : V} (h : Trs H xs ts) (e : xs[i]? = some x) : ∃ r a b c, x = .ref r ∧ H r = some (.tup [.int a, .int b, .int c]) ∧ ts[i]? = some (a, b, c) := by
  obtain ⟨h1, rfl⟩ := h
  obtain ⟨r, e1, e2⟩ := (h1 x (List.mem_of_getElem? e)).at
  exact ⟨r, _, _, _, e1, e2, by rw [List.getElem?_map, e]; rfl⟩
theorem Trs.len {H : Hp} {xs : List V} {ts : List T3} (h : Trs H xs ts) : ts.length = xs.length := by
  rw [h.2, List.length_map]
/-- sorted(xs), xs a list of triples of ints -/
def rSorted3 (K : PySem.W.Frag) : List V → Hp → VK → Prop := fun vs H Q => ∃ (a : Addr) (xs : List V) (ts : List T3), vs = [V.ref a] ∧ SqL K H a xs ∧ Trs H xs ts ∧
  ∀ ys us p, Trs H ys us → us.Pairwise (fun p q => lexT q p = false) → us.Perm ts → H p = none → Q (.ref p) (upd H p (.lst ys))
section
variable {X : Cx}
theorem cr_sorted3 : CallR X (.builtin "sorted") (rSorted3 X.K) := by
  intro pins s σ H vs us Q I r h
  obtain ⟨a, xs, ts, rfl, hs, ⟨hx, rfl⟩, q⟩ := h
  obtain ⟨its, rv, hl, hz⟩ := I.list hs
  obtain ⟨u, rfl, ru⟩ := vals1 r
  obtain rfl : u = Value.ref a := ru
  obtain ⟨e1, e2⟩ := refs_back rv fun x m => by
    obtain ⟨t, e, _⟩ := (hx x m).at
    exact ⟨t, e⟩
  refine sorted_tripsO (k := fun u => kT H (backV u)) hl.isList (by rw [← rv.length]; exact hz) (fun v hv => ?_) fun h' d out h1 h2 kp hd hn => ?_
  · obtain ⟨t, rfl⟩ := e2 v hv
    have hm : V.ref t ∈ xs := by rw [e1]; exact List.mem_map.mpr ⟨_, hv, rfl⟩
    obtain ⟨t', e, ht⟩ := (hx _ hm).at
    cases e
    obtain ⟨_, its2, r2, o, ho, hc, n, hd⟩ := I.hok _ _ ht
    cases r2 with
    | cons ra r2 =>
      cases r2 with
      | cons rb r2 =>
        cases r2 with
        | cons rc r2 =>
          cases r2
          obtain ⟨t1, rfl⟩ := ra
          obtain ⟨t2, rfl⟩ := rb
          obtain ⟨t3, rfl⟩ := rc
          exact ⟨t, o, t1, t2, t3, n, rfl, ho, hc, hd⟩
  · have h3 : ∀ u ∈ out, ∃ a, u = Value.ref a := fun u hu => e2 u (h2.perm.mem_iff.mp hu)
    obtain ⟨n, hn⟩ := hn
    have hp : (out.map backV).Perm xs := by
      rw [e1]
      exact h2.perm.map backV
    have hT : ∀ x ∈ out.map backV, IsT3 H x := fun x m => hx x (hp.mem_iff.mp m)
    have hS : ((out.map backV).map (kT H)).Pairwise (fun p q => lexT q p = false) := by
      rw [List.pairwise_map, List.pairwise_map]
      exact h1
    refine ⟨.ref d, upd H d (.lst (out.map backV)), I.laid (t' := s.toks) kp hd ⟨?_, out, n, vals_back h3, hn⟩, rfl, q _ _ d ⟨hT, rfl⟩ hS (hp.map (kT H)) (I.hok.fresh hd)⟩
    rw [hp.length_eq]
    exact hz
end
section
variable {H : Hp} {Q : VK} {K : PySem.W.Frag} {vs : List V}
theorem rd_sorted3 : rSorted3 K vs H Q = ∃ (a : Addr) (xs : List V) (ts : List T3), vs = [V.ref a] ∧ SqL K H a xs ∧ Trs H xs ts ∧
  ∀ ys us p, Trs H ys us → us.Pairwise (fun p q => lexT q p = false) → us.Perm ts → H p = none → Q (.ref p) (upd H p (.lst ys)) := rfl
end
/-! ### triples as data -/
def dT3 (t : T3) : PyData := .tuple [.int t.1, .int t.2.1, .int t.2.2]
theorem dp_t3 {K : PySem.W.Frag} {H : Hp} {x : V} (h : IsT3 H x) : Dp K H x (dT3 (kT H x)) := by
  obtain ⟨r, rfl, e⟩ := h.at
  exact .tup (SqT.of e) (.cons (.int _) (.cons (.int _) (.cons (.int _) .nil)))
theorem dp_trs {K : PySem.W.Frag} {H : Hp} : ∀ {xs : List V} {ts : List T3}, Trs H xs ts → DpAll K H xs (ts.map dT3) := fun {xs ts} h => by
  obtain ⟨h1, rfl⟩ := h
  induction xs with
  | nil => exact .nil
  | cons x xs ih => exact .cons (dp_t3 (h1 x List.mem_cons_self)) (ih fun y m => h1 y (List.mem_cons_of_mem _ m))
theorem lay_t3 : ∀ ts : List T3, PyData.canLayAll0 (ts.map dT3) = true
  | [] => rfl
  | t :: ts => by
    show (PyData.canLay0 (dT3 t) && PyData.canLayAll0 (ts.map dT3)) = true
    rw [lay_t3 ts]
    rfl
theorem depth_t3 : ∀ ts : List T3, PyData.depthAll (ts.map dT3) ≤ 3
  | [] => by decide
  | t :: ts => by
    have := depth_t3 ts
    show max (PyData.depth (dT3 t)) (PyData.depthAll (ts.map dT3)) ≤ 3
    have e : PyData.depth (dT3 t) = 1 := rfl
    omega
theorem shaped_t3 (ts : List T3) : SeqAt.shaped (.tuple (ts.map dT3)) = true := by
  unfold SeqAt.shaped
  have a : PyData.canLay0 (.tuple (ts.map dT3)) = true := lay_t3 ts
  have b : PyData.depth (.tuple (ts.map dT3)) ≤ 64 := by
    have := depth_t3 ts
    show PyData.depthAll (ts.map dT3) + 1 ≤ 64
    omega
  rw [a, decide_eq_true b]
  rfl
end CB
/-! try with several clauses, each with a name or without -/
namespace CB
open PySem PySem.Spec PyProof.Rows L2
abbrev Cl := Value × Option Nat × (Addr → Value → Option Addr → TS)
def endA (i : Option Nat) (D : Ends) : Ends := match i with
  | none => D
  | some i => { nx := fun p q => D.nx (p.set i none) q, rt := D.rt, bk := fun p q => D.bk (p.set i none) q, ct := fun p q => D.ct (p.set i none) q }
def setA (i : Option Nat) (p : L2.St) (a : Addr) : L2.St := match i with
  | none => p
  | some i => p.set i (some (.ref a))
def wA (K : PySem.W.Frag) (Wo : WX) (D : Ends) : List Cl → WX
  | [] => Wo
  | (c, i, ts) :: r => fun cls d p H => ∃ b, PySem.W.exmOne K cls c = some b ∧ (b = true → ∀ a, H a = none → ts a cls d (endA i D) (setA i p a) H) ∧ (b = false → wA K Wo D r cls d p H)
/-- the clauses of the text -/
inductive HdA (X : Cx) : List ExceptHandler → List Cl → Prop
  | nil : HdA X [] []
  | bare {x : Str} {c : Value} {ts : Addr → Value → Option Addr → TS} {b1 : Stmt} {su : List Stmt} {np pp : Pos} {hs : List ExceptHandler} {l : List Cl} (hc : Names X x c)
      (hw : ∀ (a : Addr) (o : Obj) (cls : Value) (d : Option Addr) (pn : List (Addr × Obj)), Zc cls d o → (∃ vs, o.data = .fields vs) → PSs (X.suite a ((a, o) :: pn)) (b1 :: su) (ts a cls d)) (r : HdA X hs l) :
      HdA X (.ExceptHandler (some (.Name x np)) none (b1 :: su) pp :: hs) ((c, none, ts) :: l)
  | named {x n : Str} {c : Value} {i : Nat} {ts : Addr → Value → Option Addr → TS} {b1 : Stmt} {su : List Stmt} {np pp : Pos} {hs : List ExceptHandler} {l : List Cl} (hc : Names X x c) (hi : X.N[i]? = some n) (hn : X.env.kindOf n = some .local)
      (hw : ∀ (a : Addr) (o : Obj) (cls : Value) (d : Option Addr) (pn : List (Addr × Obj)), Zc cls d o → (∃ vs, o.data = .fields vs) → PSs (X.suite a ((a, o) :: pn)) (b1 :: su) (ts a cls d)) (r : HdA X hs l) :
      HdA X (.ExceptHandler (some (.Name x np)) (some n) (b1 :: su) pp :: hs) ((c, some i, ts) :: l)
section
variable {X : Cx} {body : List Stmt} {h1 : ExceptHandler} {hs : List ExceptHandler} {l : List Cl} {pos : Pos} {tb : WX → TS} {Wo : WX}
theorem ps_tryA (hst : X.stack = X.env :: X.outer) (hf : X.env.frame = some X.env.locals) (hN : X.N.Nodup) (tk : Takes X Wo)
    (hb : ∀ (W : WX) (pn : List (Addr × Obj)) (xe : Value → Shared → Prop), Takes (X.tr pn xe) W → PassesOwn (model X.prog X.w) X.A X.env xe → PSs (X.tr pn xe) body (tb W))
    (hh : HdA X (h1 :: hs) l) : PS X (.Try body (h1 :: hs) [] [] pos) (fun D p H => tb (wA X.K Wo D l) D p H) := by
  refine ⟨fun pins s p H D I hgo => ?_⟩
  have ok := I.ok
  have frm : X.A.frames = some (X.env :: X.outer) := by rw [ok.frames, hst]
  refine wpAny_Try_except (wpAny_mono ((hb (wA X.K Wo D l) (X.pn ++ pins) (fun e s₁ => wpAny (model X.prog X.w) X.A (noteFrame e X.env) (fun _ s₂ => wpAny (model X.prog X.w) X.A (setFlight e none) (fun _ s₃ => wpAny (model X.prog X.w) X.A (handleBy e X.env (h1 :: hs)) (SP X pins D) X.xe s₃) X.xe s₂) X.xe s₁)
    (fun u s' xx => ?_) PassesOwn.looking).run [] s p H D (I.toTry _) hgo) (fun f s1 hsp => ?_) (fun e s1 he => he))
  · obtain ⟨a, B, sI, pins', p', H', cls, d, rfl, Jt, nb, up, sky, na, os, ag, wish⟩ := xx
    have J : Inv X pins p' H' sI := Jt.ofTry ok
    have skyB : Sky B (X.env :: X.outer) a (Zc cls d) X.env.locals s'.heap := by rw [← hst]; exact sky
    show wpAny (model X.prog X.w) X.A (noteFrame (.ref a) X.env) _ _ _
    refine Sky.land Zc.steady frm hf skyB fun hp3 fl3 up3 => ?_
    have J3 : Inv X pins p' H' { s' with heap := hp3 } := J.landed nb fl3.1 (up.trans up3) os ag
    obtain ⟨o3, v3, g3, z3, d3⟩ := fl3.there
    have out : ∀ {hp : Heap} {o : Obj} {vs : Array Value}, hp.FunFrames B (X.env :: X.outer) → hp.get? a = some o → o.data = .fields vs → a ∉ frs (X.env :: X.outer) := fun {hp o vs} ff e dd hm => by
      obtain ⟨_, o', e', hnf⟩ := ff.mem hm; rw [e] at e'; cases e'; exact hnf _ dd
    have nfr := out fl3.2.2.1 g3 d3
    have nL : a ≠ X.env.locals := fun z => nfr (List.mem_filterMap.mpr ⟨X.env, List.mem_cons_self, by rw [hf, z]⟩)
    have nF : a ∉ X.fs := fun hm => by obtain ⟨e, he, q⟩ := List.mem_filterMap.mp hm; exact nfr (List.mem_filterMap.mpr ⟨e, List.mem_cons_of_mem _ he, q⟩)
    have S3 := J3.suite g3 d3 na nL nF
    have LT : PySem.W.Looks (model X.prog X.w) hp3 (typeOf (.ref a)) cls := fun A Q E s k q => wpAny_typeOf_ref (k _ _ g3) (by rw [z3.1]; exact q)
    have test : ∀ {x : Str} {np : Pos} {c : Value} (hc : Names X x c) {Q : Value → Shared → Prop} {E : Value → Shared → Prop}, Q c { s' with heap := hp3 } → wpAny (model X.prog X.w) (X.A.mark (some (.ref a))) (eval (.Name x np) X.env) Q E { s' with heap := hp3 } := fun {x np c} hc {Q E} q => by
      obtain ⟨hg, hdb, hm | ⟨hm, hv, hnn⟩⟩ := hc
      · exact ld_glob (X := X.suite a ((a, o3) :: (X.pn ++ pins))) S3 hg hm q hdb
      · exact ld_blt (X := X.suite a ((a, o3) :: (X.pn ++ pins))) S3 hg hm hv q hnn hdb
    have go : ∀ {hs' : List ExceptHandler} {l' : List Cl}, HdA X hs' l' → wA X.K Wo D l' cls d p' H' → wpAny (model X.prog X.w) X.A (handleBy (.ref a) X.env hs') (SP X pins D) X.xe { s' with heap := hp3 } := by
      intro hs' l' hk
      induction hk with
      | nil =>
        intro w
        refine wpAny_handleBy_nil ?_
        obtain ⟨k1, k2, k3, oe, vs, T, oT, ts', he, hz, hd, h1', hr⟩ := id fl3
        unfold PySem.passOn
        refine wpAny_bind (wpAny_field he hd h1' ?_)
        rw [if_neg (show ¬ ((Value.ref T == Value.none) = true) from by simp)]
        have fin : wpAny (model X.prog X.w) X.A (setFlight (.ref a) X.env.frame) (fun _ s4 => wpAny (model X.prog X.w) X.A (throw (.ref a) : Sem Flow) (SP X pins D) X.xe s4) X.xe { s' with heap := hp3 } := by
          rw [hf]
          refine HandSPX.setFlight_upZ fl3 fun h4 hh4 up4 => wpAny_throw (tk _ _ ?_)
          exact ⟨a, B, sI, pins, p', H', cls, d, rfl, J, nb, (up.trans up3).trans up4, .inr (.inr (by rw [hst]; exact hh4)), na, os, ag, w⟩
        first | exact wpAny_bind (wpAny_pure (wpAny_bind fin)) | exact wpAny_bind fin
      | @bare x c ts b1 su np pp hs2 l2 hc hw r ih =>
        intro w
        obtain ⟨b, hb1, hyes, hno⟩ := w
        refine wpAny_handleBy_cons (codeAny_handlers_test ?_) (by intro q; cases q)
        have LM := PySem.W.exm_one (M := model X.prog X.w) (J3.kIn) LT hb1
        refine test hc (LM.here ?_)
        cases b with
        | true =>
          refine codeAny_handlers_suite (HandSPX.lands_againZ fl3 fun h4 fl4 up4 => ?_)
          have J4 : Inv X pins p' H' { s' with heap := h4 } := J.landed nb fl4.1 ((up.trans up3).trans up4) os ag
          obtain ⟨o4, v4, g4, z4, d4⟩ := fl4.there
          have S4 := J4.suite g4 d4 na nL nF
          refine wpAny_mono ((hw a o4 cls d (X.pn ++ pins) z4 ⟨_, d4⟩).run [] _ _ H' _ S4 (hyes rfl a na)) (fun f s6 hsp => ?_) (fun _ _ z => False.elim z)
          cases f with
          | ret u => obtain ⟨v6, p6, H6, S6, r6, q6⟩ := hsp; exact ⟨_, _, _, S6.unsuite ok, r6, q6⟩
          | _ => obtain ⟨p6, H6, S6, q6⟩ := hsp; exact ⟨_, _, S6.unsuite ok, q6⟩
        | false => exact ih (hno rfl)
      | @named x n c i ts b1 su np pp hs2 l2 hc hi hn hw r ih =>
        intro w
        obtain ⟨b, hb1, hyes, hno⟩ := w
        refine wpAny_handleBy_cons (codeAny_handlers_test ?_) (by intro q; cases q)
        have LM := PySem.W.exm_one (M := model X.prog X.w) (J3.kIn) LT hb1
        refine test hc (LM.here ?_)
        cases b with
        | true =>
          refine codeAny_handlers_suite_as (HandSPX.lands_againZ fl3 fun h4 fl4 up4 => ?_)
          have J4 : Inv X pins p' H' { s' with heap := h4 } := J.landed nb fl4.1 ((up.trans up3).trans up4) os ag
          obtain ⟨o4, v4, g4, z4, d4⟩ := fl4.there
          have S4 := J4.suite g4 d4 na nL nF
          refine store_ok (X := X.suite a ((a, o4) :: (X.pn ++ pins))) (v := .ref a) S4 hN hi (.inl hn) rfl (fun s5 S5 => ?_) (.inr hn)
          refine wpAny_mono ((hw a o4 cls d (X.pn ++ pins) z4 ⟨_, d4⟩).run [] s5 _ H' _ S5 (hyes rfl a na)) (fun f s6 hsp => ?_) (fun _ _ z => False.elim z)
          have gone : ∀ {p6 : L2.St} {H6 : Hp} {Q : Shared → Prop}, Inv (X.suite a ((a, o4) :: (X.pn ++ pins))) [] p6 H6 s6 → (∀ s7, Inv X pins (p6.set i none) H6 s7 → Q s7) →
              wpAny (model X.prog X.w) X.A (do bindName X.env n .none; unbindBehindTheSuite X.env n pp) (fun _ s7 => Q s7) X.xe s6 := fun {p6 H6 Q} S6 hq => gone_ok (S6.unsuite ok) hN hi hn hq
          cases f with
          | ret u => obtain ⟨v6, p6, H6, S6, r6, q6⟩ := hsp; exact gone S6 fun s7 J7 => ⟨_, _, _, J7, r6, q6⟩
          | next => obtain ⟨p6, H6, S6, q6⟩ := hsp; exact gone S6 fun s7 J7 => ⟨_, _, J7, q6⟩
          | brk => obtain ⟨p6, H6, S6, q6⟩ := hsp; exact gone S6 fun s7 J7 => ⟨_, _, J7, q6⟩
          | cont => obtain ⟨p6, H6, S6, q6⟩ := hsp; exact gone S6 fun s7 J7 => ⟨_, _, J7, q6⟩
        | false => exact ih (hno rfl)
    exact go hh wish
  · cases f with
    | ret u => obtain ⟨v, p', H', J', r, q⟩ := hsp; exact ⟨v, p', H', J'.ofTry ok, r, q⟩
    | next => obtain ⟨p', H', J', q⟩ := hsp; exact wpAny_execs_nil ⟨p', H', J'.ofTry ok, q⟩
    | brk => obtain ⟨p', H', J', q⟩ := hsp; exact ⟨p', H', J'.ofTry ok, q⟩
    | cont => obtain ⟨p', H', J', q⟩ := hsp; exact ⟨p', H', J'.ofTry ok, q⟩
end
end CB
/-! the program's errors: Malformed (no own __init__), Refused (with its reason) -/
namespace CB
open PySem PySem.Spec PyProof.Rows L2
structure CalX (P : Program) (w : World) (K : PySem.W.Frag) (mg : Str → Option Value) (base : Heap) (x : Str) (k : Nat) (ps : List Str) (sp : Sp) : Prop where
  ok : ∃ f fd, FnOk P w K mg base (L2.CX P w) k f fd ps sp ∧ mg x = some (.ref f) ∧ PySem.W.keepIn K (.ref f) = true ∧ Binds K fd ps []
section
variable {P : Program} {w : World} {K : PySem.W.Frag} {mg : Str → Option Value} {base : Heap}
theorem Dn.calX {x : Str} {st : Stmt} {N ps : List Str} {k : Nat} {sp : Sp} (D : Dn K mg x st ps) (S : FnScope N ps (defScope st)) (len : ∀ vs H Q E, sp vs H Q E → vs.length = ps.length)
    (hbody : ∀ (f : Addr) (cdv : Value) (A : Around) (outer : List Env) (s : Shared) (H : Hp) (vs : List V) (Q : VK) (E : XK), Room k (A.deeper (envOfC x (defScope st) s.heap.objs.size f cdv)) → sp vs H Q E →
      ∃ t, PSs (cxOf (L2.CX P w) P w K mg base N x (defScope st) f cdv A outer s H E) (defBody st) t ∧ t { nx := fun _ H' => Q .non H', rt := Q } (start N vs) H) : CalX P w K mg base x (k + 1) ps sp := by
  obtain ⟨f, fd, F, hm, hb⟩ := D.ok
  exact ⟨f, fd, F.okX S len fun cdv A outer s H vs Q E hr h => hbody f cdv A outer s H vs Q E hr h, hm, F.kp, hb⟩
end
section
variable {X : Cx} {k : Nat} {ps : List Str} {sp : Sp} {x : Str} {p pos : Pos} {e : Expr} {es : List Expr} {t : TA} {W : WX}
/-- a call that may raise, W what is wished of what it raises -/
theorem pe_calS (C : CalX X.prog X.w X.K X.mg X.base x k ps sp) (tk : Takes X W) (hr : Room k X.A) (hg : Gl X x) (ha : PA X (e :: es) t) (hdb : (x == ("__debug__" : Str)) = false := by decide)
    (he : starEach (e :: es) X.env = (false, eval e X.env) :: starEach es X.env := by rfl) (hpl : (backTo pos (starEach es X.env)).any (·.1) = false := by rfl) : PE X (.Call (.Name x p) (e :: es) [] pos) (tCallS sp (WE W) t) := by
  obtain ⟨f, fd, F, hm, hk, hb⟩ := C.ok
  exact pe_callS F hr hg hm hk hb (fun σ => passAt tk σ) ha hdb he hpl
end
abbrev veB : List Value := [.type "ValueError", .type "Exception", .type "BaseException", .type "object"]
structure ErrM (K : PySem.W.Frag) (mg : Str → Option Value) (C : Addr) : Prop where
  g : mg "Malformed" = some (.ref C)
  x : PySem.W.excIn K C veB "ValueError.__new__" = true
  k : PySem.W.keepIn K (.ref C) = true
  b : PySem.W.subIn K (.ref C) (.type "BaseException") = some true
  t : PySem.W.typeIn K (.ref C) = some (.type "type")
  mm : PySem.W.exmOne K (.ref C) (.ref C) = some true
structure ErrO (K : PySem.W.Frag) (mg : Str → Option Value) (C : Addr) : Prop where
  m : ErrM K mg C
structure ErrR (K : PySem.W.Frag) (mg : Str → Option Value) (M C f : Addr) : Prop where
  g : mg "Refused" = some (.ref C)
  ox : OexC K C
  i : PySem.W.findIn K (.ref C) "__init__" = some (some (.ref f))
  t : PySem.W.typeIn K (.ref f) = some (.type "function")
  n : PySem.W.findIn K (.ref C) "reason" = some none
  xf : XfC K C
  rm : PySem.W.exmOne K (.ref C) (.ref M) = some false
  rr : PySem.W.exmOne K (.ref C) (.ref C) = some true
/-- Refused.__init__(self, reason) -/
def spRI (K : PySem.W.Frag) : Sp := fun vs H Q _ => ∃ (a C : Addr) (v : V), vs = [.ref a, v] ∧ OexC K C ∧ PySem.W.findIn K (.ref C) "reason" = some none ∧ H a = some (exo a C none) ∧
  ∀ dx, H dx = none → dx ≠ a → Q .non (upd (upd H dx (exd dx [("reason", v)])) a (exo a C (some dx)))
structure ErrI (P : Program) (w : World) (K : PySem.W.Frag) (mg : Str → Option Value) (base : Heap) (M C : Addr) : Prop where
  m : ErrM K mg M
  r : ∃ f fd, ErrR K mg M C f ∧ FnOk P w K mg base CX0 1 f fd ["self", "reason"] (spRI K) ∧ Binds K fd ["self", "reason"] []
section
variable {P : Program} {w : World} {K : PySem.W.Frag} {mg : Str → Option Value} {base : Heap} {M C : Addr}
end
/-- raise Malformed('..') -/
theorem ps_mal {X : Cx} {W : WX} {M : Addr} {m : Str} {j : Nat} {p p2 pos pp : Pos} (E : ErrM X.K X.mg M) (hc : X.calm = true) (tk : Takes X W) (hg : Gl X "Malformed") : PS X (.Raise (some (.Call (.Name "Malformed" p) [.Constant (.str m) j p2] [] pos)) none pp) (fun _ σ H => W (.ref M) none σ H) :=
  ps_raise hc tk (pmk_own PySem.F.excBase_ValueError E.x E.g E.k (raises_own E.b E.t) hg)
/-- raise Refused('..') -/
theorem ps_ref {X : Cx} {W : WX} {M C : Addr} {m : Str} {j : Nat} {p p2 pos pp : Pos} (E : ErrI X.prog X.w X.K X.mg X.base M C) (hc : X.calm = true) (tk : Takes X W) (hr : Room 2 X.A) (hg : Gl X "Refused") (hs : starEach [Expr.Constant (.str m) j p2] X.env = (false, eval (Expr.Constant (.str m) j p2) X.env) :: starEach [] X.env := by rfl)
    (hpl : (backTo pos (starEach [] X.env)).any (·.1) = false := by rfl) :
    PS X (.Raise (some (.Call (.Name "Refused" p) [.Constant (.str m) j p2] [] pos)) none pp) (fun _ σ H => ∀ d H', Same H H' → H d = none → H' d = some (.xd [("reason", .str m)]) → W (.ref C) (some d) σ H') := by
  obtain ⟨f, fd, R, F, b⟩ := E.r
  refine ⟨fun pins s σ H D I h => ?_⟩
  refine (ps_raise hc tk (pmk_oex R.ox R.i R.t F hr b .nil pass0 hg R.g (pa_cons pe_str pa_nil hs) rfl hs hpl)).run pins s σ H D I ?_
  show ([V.str m].length ≤ 1000 ∧ _)
  refine ⟨by show 1 ≤ 1000; decide, fun a na => ⟨a, C, .str m, rfl, R.ox, R.n, upd_same, fun dx ndx ne => ⟨rfl, dx, [("reason", .str m)], upd_same, ?_, ?_, ?_⟩⟩⟩
  · rw [upd_ne ne, upd_same]
  · rw [upd_ne ne] at ndx
    exact ndx
  · rw [upd_ne ne] at ndx
    refine h dx _ (fun b o e => ?_) ndx upd_same
    have hbd : b ≠ dx := ne_of_none e ndx
    have hba : b ≠ a := ne_of_none e na
    rw [upd_ne hbd, del_ne hba, upd_ne hba, upd_ne hbd, upd_ne hba]
    exact e
end CB
namespace CB
open PySem PySem.Spec PyProof.Rows L2
theorem exm_b {K : PySem.W.Frag} {S C : Addr} {b : Bool} (h1 : PySem.W.subIn K (.ref C) (.type "BaseException") = some true) (h2 : PySem.W.isClsIn K C = true) (h3 : PySem.W.typeIn K (.ref C) = some (.type "type")) (h4 : PySem.W.subIn K (.ref S) (.ref C) = some b) :
    PySem.W.exmOne K (.ref S) (.ref C) = some b := by
  unfold PySem.W.exmOne
  rw [if_pos (by rw [h1] <;> rfl)]
  show (if ((PySem.W.clsIn K C).isSome && PySem.W.typeIn K (.ref C) == some (.type "type")) = true then PySem.W.subIn K (.ref S) (.ref C) else none) = some b
  have h5 : (PySem.W.clsIn K C).isSome = true := h2
  rw [h5, h3, if_pos (by rfl)]
  exact h4
theorem dn_mk {K : PySem.W.Frag} {h : Heap} {mg : Str → Option Value} {x : Str} {st : Stmt} {ps : List Str} {f : Addr} {oc : Value} {od an : Option Addr} {osl : Array (Option Value)} {kV doc pm cdv ct : Value} (X : K.In h) (G : h.Ns mainGlobals mg)
    (a : PySem.W.nsIn K mainGlobals x = some (some (.ref f))) (l : K.lookup f = some ⟨oc, od, .func (PySem.W.fnOf x x (defArgs st) (defBody st) (defScope st) .none kV doc pm an cdv ct), osl⟩) (c : PySem.W.codeIn K cdv x = true) (k : PySem.W.keepIn K (.ref f) = true)
    (hb : ∀ (kV doc pm : Value) (an : Option Addr) (cdv ct : Value) (us : List Value), us.length = ps.length → bindArgs (PySem.W.fnOf x x (defArgs st) (defBody st) (defScope st) .none kV doc pm an cdv ct) ⟨us, []⟩ = pure (ps.zip us)) : Dn K mg x st ps :=
  ⟨f, _, fun_mk l c k, PySem.W.mg_of X G a, (fun_mk l c k).binds hb⟩
end CB
/-! sorted of a list of pairs of pairs of ints -/
namespace CB
open PySem PySem.Spec PyProof.Rows Srt SrtO L2
abbrev M4 := (Int × Int) × (Int × Int)
def dM (m : M4) : PyData := .tuple [.tuple [.int m.1.1, .int m.1.2], .tuple [.int m.2.1, .int m.2.2]]
def lexM (p q : M4) : Bool := if p.1 = q.1 then lexB p.2 q.2 else lexB p.1 q.1
theorem alike_M (p q : M4) : PySem.W.alike (dM p) (dM q) = true := by
  simp [dM, PySem.W.alike, PySem.W.alikeAll]
theorem eqv_pp (a b c d : Int) : PyData.eqv (.tuple [.int a, .int b]) (.tuple [.int c, .int d]) = decide ((a, b) = (c, d)) := by
  have e : PyData.eqv (.tuple [.int a, .int b]) (.tuple [.int c, .int d]) = ((a == c) && ((b == d) && true)) := rfl
  rw [e]
  by_cases h1 : a = c
  · by_cases h2 : b = d
    · simp [h1, h2]
    · simp [h2]
  · simp [h1]
theorem lt_pp (p q : Int × Int) : PySem.W.dataLt (.tuple [.int p.1, .int p.2]) (.tuple [.int q.1, .int q.2]) = lexB p q := by
  rw [PySem.W.dataLt_ii]
  have h := @lexB_iff p q
  cases hb : lexB p q with
  | true => exact decide_eq_true (h.mp hb)
  | false => exact decide_eq_false fun z => by rw [h.mpr z] at hb; cases hb
theorem lt_M (p q : M4) : PySem.W.dataLt (dM p) (dM q) = lexM p q := by
  unfold dM lexM
  rw [PySem.W.dataLt_pair (by simp [PySem.W.alike, PySem.W.alikeAll]) (by simp [PySem.W.alike, PySem.W.alikeAll]), eqv_pp, eqv_pp, lt_pp, lt_pp]
  by_cases h1 : p.1 = q.1
  · rw [if_pos (decide_eq_true h1), if_pos h1]
    by_cases h2 : p.2 = q.2
    · rw [if_pos (decide_eq_true h2), h2]
      symm
      cases hb : lexB q.2 q.2 with
      | false => rfl
      | true =>
        have := lexB_iff.mp hb
        omega
    · rw [if_neg (fun z => h2 (of_decide_eq_true z))]
  · rw [if_neg (fun z => h1 (of_decide_eq_true z)), if_neg h1]
theorem lexM_iff {p q : M4} : lexM p q = true ↔ (p.1.1 < q.1.1 ∨ (p.1.1 = q.1.1 ∧ (p.1.2 < q.1.2 ∨ (p.1.2 = q.1.2 ∧ (p.2.1 < q.2.1 ∨ (p.2.1 = q.2.1 ∧ p.2.2 < q.2.2)))))) := by
  obtain ⟨⟨a, b⟩, ⟨c, d⟩⟩ := p
  obtain ⟨⟨a', b'⟩, ⟨c', d'⟩⟩ := q
  unfold lexM
  by_cases e : (a, b) = (a', b')
  · rw [if_pos e, lexB_iff]
    have e1 : a = a' := congrArg Prod.fst e
    have e2 : b = b' := congrArg Prod.snd e
    simp only
    omega
  · rw [if_neg e, lexB_iff]
    have : ¬ (a = a' ∧ b = b') := fun z => e (by rw [z.1, z.2])
    simp only
    omega
theorem lexM_no {p q : M4} : lexM p q = false ↔ ¬ (p.1.1 < q.1.1 ∨ (p.1.1 = q.1.1 ∧ (p.1.2 < q.1.2 ∨ (p.1.2 = q.1.2 ∧ (p.2.1 < q.2.1 ∨ (p.2.1 = q.2.1 ∧ p.2.2 < q.2.2)))))) := by
  rw [← lexM_iff]
  cases lexM p q <;> simp
theorem lexM_eq {p q : M4} (h1 : lexM p q = false) (h2 : lexM q p = false) : p = q := by
  have a := lexM_no.mp h1
  have b := lexM_no.mp h2
  obtain ⟨⟨p1, p2⟩, ⟨p3, p4⟩⟩ := p
  obtain ⟨⟨q1, q2⟩, ⟨q3, q4⟩⟩ := q
  simp only at a b
  have e1 : p1 = q1 := by omega
  have e2 : p2 = q2 := by omega
  have e3 : p3 = q3 := by omega
  have e4 : p4 = q4 := by omega
  rw [e1, e2, e3, e4]
theorem srtM_uniq {l m : List M4} (h1 : l.Pairwise (fun p q => lexM q p = false)) (h2 : m.Pairwise (fun p q => lexM q p = false)) (h : l.Perm m) : l = m :=
  List.Perm.eq_of_pairwise (le := fun p q => lexM q p = false) (fun a b _ _ x y => lexM_eq y x) h1 h2 h
/-- x is, in H, the tuple m of tuples -/
def IsM (H : Hp) (x : V) (m : M4) : Prop := ∃ r r1 r2, x = V.ref r ∧ H r = some (.tup [.ref r1, .ref r2]) ∧ H r1 = some (.tup [.int m.1.1, .int m.1.2]) ∧ H r2 = some (.tup [.int m.2.1, .int m.2.2])
theorem IsM.fn {H : Hp} {x : V} {m m' : M4} (h : IsM H x m) (h' : IsM H x m') : m = m' := by
  obtain ⟨r, r1, r2, rfl, e, e1, e2⟩ := h
  obtain ⟨_, _, _, q, f, f1, f2⟩ := h'
  cases q
  rw [e] at f
  cases f
  rw [e1] at f1
  rw [e2] at f2
  obtain ⟨⟨a, b⟩, ⟨c, d⟩⟩ := m
  obtain ⟨⟨a', b'⟩, ⟨c', d'⟩⟩ := m'
  simp only [Option.some.injEq, HO.tup.injEq, List.cons.injEq, V.int.injEq, and_true] at f1 f2
  rw [f1.1, f1.2, f2.1, f2.2]
theorem IsM.same {H H' : Hp} {x : V} {m : M4} (s : Same H H') (h : IsM H x m) : IsM H' x m := by
  obtain ⟨r, r1, r2, q, e, e1, e2⟩ := h
  exact ⟨r, r1, r2, q, s _ _ e, s _ _ e1, s _ _ e2⟩
open Classical in
noncomputable def kM (H : Hp) (x : V) : M4 := if h : ∃ m, IsM H x m then h.choose else ((0, 0), (0, 0))
theorem IsM.k {H : Hp} {x : V} {m : M4} (h : IsM H x m) : kM H x = m := by
  unfold kM
  rw [dif_pos ⟨m, h⟩]
  exact (Exists.choose_spec (⟨m, h⟩ : ∃ m, IsM H x m)).fn h
/-- the list of such tuples at the xs -/
def Mats (H : Hp) (xs : List V) (ms : List M4) : Prop := (∀ x ∈ xs, IsM H x (kM H x)) ∧ ms = xs.map (kM H)
theorem Mats.same {H H' : Hp} {xs : List V} {ms : List M4} (s : Same H H') (h : Mats H xs ms) : Mats H' xs ms := by
  obtain ⟨h1, rfl⟩ := h
  have e : ∀ x ∈ xs, kM H' x = kM H x := fun x m => ((h1 x m).same s).k
  exact ⟨fun x m => by rw [e x m]; exact (h1 x m).same s, List.map_congr_left fun x m => (e x m).symm⟩
theorem Mats.keep {H H' : Hp} {xs : List V} {ms : List M4} (s : ∀ r us, H r = some (.tup us) → H' r = some (.tup us)) (h : Mats H xs ms) : Mats H' xs ms := by
  obtain ⟨h1, rfl⟩ := h
  have g : ∀ x ∈ xs, IsM H' x (kM H x) := fun x m => by
    obtain ⟨r, r1, r2, q, e, e1, e2⟩ := h1 x m
    exact ⟨r, r1, r2, q, s _ _ e, s _ _ e1, s _ _ e2⟩
  exact ⟨fun x m => by rw [(g x m).k]; exact g x m, List.map_congr_left fun x m => ((g x m).k).symm⟩
theorem Mats.updL {H : Hp} {f : Addr} {l : List V} {o : HO} {xs : List V} {ms : List M4} (h : Mats H xs ms) (e : H f = some (.lst l)) : Mats (upd H f o) xs ms :=
  h.keep fun r us q => by rw [upd_ne (ne_of q e (by intro z; cases z))]; exact q
theorem Mats.updN {H : Hp} {f : Addr} {o : HO} {xs : List V} {ms : List M4} (h : Mats H xs ms) (e : H f = none) : Mats (upd H f o) xs ms := h.same (same_upd e)
theorem Mats.nil {H : Hp} : Mats H [] [] := ⟨fun x m => by simp at m, rfl⟩
theorem Mats.snoc {H : Hp} {xs : List V} {ms : List M4} {x : V} {m : M4} (h : Mats H xs ms) (e : IsM H x m) : Mats H (xs ++ [x]) (ms ++ [m]) := by
  obtain ⟨h1, rfl⟩ := h
  refine ⟨fun y hy => ?_, ?_⟩
  · rcases List.mem_append.mp hy with hy | hy
    · exact h1 y hy
    · rw [List.mem_singleton.mp hy, e.k]
      exact e
  · rw [List.map_append, List.map_singleton, e.k]
theorem Mats.get {H : Hp} {xs : List V} {ms : List M4} {i : Nat} {x : V} (h : Mats H xs ms) (e : xs[i]? = some x) : ∃ m, IsM H x m ∧ ms[i]? = some m := by
  obtain ⟨h1, rfl⟩ := h
  exact ⟨_, h1 x (List.mem_of_getElem? e), by rw [List.getElem?_map, e]; rfl⟩
theorem Mats.len {H : Hp} {xs : List V} {ms : List M4} (h : Mats H xs ms) : ms.length = xs.length := by
  rw [h.2, List.length_map]
theorem dp_M {K : PySem.W.Frag} {H : Hp} {x : V} {m : M4} (h : IsM H x m) : Dp K H x (dM m) := by
  obtain ⟨r, r1, r2, rfl, e, e1, e2⟩ := h
  exact .tup (SqT.of e) (.cons (.tup (SqT.of e1) (.cons (.int _) (.cons (.int _) .nil))) (.cons (.tup (SqT.of e2) (.cons (.int _) (.cons (.int _) .nil))) .nil))
theorem dp_Ms {K : PySem.W.Frag} {H : Hp} : ∀ {xs : List V} {ms : List M4}, Mats H xs ms → DpAll K H xs (ms.map dM) := fun {xs ms} h => by
  obtain ⟨h1, rfl⟩ := h
  induction xs with
  | nil => exact .nil
  | cons x xs ih => exact .cons (dp_M (h1 x List.mem_cons_self)) (ih fun y m => h1 y (List.mem_cons_of_mem _ m))
theorem lay_M : ∀ ms : List M4, PyData.canLayAll0 (ms.map dM) = true
  | [] => rfl
  | m :: ms => by
    show (PyData.canLay0 (dM m) && PyData.canLayAll0 (ms.map dM)) = true
    rw [lay_M ms]
    rfl
theorem depth_M : ∀ ms : List M4, PyData.depthAll (ms.map dM) ≤ 3
  | [] => by decide
  | m :: ms => by
    have := depth_M ms
    show max (PyData.depth (dM m)) (PyData.depthAll (ms.map dM)) ≤ 3
    have e : PyData.depth (dM m) = 2 := rfl
    omega
theorem shaped_M (ms : List M4) : SeqAt.shaped (.tuple (ms.map dM)) = true := by
  unfold SeqAt.shaped
  have a : PyData.canLay0 (.tuple (ms.map dM)) = true := lay_M ms
  have b : PyData.depth (.tuple (ms.map dM)) ≤ 64 := by
    have := depth_M ms
    show PyData.depthAll (ms.map dM) + 1 ≤ 64
    omega
  rw [a, decide_eq_true b]
  rfl
/-- sorted(xs), xs a list of pairs of pairs -/
def rSortedM (K : PySem.W.Frag) : List V → Hp → VK → Prop := fun vs H Q => ∃ (a : Addr) (xs : List V) (ms : List M4), vs = [V.ref a] ∧ SqL K H a xs ∧ Mats H xs ms ∧
  ∀ ys us p, Mats H ys us → us.Pairwise (fun p q => lexM q p = false) → us.Perm ms → H p = none → Q (.ref p) (upd H p (.lst ys))
theorem rd_sortedM {K : PySem.W.Frag} {vs : List V} {H : Hp} {Q : VK} : rSortedM K vs H Q = ∃ (a : Addr) (xs : List V) (ms : List M4), vs = [V.ref a] ∧ SqL K H a xs ∧ Mats H xs ms ∧
  ∀ ys us p, Mats H ys us → us.Pairwise (fun p q => lexM q p = false) → us.Perm ms → H p = none → Q (.ref p) (upd H p (.lst ys)) := rfl
section
variable {X : Cx}
theorem each_vals : ∀ {vs : List Value} {xs : List V}, Vals xs vs → PySem.W.EachIs (fun v x => RelV x v) vs xs
  | _, _, .nil => .nil
  | _, _, .cons r h => .cons r (each_vals h)
theorem vals_each : ∀ {vs : List Value} {xs : List V}, PySem.W.EachIs (fun v x => RelV x v) vs xs → Vals xs vs
  | _, _, .nil => .nil
  | _, _, .cons r h => .cons r (vals_each h)
theorem cr_sortedM (hu : X.A.units + 64 < cLine) : CallR X (.builtin "sorted") (rSortedM X.K) := by
  intro pins s σ H vs us Q I r h
  obtain ⟨a, xs, ms, rfl, hs, ⟨hx, rfl⟩, q⟩ := h
  obtain ⟨its, rv, hl, hz⟩ := I.list hs
  obtain ⟨u, rfl, ru⟩ := vals1 r
  obtain rfl : u = Value.ref a := ru
  have hlen := rv.length
  have e0 : PySem.W.EachIs (fun v x => RelV x v) its xs := each_vals rv
  have mem : PySem.W.EachIs (fun v (x : V) => ∃ as, Reads s.heap v (dM (kM H x)) as) its xs := by
    refine PySem.W.EachIs.of_zip (by omega) fun p hp => ?_
    exact Dp.reads I _ _ _ (dp_M (hx p.2 (List.of_mem_zip hp).2)) (e0.zip p hp)
  refine PySem.W.sorted_data (s := s) (β := V) (R := fun v x => RelV x v) (enc := fun x => dM (kM H x)) hl.isList e0 mem (PySem.W.AllAlike.of fun b b' => alike_M _ _) (PySem.W.Sortable.tuples fun b => ⟨_, _, rfl⟩) (by omega) (fun b _ => ?_) fun out ho eo => ?_
  · have : PyData.depth (dM (kM H b)) = 2 := rfl
    omega
  · have ep : (fun b b' : V => PySem.W.dataLe false (fun x => dM (kM H x)) b b') = fun b b' => !lexM (kM H b') (kM H b) := by
      rw [PySem.W.dataLe_eq]
      funext b b'
      show (!PySem.W.dataLt (dM (kM H b')) (dM (kM H b))) = _
      rw [lt_M]
    have hp : (xs.mergeSort (PySem.W.dataLe false (fun x => dM (kM H x)))).Perm xs := List.mergeSort_perm xs _
    have hT : ∀ x ∈ xs.mergeSort (PySem.W.dataLe false (fun x => dM (kM H x))), IsM H x (kM H x) := fun x m => hx x (hp.mem_iff.mp m)
    have hS : ((xs.mergeSort (PySem.W.dataLe false (fun x => dM (kM H x)))).map (kM H)).Pairwise (fun p q => lexM q p = false) := by
      rw [List.pairwise_map]
      have := List.pairwise_mergeSort (le := fun b b' : V => !lexM (kM H b') (kM H b)) (fun x y z h1 h2 => ?_) (fun x y => ?_) xs
      · rw [show PySem.W.dataLe false (fun x => dM (kM H x)) = fun b b' => !lexM (kM H b') (kM H b) from ep]
        exact this.imp fun h => by simpa using h
      · have a1 := lexM_no.mp (by simpa using h1 : lexM (kM H y) (kM H x) = false)
        have a2 := lexM_no.mp (by simpa using h2 : lexM (kM H z) (kM H y) = false)
        have : lexM (kM H z) (kM H x) = false := lexM_no.mpr (by omega)
        simp [this]
      · by_cases c : lexM (kM H y) (kM H x) = true
        · have a1 := lexM_iff.mp c
          have : lexM (kM H x) (kM H y) = false := lexM_no.mpr (by omega)
          simp [this]
        · simp [Bool.not_eq_true _ |>.mp c]
    obtain ⟨n, hn⟩ := sortedAll_at s.heap its (List.toArray out)
    refine ⟨.ref (s.heap.objs.size + 1), upd H (s.heap.objs.size + 1) (.lst (xs.mergeSort (PySem.W.dataLe false (fun x => dM (kM H x))))), I.laid (t' := s.toks) (fun b o e => sortedAll_old e) (Nat.le_succ _) ⟨?_, out, n, vals_each eo, hn⟩, rfl, q _ _ _ ⟨hT, rfl⟩ hS (hp.map (kM H)) (I.hok.fresh (Nat.le_succ _))⟩
    rw [hp.length_eq]
    omega
end
end CB
/-! dicts with int keys, list.pop: readings unfolded -/
namespace CB
open PySem PySem.Spec PyProof.Rows L2
section
variable {K : PySem.W.Frag} {σ : L2.St} {H : Hp} {Q : VK} {td ty tx tv to : TE} {D : Ends}
theorem rd_pop : tBM0 K "list" rPop to σ H Q = to σ H fun x H1 => tyV K "list" x H1 ∧ ∃ l xs y, x = .ref l ∧ H1 l = some (.lst xs) ∧ xs[xs.length - 1]? = some y ∧ Q y (upd H1 l (.lst xs.dropLast)) := by
  show (to σ H fun x H1 => tyV K "list" x H1 ∧ ∃ l xs y, x = V.ref l ∧ ([] : List V) = [] ∧ _) = _
  congr 1
  funext x H1
  simp
theorem rd_dnew : tDNewK σ H Q = ∀ p, H p = none → Q (.ref p) (upd H p (.dK [])) := rfl
theorem rd_dget : tDGet td ty σ H Q = td σ H fun x H1 => ty σ H1 fun y H2 => ∃ a v, x = .ref a ∧ DGet H2 a y (some v) ∧ Q v H2 := rfl
theorem rd_dget2 : tDGet2 td ty tx σ H Q = td σ H fun x H1 => ∃ a, x = .ref a ∧ IsD H1 a ∧ ty σ H1 fun y H2 => tx σ H2 fun z H3 => ∃ o, DGet H3 a y o ∧ Q (o.getD z) H3 := rfl
theorem rd_dput : sDPut td ty tv D σ H = tv σ H fun v H1 => td σ H1 fun x H2 => ty σ H2 fun y H3 => ∃ a H4, x = .ref a ∧ DPut H3 a y v H4 ∧ D.nx σ H4 := rfl
end
/-- a dict of ints by a list of pairs -/
def dI (l : List (Nat × Nat)) : List (Key × V) := l.map fun q => (Sum.inl (q.1 : Int), V.int (q.2 : Int))
def getC (l : List (Nat × Nat)) (p : Nat) : Option Nat := (l.find? fun q => decide (q.1 = p)).map (·.2)
theorem val_dI (l : List (Nat × Nat)) (p : Nat) : valV (dI l) (Sum.inl (p : Int)) = (getC l p).map fun c : Nat => V.int (c : Int) := by
  unfold valV dI getC
  induction l with
  | nil => rfl
  | cons q l ih =>
    rw [List.map_cons, List.find?_cons, List.find?_cons]
    have e : decide ((Sum.inl (q.1 : Int) : Key) = Sum.inl (p : Int)) = decide (q.1 = p) := by
      by_cases c : q.1 = p
      · rw [decide_eq_true c, decide_eq_true (by rw [c])]
      · rw [decide_eq_false c, decide_eq_false (fun z => c (by have := Sum.inl.inj z; omega))]
    show Option.map _ (match decide ((Sum.inl (q.1 : Int) : Key) = Sum.inl (p : Int)) with | true => _ | false => _) = _
    rw [e]
    cases decide (q.1 = p) with
    | true => rfl
    | false => exact ih
/-- one more of p -/
def bumpC (l : List (Nat × Nat)) (p c : Nat) : List (Nat × Nat) := if (l.any fun q => decide (q.1 = p)) = true then l.map (fun q => if q.1 = p then (q.1, c) else q) else l ++ [(p, c)]
theorem put_dI (l : List (Nat × Nat)) (p c : Nat) : putK (dI l) (Sum.inl (p : Int)) (V.int (c : Int)) = dI (bumpC l p c) := by
  have e : ∀ n : Nat, decide ((Sum.inl (n : Int) : Key) = Sum.inl (p : Int)) = decide (n = p) := fun n => by
    by_cases c : n = p
    · rw [decide_eq_true c, decide_eq_true (by rw [c])]
    · rw [decide_eq_false c, decide_eq_false (fun z => c (by have := Sum.inl.inj z; omega))]
  have ea : (dI l).any (fun kv => decide (kv.1 = (Sum.inl (p : Int) : Key))) = l.any fun q => decide (q.1 = p) := by
    unfold dI
    rw [List.any_map]
    congr 1
    funext q
    exact e q.1
  unfold putK bumpC
  rw [ea]
  by_cases h : (l.any fun q => decide (q.1 = p)) = true
  · rw [if_pos h, if_pos h]
    unfold dI
    rw [List.map_map, List.map_map]
    refine List.map_congr_left fun q _ => ?_
    show (if (Sum.inl (q.1 : Int) : Key) = Sum.inl (p : Int) then _ else _) = _
    by_cases c : q.1 = p
    · rw [if_pos (by rw [c])]
      show _ = (fun q : Nat × Nat => ((Sum.inl (q.1 : Int) : Key), V.int (q.2 : Int))) (if q.1 = p then _ else _)
      rw [if_pos c]
    · rw [if_neg (fun z => c (by have := Sum.inl.inj z; omega))]
      show _ = (fun q : Nat × Nat => ((Sum.inl (q.1 : Int) : Key), V.int (q.2 : Int))) (if q.1 = p then _ else _)
      rw [if_neg c]
  · rw [if_neg h, if_neg h]
    unfold dI
    rw [List.map_append]
    rfl
theorem dget_I {H : Hp} {a : Addr} {l : List (Nat × Nat)} {p : Nat} (e : H a = some (.dK (dI l))) : DGet H a (.int (p : Int)) ((getC l p).map fun c : Nat => V.int (c : Int)) := by
  have := DGet.k (k := Sum.inl (p : Int)) e
  rw [val_dI] at this
  exact this
theorem dput_I {H : Hp} {a : Addr} {l : List (Nat × Nat)} {p c : Nat} (e : H a = some (.dK (dI l))) (hl : l.length < sizeLine) : DPut H a (.int (p : Int)) (.int (c : Int)) (upd H a (.dK (dI (bumpC l p c)))) := by
  have := DPut.k (k := Sum.inl (p : Int)) (v := .int (c : Int)) e (by unfold dI; rw [List.length_map]; exact hl)
  rw [put_dI] at this
  exact this
end CB
namespace L31
open PySem PySem.Spec PyProof.Rows L2 CB
def top (i : Nat) : Stmt := PySem.Challenge.pw_classledger_k31_whole_fundamental_discri.main.body.getD i (.Pass ⟨0, 0, 0, 0⟩)
structure Bl (mg : Str → Option Value) : Prop where
  abs : mg "abs" = none
  int : mg "int" = none
  bool : mg "bool" = none
  str : mg "str" = none
  tuple : mg "tuple" = none
  min : mg "min" = none
  range : mg "range" = none
  sorted : mg "sorted" = none
  isinstance : mg "isinstance" = none
  gcd : mg "gcd" = some (.builtin "math.gcd")
  isqrt : mg "isqrt" = some (.builtin "math.isqrt")
  c_BATCH : ∃ t, mg "BATCH" = some (.int 128 t)
  c_BOUND : ∃ t, mg "BOUND" = some (.int 3317044064679887385961981 t)
  c_LARGEST_primes : ∃ t, mg "LARGEST_primes" = some (.int 100000000000000000000 t)
  c_LARGEST_signs : ∃ t, mg "LARGEST_signs" = some (.int 1000000000000 t)
  c_TRIED_TO : ∃ t, mg "TRIED_TO" = some (.int 1000 t)
local macro_rules | `(tactic| walk_at "rd") => `(tactic| simp (maxSteps := 2000000) only [CB.rd_var, CB.rd_C, CB.rd_op, CB.rd_un, CB.rd_I, CB.rd_I0, CB.rd_U, CB.rd_Eq, CB.rd_Ne, CB.rd_test, CB.rd_B, CB.rd_and, CB.rd_or, CB.rd_not, CB.rd_andV, CB.rd_orV, CB.rd_notV, CB.rd_if, CB.rd_chain, CB.rd_chain3,
  CB.rd_next, CB.rd_seq, CB.rd_drop, CB.rd_ret, CB.rd_retN, CB.rd_break, CB.rd_cont, CB.rd_ifS, CB.rd_asg, CB.rd_name, CB.rd_gsub, CB.rd_gtup, CB.rd_gcons, CB.rd_gnil, CB.rd_par, CB.rd_aug, CB.rd_ipI, CB.rd_nil, CB.rd_cons, CB.rd_tup, CB.rd_lst, CB.rd_CB, CB.rd_call, CB.rd_callS, CB.rd_ixL, CB.rd_ixT, CB.rd_setL, CB.rd_isqrt, CB.rd_sum, CB.rd_append, CB.rd_forL, CB.rd_forT, CB.rd_forR1, CB.rd_forR2, CB.rd_forR3, CB.rd_lcL, CB.rd_lcT, CB.rd_lcR1, CB.rd_lcR2, CB.rd_yes, CB.rd_sl, CB.rd_noPart, CB.rd_part, CB.rd_slL, CB.rd_wipe0, CB.rd_rep, CB.rd_tupOf, CB.rd_lenS, CB.rd_gcd, CB.rd_wipe1, CB.rd_sorted3, CB.rd_any, CB.rd_all, CB.rd_ext, CB.rd_glst, CB.rd_sortedM, CB.rd_pop, CB.rd_dnew, CB.rd_dget, CB.rd_dget2, CB.rd_dput,
  L2.start, List.map_cons, List.map_nil, List.length_cons, List.length_nil, Nat.reduceAdd, Nat.reduceSub, List.replicate_succ, List.replicate_zero,
  V.int.injEq, V.ref.injEq, V.bl.injEq, V.str.injEq, Option.some.injEq, List.cons.injEq, exists_and_left, exists_eq_left', exists_eq_left, reduceCtorEq, false_and, and_false, or_false, false_or, exists_false, exists_const, and_assoc, true_and, and_true,
  CB.scal_int, CB.scal_str, CB.dec_ii, CB.ite_dec, CB.ite_ndec, List.getElem?_cons_zero, List.getElem?_cons_succ, List.set_cons_zero, List.set_cons_succ, List.append_nil, List.cons_append, List.nil_append, if_true, if_false, Bool.false_eq_true, Bool.not_true, Bool.not_false, CB.K_nox, CB.K_cxOf, eq_self])
local macro_rules | `(tactic| walk_at "rs") => `(tactic| simp (maxSteps := 2000000) only [CB.rd_var, CB.rd_C, CB.rd_op, CB.rd_un, CB.rd_I, CB.rd_I0, CB.rd_U, CB.rd_Eq, CB.rd_Ne, CB.rd_test, CB.rd_B, CB.rd_and, CB.rd_or, CB.rd_not, CB.rd_andV, CB.rd_orV, CB.rd_notV, CB.rd_if, CB.rd_chain, CB.rd_chain3,
  CB.rd_next, CB.rd_drop, CB.rd_ret, CB.rd_retN, CB.rd_break, CB.rd_cont, CB.rd_ifS, CB.rd_asg, CB.rd_name, CB.rd_gsub, CB.rd_gtup, CB.rd_gcons, CB.rd_gnil, CB.rd_par, CB.rd_aug, CB.rd_ipI, CB.rd_nil, CB.rd_cons, CB.rd_tup, CB.rd_lst, CB.rd_CB, CB.rd_call, CB.rd_callS, CB.rd_ixL, CB.rd_ixT, CB.rd_setL, CB.rd_isqrt, CB.rd_sum, CB.rd_append, CB.rd_forL, CB.rd_forT, CB.rd_forR1, CB.rd_forR2, CB.rd_forR3, CB.rd_lcL, CB.rd_lcT, CB.rd_lcR1, CB.rd_lcR2, CB.rd_yes, CB.rd_sl, CB.rd_noPart, CB.rd_part, CB.rd_slL, CB.rd_wipe0, CB.rd_rep, CB.rd_tupOf, CB.rd_lenS, CB.rd_gcd, CB.rd_wipe1, CB.rd_sorted3, CB.rd_any, CB.rd_all, CB.rd_ext, CB.rd_glst, CB.rd_sortedM, CB.rd_pop, CB.rd_dnew, CB.rd_dget, CB.rd_dget2, CB.rd_dput,
  L2.start, List.map_cons, List.map_nil, List.length_cons, List.length_nil, Nat.reduceAdd, Nat.reduceSub, List.replicate_succ, List.replicate_zero,
  V.int.injEq, V.ref.injEq, V.bl.injEq, V.str.injEq, Option.some.injEq, List.cons.injEq, exists_and_left, exists_eq_left', exists_eq_left, reduceCtorEq, false_and, and_false, or_false, false_or, exists_false, exists_const, and_assoc, true_and, and_true,
  CB.scal_int, CB.scal_str, CB.dec_ii, CB.ite_dec, CB.ite_ndec, List.getElem?_cons_zero, List.getElem?_cons_succ, List.set_cons_zero, List.set_cons_succ, List.append_nil, List.cons_append, List.nil_append, if_true, if_false, Bool.false_eq_true, Bool.not_true, Bool.not_false, CB.K_nox, CB.K_cxOf, eq_self])


section
variable {P : Program} {w : World} {K : PySem.W.Frag} {mg : Str → Option Value} {base : Heap}
/-! ### the draws -/
abbrev s__law_take : Stmt := top 34
theorem sc__law_take : FnScope ["state", "m", "value"] ["state", "m"] (defScope s__law_take) := ⟨rfl, rfl, rfl, by decide +kernel, rfl, by decide +kernel, by decide +kernel⟩

def spTake : Sp := fun vs H Q _ => ∃ (a : Addr) (x y m : Int), vs = [.ref a, .int m] ∧ H a = some (.lst [.int x, .int y]) ∧ 0 < m ∧ m.natAbs.log2 < 9000 ∧
  ∀ v x' y' : Int, 0 ≤ v → v < m → Q (.int v) (upd H a (.lst [.int x', .int y']))
theorem cal_take (D : Dn K mg "_law_take" s__law_take ["state", "m"]) (B : Bl mg) : Cal P w K mg base "_law_take" 1 ["state", "m"] spTake := by
  refine D.cal sc__law_take (fun vs H Q E h => ?_) (fun f cdv A outer s H vs Q E hr h => ?_)
  · obtain ⟨a, x, y, m, rfl, _⟩ := h
    rfl
  · obtain ⟨a, x, y, m, rfl, ha, hm, hz, q⟩ := h
    refine ⟨_, (pss_cons (ps_if (pt_cmpR op_gt (pe_ix ix_list (pv 0) pe_int (fun _ _ => rfl)) pe_int (nomark _)) (pss_cons (ps_set (i := 2) sc__law_take.nd rfl (Or.inl rfl) (pe_op op_mod (pe_callTy call_int1 rfl B.int boot_int (pa_cons (pe_ix ix_list (pv 0) pe_int (fun _ _ => rfl)) pa_nil)) (pv 1)))
  (pss_cons (ps_asg (pe_op op_fdivW (pe_ix ix_list (pv 0) pe_int (fun _ _ => rfl)) (pv 1)) (pg_sub (pv 0) pe_int set_list))
  (pss_one (ps_ret (pv 2))))) pss_nil)
  (pss_cons (ps_asg (pe_op op_mod (pe_callTy call_int1 rfl B.int boot_int (pa_cons (pe_op op_add (pe_op op_mulI (pe_ix ix_list (pv 0) pe_int (fun _ _ => rfl)) pe_int) pe_int) pa_nil)) pe_int) (pg_sub (pv 0) pe_int set_list))
  (pss_one (ps_ret (pe_op op_mod (pe_callTy call_int1 rfl B.int boot_int (pa_cons (pe_op op_fdivW (pe_ix ix_list (pv 0) pe_int (fun _ _ => rfl)) pe_int) pa_nil)) (pv 1)))))), ?_⟩
    walk_at "rd"
    refine ⟨_, SqL.of ha, _, rfl, _, rfl, ite2 (fun h => ?_) (fun h => ?_)⟩
    · refine ⟨_, SqL.of ha, _, rfl, .inl ⟨_, rfl, hm, _, SqL.of ha, _, rfl, _, rfl, ⟨hm, hz⟩, _, ha, _, rfl, ?_⟩⟩
      exact q _ _ _ (Int.emod_nonneg _ (by omega)) (Int.emod_lt_of_pos _ hm)
    · refine ⟨_, SqL.of ha, _, rfl, _, rfl, mulR (by decide), by decide, _, ha, _, rfl, _, SqL.of upd_same, _, rfl, _, rfl, ⟨by decide, by decide +kernel⟩, hm, ?_⟩
      exact q _ _ _ (Int.emod_nonneg _ (by omega)) (Int.emod_lt_of_pos _ hm)
abbrev s__law_state : Stmt := top 33
theorem sc__law_state : FnScope ["script", "seed", "total", "cell"] ["script"] (defScope s__law_state) := ⟨rfl, rfl, rfl, by decide +kernel, rfl, by decide +kernel, by decide +kernel⟩

def spState (K : PySem.W.Frag) : Sp := fun vs H Q _ => ∃ (a : Addr) (ns : List Int), vs = [.ref a] ∧ SqL K H a (ns.map V.int) ∧ ns.length ≤ 63 ∧
  ∀ (p : Addr) (x y : Int) (H' : Hp), Same H H' → H p = none → H' p = some (.lst [.int x, .int y]) → Q (.ref p) H'
theorem cutV63 {ns : List Int} (h : ns.length ≤ 63) : cutV (ns.map V.int) none (some 63) = ns.map V.int := by
  unfold cutV
  rw [HT.sIx_none, show HT.sIx (ns.map V.int).length (ns.map V.int).length (some 63) = min 63 (ns.map V.int).length from HT.sIx_nat _ _ 63, List.length_map, List.drop_zero]
  rw [show min 63 ns.length - 0 = (ns.map V.int).length by rw [List.length_map]; omega, List.take_length]
theorem cal_state (D : Dn K mg "_law_state" s__law_state ["script"]) (B : Bl mg) : Cal P w K mg base "_law_state" 1 ["script"] (spState K) := by
  refine D.cal sc__law_state (fun vs H Q E h => ?_) (fun f cdv A outer s H vs Q E hr h => ?_)
  · obtain ⟨a, ns, rfl, _⟩ := h
    rfl
  · obtain ⟨a, ns, rfl, hS, hl, q⟩ := h
    refine ⟨_, (pss_cons (ps_set (i := 1) sc__law_state.nd rfl (Or.inl rfl) pe_int)
  (pss_cons (ps_set (i := 2) sc__law_state.nd rfl (Or.inl rfl) pe_int)
  (pss_cons (ps_for PassesOwn.never rfl (pi_list (pe_slice sl_list (pv 0) po_none (po_some pe_int))) (pg_name (i := 3) sc__law_state.nd rfl (Or.inl rfl)) (pss_cons (ps_set (i := 1) sc__law_state.nd rfl (Or.inl rfl) (pe_op op_add (pe_op op_mulI (pv 1) pe_int) (pe_callB call_abs rfl B.abs (by decide +kernel) (pa_cons (pv 3) pa_nil))))
  (pss_one (ps_set (i := 2) sc__law_state.nd rfl (Or.inl rfl) (pe_op op_mod (pe_callTy call_int1 rfl B.int boot_int (pa_cons (pe_op op_add (pe_op op_mulI (pv 2) pe_int) (pv 3)) pa_nil)) pe_int)))))
  (pss_one (ps_ret (pe_lst (pa_cons (pv 1) (pa_cons (pv 2) pa_nil)))))))), ?_⟩
    walk_at "rd"
    refine ⟨_, hS, fun c nc => ?_⟩
    rw [cutV63 hl]
    have hc : SqL K (upd H c (.lst (ns.map V.int))) c (ns.map V.int) := SqL.of upd_same
    refine ⟨⟨_, hc⟩, ForL.mk (xs := ns.map V.int) (fun _ σ H' => ∃ x y z, σ = [some (.ref a), some (.int x), some (.int y), z] ∧ H' = upd H c (.lst (ns.map V.int))) ⟨_, _, _, rfl, rfl⟩ ?_ ?_ ?_⟩
    · rintro i σ H' _ ⟨x, y, z, rfl, rfl⟩
      exact hc
    · rintro i v σ H' hv ⟨x, y, z, rfl, rfl⟩
      rw [List.getElem?_map] at hv
      obtain ⟨n, _, rfl⟩ := Option.map_eq_some_iff.mp hv
      walk_at "rd"
      exact ⟨mulR (by decide), mulR (by decide), by decide, _, rfl⟩
    · rintro σ H' ⟨x, y, z, rfl, rfl⟩
      walk_at "rd"
      refine ⟨by decide, fun p np => q p x y _ ((same_upd nc).trans (same_upd np)) ((same_upd nc).free np) upd_same⟩
/-! ### kinds of values -/
def kinds : List String := ["int", "bool", "NoneType", "str", "tuple", "list"]
theorem kit_k {T c : String} (hT : T ∈ kinds) (hc : c ∈ ["int", "bool", "str", "tuple"]) : kitB T c = some (T == c || (T == "bool" && c == "int")) := by
  unfold kinds at hT
  simp only [List.mem_cons, List.not_mem_nil, or_false] at hT hc
  rcases hT with rfl | rfl | rfl | rfl | rfl | rfl <;> rcases hc with rfl | rfl | rfl | rfl <;> decide +kernel
abbrev s_is_integer : Stmt := top 6
theorem sc_is_integer : FnScope ["value"] ["value"] (defScope s_is_integer) := ⟨rfl, rfl, rfl, by decide +kernel, rfl, by decide +kernel, by decide +kernel⟩

def spInt (K : PySem.W.Frag) : Sp := fun vs H Q _ => ∃ (v : V) (T : String), vs = [v] ∧ TyX K H v (.type T) ∧ T ∈ kinds ∧ Q (.bl (T == "int")) H
theorem cal_is_integer (D : Dn K mg "is_integer" s_is_integer ["value"]) (B : Bl mg) : Cal P w K mg base "is_integer" 1 ["value"] (spInt K) := by
  refine D.cal sc_is_integer (fun vs H Q E h => ?_) (fun f cdv A outer s H vs Q E hr h => ?_)
  · obtain ⟨v, T, rfl, _⟩ := h
    rfl
  · obtain ⟨v, T, rfl, ty, hT, q⟩ := h
    refine ⟨_, (pss_one (ps_ret (pe_and (pe_callB call_isi rfl B.isinstance (by decide +kernel) (pa_cons (pv 0) (pa_cons (pe_bltn (v := .ty "int") rfl B.int boot_int rfl) pa_nil))) (pe_one (pe_not (pe_callB call_isi rfl B.isinstance (by decide +kernel) (pa_cons (pv 0) (pa_cons (pe_bltn (v := .ty "bool") rfl B.bool boot_bool rfl) pa_nil)))))))), ?_⟩
    walk_at "rd"
    refine isi_mk ty (kit_k hT (by simp)) ⟨_, rfl, ite2 (fun h => ?_) (fun h => ?_)⟩
    · refine isi_mk ty (kit_k hT (by simp)) ⟨_, rfl, ?_⟩
      rw [show (!(T == "bool" || (T == "bool" && "bool" == "int"))) = (T == "int") from ?_]
      · exact q
      · unfold kinds at hT
        simp only [List.mem_cons, List.not_mem_nil, or_false] at hT
        rcases hT with rfl | rfl | rfl | rfl | rfl | rfl <;> revert h <;> decide +kernel
    · rw [show false = (T == "int") from ?_]
      · exact q
      · unfold kinds at hT
        simp only [List.mem_cons, List.not_mem_nil, or_false] at hT
        rcases hT with rfl | rfl | rfl | rfl | rfl | rfl <;> revert h <;> decide +kernel
abbrev s__law_whole : Stmt := top 37
theorem sc__law_whole : FnScope ["value"] ["value"] (defScope s__law_whole) := ⟨rfl, rfl, rfl, by decide +kernel, rfl, by decide +kernel, by decide +kernel⟩

theorem cal_whole (D : Dn K mg "_law_whole" s__law_whole ["value"]) (B : Bl mg) : Cal P w K mg base "_law_whole" 1 ["value"] (spInt K) := by
  refine D.cal sc__law_whole (fun vs H Q E h => ?_) (fun f cdv A outer s H vs Q E hr h => ?_)
  · obtain ⟨v, T, rfl, _⟩ := h
    rfl
  · obtain ⟨v, T, rfl, ty, hT, q⟩ := h
    refine ⟨_, (pss_one (ps_ret (pe_and (pe_callB call_isi rfl B.isinstance (by decide +kernel) (pa_cons (pv 0) (pa_cons (pe_bltn (v := .ty "int") rfl B.int boot_int rfl) pa_nil))) (pe_one (pe_not (pe_callB call_isi rfl B.isinstance (by decide +kernel) (pa_cons (pv 0) (pa_cons (pe_bltn (v := .ty "bool") rfl B.bool boot_bool rfl) pa_nil)))))))), ?_⟩
    walk_at "rd"
    refine isi_mk ty (kit_k hT (by simp)) ⟨_, rfl, ite2 (fun h => ?_) (fun h => ?_)⟩
    · refine isi_mk ty (kit_k hT (by simp)) ⟨_, rfl, ?_⟩
      rw [show (!(T == "bool" || (T == "bool" && "bool" == "int"))) = (T == "int") from ?_]
      · exact q
      · unfold kinds at hT
        simp only [List.mem_cons, List.not_mem_nil, or_false] at hT
        rcases hT with rfl | rfl | rfl | rfl | rfl | rfl <;> revert h <;> decide +kernel
    · rw [show false = (T == "int") from ?_]
      · exact q
      · unfold kinds at hT
        simp only [List.mem_cons, List.not_mem_nil, or_false] at hT
        rcases hT with rfl | rfl | rfl | rfl | rfl | rfl <;> revert h <;> decide +kernel
end

section
variable {P : Program} {w : World} {K : PySem.W.Frag} {mg : Str → Option Value} {base : Heap} {CM CR : Addr}
/-! ### values of any kind, told by the heap -/
/-- tuples are kept, and all lists but the one at st -/
def Kp (st : Addr) (H H' : Hp) : Prop := (∀ b us, H b = some (.tup us) → H' b = some (.tup us)) ∧ ∀ b us, b ≠ st → H b = some (.lst us) → H' b = some (.lst us)
/-- all but the list at st is kept -/
def But (st : Addr) (H H' : Hp) : Prop := ∀ b o, b ≠ st → H b = some o → H' b = some o
theorem But.refl {st : Addr} {H : Hp} : But st H H := fun _ _ _ e => e
theorem But.trans {st : Addr} {H H1 H2 : Hp} (a : But st H H1) (b : But st H1 H2) : But st H H2 := fun c o n e => b c o n (a c o n e)
theorem But.same {st : Addr} {H H1 H2 : Hp} (a : But st H H1) (b : Same H1 H2) : But st H H2 := fun c o n e => b c o (a c o n e)
theorem But.of {st : Addr} {H H1 : Hp} (b : Same H H1) : But st H H1 := fun c o n e => b c o e
theorem But.upd {st : Addr} {H H1 : Hp} {o : HO} (a : But st H H1) : But st H (upd H1 st o) := fun c o n e => by
  rw [upd_ne n]
  exact a c o n e
theorem Kp.refl {st : Addr} {H : Hp} : Kp st H H := ⟨fun _ _ e => e, fun _ _ _ e => e⟩
theorem Kp.of {st : Addr} {H H' : Hp} (s : Same H H') : Kp st H H' := ⟨fun _ _ e => s _ _ e, fun _ _ _ e => s _ _ e⟩
theorem But.kp {st : Addr} {H H' : Hp} {l : List V} (s : But st H H') (hs : H st = some (.lst l)) : Kp st H H' := ⟨fun _ _ e => s _ _ (ne_of e hs (by intro z; cases z)) e, fun _ _ n e => s _ _ n e⟩
theorem Kp.trans {st : Addr} {H H1 H2 : Hp} (a : Kp st H H1) (b : Kp st H1 H2) : Kp st H H2 := ⟨fun _ _ e => b.1 _ _ (a.1 _ _ e), fun _ _ n e => b.2 _ _ n (a.2 _ _ n e)⟩
def kdV : V → String
  | .bl _ => "bool"
  | .non => "NoneType"
  | .str _ => "str"
  | _ => "int"
def flV : V → Bool
  | .int _ => true
  | .bl _ => true
  | .non => true
  | .str _ => true
  | _ => false
/-- v is of the kind T -/
def KdH (st : Addr) (H : Hp) (v : V) (T : String) : Prop := (flV v = true ∧ T = kdV v) ∨ ∃ p, v = .ref p ∧ ((p ≠ st ∧ T = "list" ∧ ∃ l, H p = some (.lst l)) ∨ (T = "tuple" ∧ ∃ l, H p = some (.tup l)))
theorem KdH.ty {st : Addr} {H : Hp} {v : V} {T : String} (h : KdH st H v T) : TyX K H v (.type T) ∧ T ∈ kinds := by
  rcases h with ⟨hf, rfl⟩ | ⟨p, rfl, ⟨_, rfl, l, e⟩ | ⟨rfl, l, e⟩⟩
  · cases v with
    | int n => exact ⟨.base (.int _), by show "int" ∈ kinds; decide⟩
    | bl b => exact ⟨.base (.bl _), by show "bool" ∈ kinds; decide⟩
    | non => exact ⟨.base .non, by show "NoneType" ∈ kinds; decide⟩
    | str s => exact ⟨.base (.str _), by show "str" ∈ kinds; decide⟩
    | _ => cases hf
  · exact ⟨.base (.lst e), by decide⟩
  · exact ⟨.base (.tup e), by decide⟩
theorem KdH.kp {st : Addr} {H H' : Hp} {v : V} {T : String} (s : Kp st H H') (h : KdH st H v T) : KdH st H' v T := by
  rcases h with h | ⟨p, rfl, ⟨n, rfl, l, e⟩ | ⟨rfl, l, e⟩⟩
  · exact .inl h
  · exact .inr ⟨p, rfl, .inl ⟨n, rfl, l, s.2 _ _ n e⟩⟩
  · exact .inr ⟨p, rfl, .inr ⟨rfl, l, s.1 _ _ e⟩⟩
def ItsH (st : Addr) (H : Hp) (xs : List V) (ts : List String) : Prop := ts.length = xs.length ∧ ∀ (i : Nat) (x : V) (t : String), xs[i]? = some x → ts[i]? = some t → KdH st H x t
theorem ItsH.kp {st : Addr} {H H' : Hp} {xs : List V} {ts : List String} (s : Kp st H H') (h : ItsH st H xs ts) : ItsH st H' xs ts := ⟨h.1, fun i x t hx ht => (h.2 i x t hx ht).kp s⟩
theorem itsH_flat {st : Addr} {H : Hp} {xs : List V} (h : xs.all flV = true) : ItsH st H xs (xs.map kdV) := by
  refine ⟨List.length_map _, fun i x t hx ht => ?_⟩
  rw [List.getElem?_map, hx] at ht
  cases ht
  exact .inl ⟨List.all_eq_true.mp h x (List.mem_of_getElem? hx), rfl⟩
theorem itsH_one {st : Addr} {H : Hp} {p : Addr} {xs : List V} (h : H p = some (.tup xs)) : ItsH st H [V.ref p] ["tuple"] := by
  refine ⟨rfl, fun i x t hx ht => ?_⟩
  match i, hx, ht with
  | 0, hx, ht =>
    cases hx
    cases ht
    exact .inr ⟨p, rfl, .inr ⟨rfl, _, h⟩⟩
  | n + 1, hx, ht => simp at hx
/-- no row of n integers -/
def BadH (n : Nat) (st : Addr) (H : Hp) (v : V) : Prop := (∃ T, KdH st H v T ∧ (T == "tuple") = false) ∨ ∃ (p : Addr) (xs : List V) (ts : List String), v = .ref p ∧ H p = some (.tup xs) ∧ ItsH st H xs ts ∧ xs.length < 1000 ∧ (xs.length ≠ n ∨ ts.all (· == "int") = false)
theorem BadH.kp {n : Nat} {st : Addr} {H H' : Hp} {v : V} (s : Kp st H H') (h : BadH n st H v) : BadH n st H' v := by
  rcases h with ⟨T, h, e⟩ | ⟨p, xs, ts, rfl, hp, hI, hl, hb⟩
  · exact .inl ⟨T, h.kp s, e⟩
  · exact .inr ⟨p, xs, ts, rfl, s.1 _ _ hp, hI.kp s, hl, hb⟩
end

/-! ### whole roots -/
def isq (n : Int) : Int := ((Float64.isqrt n.toNat : Nat) : Int)
theorem isq_nn (n : Int) : 0 ≤ isq n := Int.natCast_nonneg _
theorem isq_le {n : Int} (h : 0 ≤ n) : isq n * isq n ≤ n := by
  have a := (isqrt_spec n.toNat).1
  have b : ((Float64.isqrt n.toNat * Float64.isqrt n.toNat : Nat) : Int) ≤ ((n.toNat : Nat) : Int) := Int.ofNat_le.mpr a
  rw [Int.natCast_mul] at b
  unfold isq
  omega
theorem isq_lt {n : Int} (h : 0 ≤ n) : n < (isq n + 1) * (isq n + 1) := by
  have a := (isqrt_spec n.toNat).2
  have b : ((n.toNat : Nat) : Int) < (((Float64.isqrt n.toNat + 1) * (Float64.isqrt n.toNat + 1) : Nat) : Int) := Int.ofNat_lt.mpr a
  rw [Int.natCast_mul, Int.natCast_add] at b
  unfold isq
  have e : ((1 : Nat) : Int) = 1 := rfl
  rw [e] at b
  omega
theorem sq_lt {r s : Int} (hr : 0 ≤ r) (h : r * r < (s + 1) * (s + 1)) (hs : 0 ≤ s) : r ≤ s := by
  rcases Int.lt_or_le s r with q | q
  · have a : (s + 1) * (s + 1) ≤ r * r := Int.mul_le_mul (by omega) (by omega) (by omega) hr
    omega
  · exact q
theorem isq_uniq {n r : Int} (hr : 0 ≤ r) (h1 : r * r ≤ n) (h2 : n < (r + 1) * (r + 1)) : isq n = r := by
  have hn : 0 ≤ n := Int.le_trans (Int.mul_nonneg hr hr) h1
  have a := sq_lt hr (Int.lt_of_le_of_lt h1 (isq_lt hn)) (isq_nn n)
  have b := sq_lt (isq_nn n) (Int.lt_of_le_of_lt (isq_le hn) h2) hr
  omega
theorem isq_iff {n a : Int} (hn : 0 ≤ n) (ha : 0 ≤ a) : a * a ≤ n ↔ a ≤ isq n := by
  refine ⟨fun h => sq_lt ha (Int.lt_of_le_of_lt h (isq_lt hn)) (isq_nn n), fun h => ?_⟩
  exact Int.le_trans (Int.mul_le_mul h h ha (isq_nn n)) (isq_le hn)
theorem isq_self {n : Int} (h0 : 0 ≤ n) (h : n < 2) : isq n = n := by
  have e : n = 0 ∨ n = 1 := by omega
  rcases e with rfl | rfl
  · exact isq_uniq (by omega) (by omega) (by omega)
  · exact isq_uniq (by omega) (by omega) (by omega)
theorem isq_bd {n c : Int} (hn : 0 ≤ n) (hc : 0 ≤ c) (h : n < (c + 1) * (c + 1)) : isq n ≤ c := sq_lt (isq_nn n) (Int.lt_of_le_of_lt (isq_le hn) h) hc
/-- a bound that omega doesn't read -/
def BIG : Int := 2 ^ 3000
theorem BIG_pos : 1000000000000 < BIG := by decide +kernel
theorem BIG_big : BIG < 2 ^ 13000 := by decide +kernel
theorem bigAbs {i : Int} (h1 : -(16 * BIG) < i) (h2 : i < 16 * BIG) : i.natAbs < 2 ^ 3004 := by
  have e : (16 * BIG : Int) = ((2 ^ 3004 : Nat) : Int) := by decide +kernel
  rw [e] at h1 h2
  omega
theorem mulBig {i j : Int} (h1 : -(16 * BIG) < i) (h2 : i < 16 * BIG) (h3 : -(16 * BIG) < j) (h4 : j < 16 * BIG) : IntMulOk i j :=
  (wide_mul (bigAbs h1 h2) (bigAbs h3 h4) (by decide) (by decide) (by decide)).ok
theorem low_le {a n : Int} (h0 : 0 ≤ a) (h : a * a ≤ n) : a ≤ n := by
  rcases Int.lt_or_le 0 a with q | q
  · have := Int.mul_le_mul (show 1 ≤ a by omega) (Int.le_refl a) h0 h0
    omega
  · have e : a = 0 := by omega
    rw [e] at h
    omega
theorem small_size {n : Nat} (h : n ≤ 10000000) : n < sizeLine := by rw [PySem.sizeLine_eq]; omega
theorem iabs (i : Int) : (if i < 0 then -i else i) = (i.natAbs : Int) := by
  split <;> omega

section
variable {P : Program} {w : World} {K : PySem.W.Frag} {mg : Str → Option Value} {base : Heap}
abbrev s__law_root : Stmt := top 38
theorem sc__law_root : FnScope ["n", "low", "step"] ["n"] (defScope s__law_root) := ⟨rfl, rfl, rfl, by decide +kernel, rfl, by decide +kernel, by decide +kernel⟩

def spLawRoot : Sp := fun vs H Q _ => ∃ n : Int, vs = [.int n] ∧ 0 ≤ n ∧ n < BIG ∧ Q (.int (isq n)) H
theorem half_pow {j : Nat} : (2 ^ (j + 1) : Int) / 2 = 2 ^ j := by
  rw [Int.pow_succ, Int.mul_ediv_cancel _ (by decide)]
theorem cal_law_root (D : Dn K mg "_law_root" s__law_root ["n"]) (B : Bl mg) : Cal P w K mg base "_law_root" 1 ["n"] spLawRoot := by
  refine D.cal sc__law_root (fun vs H Q E h => ?_) (fun f cdv A outer s H vs Q E hr h => ?_)
  · obtain ⟨n, rfl, _⟩ := h
    rfl
  · obtain ⟨n, rfl, h0, h1, q⟩ := h
    have hB := BIG_pos
    refine ⟨_, (pss_cons (ps_if (pt_cmpR op_lt (pv 0) pe_int (nomark _)) (pss_one (ps_ret (pv 0))) pss_nil)
  (pss_cons (ps_set (i := 1) sc__law_root.nd rfl (Or.inl rfl) pe_int)
  (pss_cons (ps_while PassesOwn.never (pt_cmpR op_le (pe_op op_mulI (pv 1) (pv 1)) (pv 0) (nomark _)) (pss_one (ps_set (i := 1) sc__law_root.nd rfl (Or.inl rfl) (pe_op op_mulI pe_int (pv 1)))))
  (pss_cons (ps_set (i := 2) sc__law_root.nd rfl (Or.inl rfl) (pv 1))
  (pss_cons (ps_set (i := 1) sc__law_root.nd rfl (Or.inl rfl) pe_int)
  (pss_cons (ps_while PassesOwn.never (pt_cmpR op_gt (pv 2) pe_int (nomark _)) (pss_cons (ps_if (pt_cmpR op_le (pe_op op_mulI (pe_op op_add (pv 1) (pv 2)) (pe_op op_add (pv 1) (pv 2))) (pv 0) (nomark _)) (pss_one (ps_set (i := 1) sc__law_root.nd rfl (Or.inl rfl) (pe_op op_add (pv 1) (pv 2)))) pss_nil)
  (pss_one (ps_set (i := 2) sc__law_root.nd rfl (Or.inl rfl) (pe_op op_fdivW (pv 2) pe_int)))))
  (pss_one (ps_ret (pv 1))))))))), ?_⟩
    walk_at "rd"
    refine ite2 (fun h => ?_) (fun hn2 => ?_)
    · rw [isq_self h0 h] at q
      exact q
    refine while_w (fun σ H' => ∃ (low : Int) (j : Nat), σ = [some (.int n), some (.int low), none] ∧ H' = H ∧ low = 2 ^ j ∧ low ≤ 2 * n)
      (fun σ _ => match σ with | [_, some (.int low), _] => (2 * n - low).toNat | _ => 0) ⟨1, 0, rfl, rfl, rfl, by omega⟩ ?_
    rintro σ H' ⟨low, j, rfl, rfl, hl, hlb⟩ N hN
    have hpos : 0 < low := by rw [hl]; exact Int.pow_pos (by decide)
    have mo : IntMulOk low low := mulBig (by omega) (by omega) (by omega) (by omega)
    refine ⟨decide (low * low ≤ n), fun Q' q' => ?_, fun hb => ?_, fun hb => ?_⟩
    · walk_at "rd"
      exact ⟨mo, q'⟩
    · have hle := of_decide_eq_true hb
      have hln := low_le (by omega) hle
      walk_at "rd"
      refine ⟨mulL (by decide), hN _ _ ⟨2 * low, j + 1, rfl, rfl, by rw [hl, Int.pow_succ]; omega, by omega⟩ ?_⟩
      show (2 * n - 2 * low).toNat < (2 * n - low).toNat
      omega
    · have hgt : n < low * low := by
        have := of_decide_eq_false hb
        omega
      walk_at "rd"
      refine while_w (fun σ H₁ => ∃ (lo st : Int), σ = [some (.int n), some (.int lo), some (.int st)] ∧ H₁ = H' ∧ 0 ≤ lo ∧ lo * lo ≤ n ∧ st ≤ 2 * n ∧
          ((∃ i : Nat, st = 2 ^ i ∧ n < (lo + 2 * st) * (lo + 2 * st)) ∨ (st = 0 ∧ n < (lo + 1) * (lo + 1))))
        (fun σ _ => match σ with | [_, _, some (.int st)] => st.toNat | _ => 0) ⟨0, low, rfl, rfl, by omega, by omega, hlb, .inl ⟨j, hl, ?_⟩⟩ ?_
      · have : low * low ≤ (0 + 2 * low) * (0 + 2 * low) := Int.mul_le_mul (by omega) (by omega) (by omega) (by omega)
        omega
      rintro σ H₁ ⟨lo, st, rfl, rfl, hlo, hll, hst, hi⟩ N hN
      have hlon := low_le hlo hll
      refine ⟨decide (0 < st), fun Q' q' => ?_, fun hb => ?_, fun hb => ?_⟩
      · walk_at "rd"
        exact q'
      · have hp := of_decide_eq_true hb
        rcases hi with ⟨i, rfl, hu⟩ | ⟨e, _⟩
        · have half : ∀ lo' : Int, 0 ≤ lo' → lo' * lo' ≤ n → n < (lo' + 2 ^ i) * (lo' + 2 ^ i) → N [some (V.int n), some (V.int lo'), some (V.int (2 ^ i / 2))] H₁ := by
            intro lo' g1 g2 g3
            refine hN _ _ ⟨lo', 2 ^ i / 2, rfl, rfl, g1, g2, by omega, ?_⟩ (by show (2 ^ i / 2 : Int).toNat < (2 ^ i : Int).toNat; omega)
            cases i with
            | zero => exact .inr ⟨by decide, g3⟩
            | succ i =>
              refine .inl ⟨i, half_pow, ?_⟩
              rw [half_pow]
              rw [Int.pow_succ] at g3
              rw [show 2 * (2 : Int) ^ i = 2 ^ i * 2 by omega]
              exact g3
          have mo2 : IntMulOk (lo + 2 ^ i) (lo + 2 ^ i) := mulBig (by omega) (by omega) (by omega) (by omega)
          walk_at "rd"
          refine ⟨mo2, ite2 (fun c => ⟨⟨by decide, by decide +kernel⟩, ?_⟩) (fun c => ⟨⟨by decide, by decide +kernel⟩, ?_⟩)⟩
          · refine half (lo + 2 ^ i) (by omega) c ?_
            rw [show lo + 2 ^ i + 2 ^ i = lo + 2 * 2 ^ i by omega]
            exact hu
          · exact half lo hlo hll (by omega)
        · omega
      · have hp := of_decide_eq_false hb
        walk_at "rd"
        rcases hi with ⟨i, rfl, hu⟩ | ⟨e, hu⟩
        · exact absurd (Int.pow_pos (by decide) : (0 : Int) < 2 ^ i) hp
        · rw [isq_uniq hlo hll hu] at q
          exact q
end

/-! ### discriminants -/
def sqB (n : Int) : Bool := decide (0 ≤ n ∧ isq n * isq n = n)
def discB (n : Int) : Bool := decide (n % 4 = 0 ∨ n % 4 = 1) && !sqB n
theorem isq_neg {n : Int} (h : n < 0) : sqB n = false := decide_eq_false fun z => by omega
theorem isq_big {n : Int} (h0 : 0 ≤ n) (h : n < BIG) : (isq n).natAbs < 2 ^ 3004 := by
  have a := low_le (isq_nn n) (isq_le h0)
  have b := isq_nn n
  have c := BIG_pos
  exact bigAbs (by omega) (by omega)
section
variable {P : Program} {w : World} {K : PySem.W.Frag} {mg : Str → Option Value} {base : Heap} {CM CR : Addr}
abbrev s_is_square : Stmt := top 8
theorem sc_is_square : FnScope ["n"] ["n"] (defScope s_is_square) := ⟨rfl, rfl, rfl, by decide +kernel, rfl, by decide +kernel, by decide +kernel⟩

def spSq : Sp := fun vs H Q _ => ∃ n : Int, vs = [.int n] ∧ n < BIG ∧ Q (.bl (sqB n)) H
theorem cal_is_square (D : Dn K mg "is_square" s_is_square ["n"]) (B : Bl mg) : Cal P w K mg base "is_square" 1 ["n"] spSq := by
  refine D.cal sc_is_square (fun vs H Q E h => ?_) (fun f cdv A outer s H vs Q E hr h => ?_)
  · obtain ⟨n, rfl, _⟩ := h
    rfl
  · obtain ⟨n, rfl, h1, q⟩ := h
    refine ⟨_, (pss_one (ps_ret (pe_and (pe_cmpR op_ge (pv 0) pe_int (nomark _)) (pe_one (pe_cmpR op_eq (pe_op op_powI (pe_callBfun cr_isqrt rfl B.isqrt (pa_cons (pv 0) pa_nil)) pe_int) (pv 0) (nomark _)))))), ?_⟩
    walk_at "rd"
    refine ite2 (fun h0 => ⟨h0, Int.lt_trans h1 BIG_big, powI (n := 3004) (isq_big h0 h1) (by decide) (by decide) (by decide), ?_⟩) (fun h0 => ?_)
    · have e : decide (isq n ^ (2 : Int).toNat = n) = sqB n := by
        unfold sqB
        rw [show (2 : Int).toNat = 2 from rfl, Int.pow_succ, Int.pow_succ, Int.pow_zero, Int.one_mul]
        by_cases c : isq n * isq n = n
        · rw [decide_eq_true c, decide_eq_true ⟨h0, c⟩]
        · rw [decide_eq_false c, decide_eq_false fun z => c z.2]
      show Q (.bl (decide (isq n ^ (2 : Int).toNat = n))) H
      rw [e]
      exact q
    · rw [isq_neg (by omega)] at q
      exact q
abbrev s_is_discriminant : Stmt := top 24
theorem sc_is_discriminant : FnScope ["value"] ["value"] (defScope s_is_discriminant) := ⟨rfl, rfl, rfl, by decide +kernel, rfl, by decide +kernel, by decide +kernel⟩

/-- no integer, or one that is no discriminant -/
def NotD (K : PySem.W.Frag) (H : Hp) (v : V) : Prop := (∃ T, TyX K H v (.type T) ∧ T ∈ kinds ∧ (T == "int") = false) ∨ ∃ n : Int, v = .int n ∧ n < BIG ∧ discB n = false
def spDisc (K : PySem.W.Frag) : Sp := fun vs H Q _ => ∃ v : V, vs = [v] ∧ ((NotD K H v ∧ ∀ H', Same H H' → Q (.bl false) H') ∨ ∃ n : Int, v = .int n ∧ n < BIG ∧ discB n = true ∧ ∀ H', Same H H' → Q (.bl true) H')
theorem in01 (n : Int) : inV (.int (n % 4)) [V.int 0, V.int 1] = decide (n % 4 = 0 ∨ n % 4 = 1) := by
  have e1 : inV (.int (n % 4)) [V.int 0, V.int 1] = ((0 : Int) == n % 4 || ((1 : Int) == n % 4 || false)) := rfl
  rw [e1]
  by_cases c1 : n % 4 = 0
  · simp [c1]
  · by_cases c2 : n % 4 = 1
    · simp [c2]
    · have d1 : ¬ (0 : Int) = n % 4 := fun z => c1 z.symm
      have d2 : ¬ (1 : Int) = n % 4 := fun z => c2 z.symm
      simp [c1, c2, d1, d2]
theorem cal_is_disc (D : Dn K mg "is_discriminant" s_is_discriminant ["value"]) (B : Bl mg) (c_is_integer : Cal P w K mg base "is_integer" 1 ["value"] (spInt K)) (c_is_square : Cal P w K mg base "is_square" 1 ["n"] spSq) :
    Cal P w K mg base "is_discriminant" 2 ["value"] (spDisc K) := by
  refine D.cal sc_is_discriminant (fun vs H Q E h => ?_) (fun f cdv A outer s H vs Q E hr h => ?_)
  · obtain ⟨v, rfl, _⟩ := h
    rfl
  · obtain ⟨v, rfl, h⟩ := h
    refine ⟨_, (pss_one (ps_ret (pe_and (pe_cal c_is_integer (hr.mono (by decide)) rfl (pa_cons (pv 0) pa_nil)) (pe_and (pe_cmpR op_in_seq (pe_op op_mod (pv 0) pe_int) (pe_tup (pa_cons pe_int (pa_cons pe_int pa_nil))) (by rfl)) (pe_one (pe_not (pe_cal c_is_square (hr.mono (by decide)) rfl (pa_cons (pv 0) pa_nil)))))))), ?_⟩
    walk_at "rd"
    have go : ∀ n : Int, n < BIG → (∀ H', Same H H' → Q (.bl (discB n)) H') → spInt K [.int n] H (fun x H1 => ∃ c, x = V.bl c ∧ if c = true then (0 < (4 : Int) ∧ 2 ≤ sizeLine ∧ ∀ p, H1 p = none → rIn K false (V.int (n % 4)) (V.ref p) (upd H1 p (HO.tup [V.int 0, V.int 1])) fun x H' => ∃ c, x = V.bl c ∧ if c = true then spSq [V.int n] H' (fun x H1 => ∃ c, x = V.bl c ∧ Q (V.bl !c) H1) E0 else Q (V.bl false) H') else Q (V.bl false) H1) E0 := by
      intro n hn q
      refine ⟨.int n, "int", rfl, .base (.int n), by decide, true, rfl, ?_⟩
      rw [if_pos rfl]
      refine ⟨by decide, by decide, fun p np => ⟨p, _, rfl, .inr (SqT.of upd_same), rfl, rfl, inV (.int (n % 4)) [V.int 0, V.int 1], rfl, ?_⟩⟩
      have s1 : Same H (upd H p (.tup [V.int 0, V.int 1])) := same_upd np
      have q1 := q _ s1
      rw [in01]
      unfold discB at q1
      refine ite2 (fun c => ?_) (fun c => ?_)
      · rw [c, Bool.true_and] at q1
        exact ⟨n, rfl, hn, _, rfl, q1⟩
      · rw [Bool.not_eq_true] at c
        rw [c, Bool.false_and] at q1
        exact q1
    rcases h with ⟨⟨T, ty, hT, hi⟩ | ⟨n, rfl, hn, hd⟩, q⟩ | ⟨n, rfl, hn, hd, q⟩
    · refine ⟨v, T, rfl, ty, hT, false, by rw [hi], ?_⟩
      rw [if_neg Bool.false_ne_true]
      exact q H (Same.refl H)
    · have g := go n hn (fun H' s => by rw [hd]; exact q H' s)
      walk_at "rd"
      exact g
    · have g := go n hn (fun H' s => by rw [hd]; exact q H' s)
      walk_at "rd"
      exact g
end

section
variable {P : Program} {w : World} {K : PySem.W.Frag} {mg : Str → Option Value} {base : Heap} {CM CR : Addr}
abbrev s_check_discriminant : Stmt := top 25
theorem sc_check_discriminant : FnScope ["D"] ["D"] (defScope s_check_discriminant) := ⟨rfl, rfl, rfl, by decide +kernel, rfl, by decide +kernel, by decide +kernel⟩

def spChk (K : PySem.W.Frag) (CM : Addr) : Sp := fun vs H Q E => ∃ v : V, vs = [v] ∧ ((NotD K H v ∧ ∀ H', Same H H' → E (.ref CM) none H') ∨ ∃ n : Int, v = .int n ∧ n < BIG ∧ discB n = true ∧ ∀ H', Same H H' → Q .non H')
theorem cal_check (D : Dn K mg "check_discriminant" s_check_discriminant ["D"]) (B : Bl mg) (c_is_discriminant : Cal P w K mg base "is_discriminant" 2 ["value"] (spDisc K)) (e_E : ErrI P w K mg base CM CR) :
    CalX P w K mg base "check_discriminant" 3 ["D"] (spChk K CM) := by
  refine D.calX sc_check_discriminant (fun vs H Q E h => ?_) (fun f cdv A outer s H vs Q E hr h => ?_)
  · obtain ⟨v, rfl, _⟩ := h
    rfl
  · obtain ⟨v, rfl, h⟩ := h
    refine ⟨_, (pss_one (ps_if (pt_not (pt_val (pe_cal c_is_discriminant (hr.mono (by decide)) rfl (pa_cons (pv 0) pa_nil)))) (pss_one (ps_mal e_E.m rfl (takes_of rfl rfl rfl rfl) rfl)) pss_nil)), ?_⟩
    walk_at "rd"
    refine ⟨v, rfl, ?_⟩
    rcases h with ⟨hn, q⟩ | ⟨n, rfl, hn, hd, q⟩
    · exact .inl ⟨hn, fun H' sm => ⟨false, rfl, by rw [if_pos (by decide)]; exact q H' sm⟩⟩
    · exact .inr ⟨n, rfl, hn, hd, fun H' sm => ⟨true, rfl, by rw [if_neg (by decide)]; exact q H' sm⟩⟩
end

/-! ### primes, rough numbers, squares in a number -/
def Rough (m : Nat) : Prop := ∀ e, 2 ≤ e → e ≤ 1000 → ¬ e ∣ m
def Prm (p : Nat) : Prop := 2 ≤ p ∧ ∀ e, 2 ≤ e → e < p → ¬ e ∣ p
def Smo (n : Nat) : Prop := ∀ m, m ∣ n → Rough m → m ≤ 1000000
def SqF (n : Nat) : Prop := ∀ q, 2 ≤ q → ¬ q * q ∣ n
theorem Prm.gcd {p a : Nat} (h : Prm p) : Nat.gcd p a = 1 ∨ p ∣ a := by
  have d := Nat.gcd_dvd_left p a
  have l := Nat.le_of_dvd (by have := h.1; omega) d
  rcases Nat.lt_or_ge (Nat.gcd p a) 2 with c | c
  · have : 0 < Nat.gcd p a := Nat.gcd_pos_of_pos_left _ (by have := h.1; omega)
    left; omega
  · rcases Nat.lt_or_ge (Nat.gcd p a) p with c2 | c2
    · exact absurd d (h.2 _ c c2)
    · right
      have e : Nat.gcd p a = p := by omega
      rw [← e]
      exact Nat.gcd_dvd_right p a
theorem Prm.euc {p a b : Nat} (h : Prm p) (d : p ∣ a * b) : p ∣ a ∨ p ∣ b := by
  rcases h.gcd (a := a) with g | g
  · exact .inr (Nat.Coprime.dvd_of_dvd_mul_left g d)
  · exact .inl g
theorem Prm.eq_of_dvd {p q : Nat} (h : Prm p) (h' : Prm q) (d : p ∣ q) : p = q := by
  have l := Nat.le_of_dvd (by have := h'.1; omega) d
  rcases Nat.lt_or_ge p q with c | c
  · exact absurd d (h'.2 p h.1 c)
  · omega
theorem ex_prm {n : Nat} (h : 2 ≤ n) : ∃ p, Prm p ∧ p ∣ n := by
  induction n using Nat.strongRecOn with
  | ind n ih =>
    rcases Classical.em (∃ e, 2 ≤ e ∧ e < n ∧ e ∣ n) with ⟨e, e2, en, ed⟩ | c
    · obtain ⟨p, hp, pd⟩ := ih e en e2
      exact ⟨p, hp, Nat.dvd_trans pd ed⟩
    · exact ⟨n, ⟨h, fun e e2 en ed => c ⟨e, e2, en, ed⟩⟩, Nat.dvd_refl n⟩
theorem rough_dvd {m n : Nat} (h : Rough n) (d : m ∣ n) : Rough m := fun e e2 e3 z => h e e2 e3 (Nat.dvd_trans z d)
theorem rough_mul {m n c : Nat} (h : Rough m) (c1 : 1 ≤ c) (c2 : c ≤ 1000) (d : m ∣ n * c) : m ∣ n := by
  have g : Nat.Coprime m c := by
    have dg := Nat.gcd_dvd_left m c
    have dc := Nat.le_of_dvd (by omega) (Nat.gcd_dvd_right m c)
    have : 0 < Nat.gcd m c := Nat.gcd_pos_of_pos_right _ (by omega)
    rcases Nat.lt_or_ge (Nat.gcd m c) 2 with z | z
    · show Nat.gcd m c = 1
      omega
    · exact absurd dg (h _ z (by omega))
  exact Nat.Coprime.dvd_of_dvd_mul_right g d
/-- a number without small divisors is a prime -/
theorem prm_of {n : Nat} (h : 2 ≤ n) (hd : ∀ e, 2 ≤ e → e * e ≤ n → ¬ e ∣ n) : Prm n := by
  refine ⟨h, fun e e2 en ed => ?_⟩
  obtain ⟨c, rfl⟩ := ed
  have c1 : 2 ≤ c := by
    rcases Nat.lt_or_ge c 2 with z | z
    · have : c = 0 ∨ c = 1 := by omega
      rcases this with rfl | rfl <;> omega
    · exact z
  rcases Nat.le_total e c with l | l
  · exact hd e e2 (Nat.mul_le_mul_left e l) (Nat.dvd_mul_right e c)
  · exact hd c c1 (Nat.mul_le_mul_right c l) (Nat.dvd_mul_left c e)
/-- what least_divisor tells, up to 1000 -/
def LD (n r : Nat) : Prop := (2 ≤ r ∧ r ∣ n ∧ ∀ e, 2 ≤ e → e < r → ¬ e ∣ n) ∨ (r = n ∧ ∀ e, 2 ≤ e → e ≤ 1000 → e * e ≤ n → ¬ e ∣ n)
theorem LD.prm {n r : Nat} (h : LD n r) (hr : r ≤ 1000) (hn : 1 < n) : Prm r ∧ r ∣ n ∧ ∀ e, 2 ≤ e → e ∣ n → r ≤ e := by
  rcases h with ⟨r2, rd, hm⟩ | ⟨rfl, hm⟩
  · exact ⟨⟨r2, fun e e2 er z => hm e e2 er (Nat.dvd_trans z rd)⟩, rd, fun e e2 z => by
      rcases Nat.lt_or_ge e r with c | c
      · exact absurd z (hm e e2 c)
      · exact c⟩
  · have p := prm_of (n := r) hn fun e e2 ee z => hm e e2 (by
      have : e * 1 ≤ e * e := Nat.mul_le_mul_left e (by omega)
      omega) ee z
    refine ⟨p, Nat.dvd_refl r, fun e e2 z => ?_⟩
    rcases Nat.lt_or_ge e r with c | c
    · exact absurd z (p.2 e e2 c)
    · exact c
theorem LD.rest {n r : Nat} (h : LD n r) (hr : 1000 < r) (hn : 0 < n) (hs : ∀ m, m ∣ n → Rough m → m ≤ 1000000) : Prm n ∧ n ≤ 1000000 := by
  have hle : n ≤ 1000000 := by
    rcases Nat.lt_or_ge 1000000 n with z | z
    · refine hs n (Nat.dvd_refl n) fun e e2 e3 d => ?_
      rcases h with ⟨r2, rd, hm⟩ | ⟨rfl, hm⟩
      · exact hm e e2 (by omega) d
      · exact hm e e2 e3 (by
          have := Nat.mul_le_mul e3 e3
          omega) d
    · exact z
  refine ⟨?_, hle⟩
  rcases h with ⟨r2, rd, hm⟩ | ⟨rfl, hm⟩
  · obtain ⟨c, rfl⟩ := rd
    have hc : c = 1 := by
      rcases Nat.lt_or_ge c 2 with z | z
      · have : c ≠ 0 := fun e => by subst e; simp at hn
        omega
      · rcases Nat.lt_or_ge c r with y | y
        · exact absurd (Nat.dvd_mul_left c r) (hm c z y)
        · have := Nat.mul_le_mul (show 1001 ≤ r by omega) (show 1001 ≤ c by omega)
          omega
    subst hc
    rw [Nat.mul_one] at *
    exact ⟨r2, fun e e2 er z => hm e e2 er z⟩
  · exact prm_of (by omega) fun e e2 ee z => hm e e2 (by
      rcases Nat.lt_or_ge 1000 e with y | y
      · have := Nat.mul_le_mul (show 1001 ≤ e by omega) (show 1001 ≤ e by omega)
        omega
      · exact y) ee z
theorem LD.of_prm {n r : Nat} (h : LD n r) (hp : Prm n) : r = n := by
  rcases h with ⟨r2, rd, hm⟩ | ⟨rfl, _⟩
  · have l := Nat.le_of_dvd (by have := hp.1; omega) rd
    rcases Nat.lt_or_ge r n with c | c
    · exact absurd rd (hp.2 r r2 c)
    · omega
  · rfl
/-! ### products -/
def prodL : List Nat → Nat
  | [] => 1
  | p :: ps => p * prodL ps
theorem prodL_app : ∀ a b : List Nat, prodL (a ++ b) = prodL a * prodL b
  | [], b => by show prodL b = 1 * prodL b; omega
  | p :: a, b => by
    show p * prodL (a ++ b) = p * prodL a * prodL b
    rw [prodL_app a b, Nat.mul_assoc]
theorem prodL_pos : ∀ {ps : List Nat}, (∀ p ∈ ps, 2 ≤ p) → 2 ^ ps.length ≤ prodL ps
  | [], _ => by decide
  | p :: ps, h => by
    show 2 ^ (ps.length + 1) ≤ p * prodL ps
    have := prodL_pos (ps := ps) fun q hq => h q (List.mem_cons_of_mem _ hq)
    have h2 := h p List.mem_cons_self
    have := Nat.mul_le_mul h2 this
    rw [Nat.pow_succ]
    omega
/-- counts of primes: pairs -/
def prodC (f : Nat → Nat) : List (Nat × Nat) → Nat
  | [] => 1
  | q :: l => q.1 ^ f q.2 * prodC f l
theorem prodC_app (f : Nat → Nat) : ∀ a b : List (Nat × Nat), prodC f (a ++ b) = prodC f a * prodC f b
  | [], b => by show prodC f b = 1 * prodC f b; omega
  | q :: a, b => by
    show q.1 ^ f q.2 * prodC f (a ++ b) = q.1 ^ f q.2 * prodC f a * prodC f b
    rw [prodC_app f a b, Nat.mul_assoc]
theorem prodC_split (l : List (Nat × Nat)) : prodC (fun c => c) l = prodC (fun c => c / 2) l * prodC (fun c => c / 2) l * prodC (fun c => c % 2) l := by
  induction l with
  | nil => rfl
  | cons q l ih =>
    show q.1 ^ q.2 * prodC (fun c => c) l = q.1 ^ (q.2 / 2) * prodC (fun c => c / 2) l * (q.1 ^ (q.2 / 2) * prodC (fun c => c / 2) l) * (q.1 ^ (q.2 % 2) * prodC (fun c => c % 2) l)
    have e : q.1 ^ q.2 = q.1 ^ (q.2 / 2) * q.1 ^ (q.2 / 2) * q.1 ^ (q.2 % 2) := by
      rw [← Nat.pow_add, ← Nat.pow_add]
      congr 1
      omega
    rw [ih, e]
    grind
theorem prm_prodC {p : Nat} (hp : Prm p) : ∀ {l : List (Nat × Nat)}, (∀ q ∈ l, Prm q.1) → p ∣ prodC (fun c => c % 2) l → ∃ q ∈ l, q.1 = p
  | [], _, d => by
    have : p ∣ 1 := d
    have := Nat.le_of_dvd (by decide) this
    have := hp.1
    omega
  | q :: l, h, d => by
    have d : p ∣ q.1 ^ (q.2 % 2) * prodC (fun c => c % 2) l := d
    rcases hp.euc d with z | z
    · have c : q.2 % 2 = 0 ∨ q.2 % 2 = 1 := by omega
      rcases c with c | c
      · rw [c, Nat.pow_zero] at z
        have := Nat.le_of_dvd (by decide) z
        have := hp.1
        omega
      · rw [c, Nat.pow_one] at z
        exact ⟨q, List.mem_cons_self, (hp.eq_of_dvd (h q List.mem_cons_self) z).symm⟩
    · obtain ⟨r, hr, e⟩ := prm_prodC hp (fun q hq => h q (List.mem_cons_of_mem _ hq)) z
      exact ⟨r, List.mem_cons_of_mem _ hr, e⟩
theorem sqF_one : SqF 1 := fun q q2 d => by
  have := Nat.le_of_dvd (by decide) d
  have := Nat.mul_le_mul q2 q2
  omega
theorem sqF_mul {p m : Nat} (hp : Prm p) (hm : SqF m) (hd : ¬ p ∣ m) : SqF (p * m) := by
  intro q q2 d
  obtain ⟨r, hr, rq⟩ := ex_prm q2
  have d : r * r ∣ p * m := Nat.dvd_trans (Nat.mul_dvd_mul rq rq) d
  rcases hr.gcd (a := p) with g | g
  · have c : Nat.Coprime (r * r) p := Nat.Coprime.mul_left g g
    exact hm r hr.1 (Nat.Coprime.dvd_of_dvd_mul_left c d)
  · have e := hr.eq_of_dvd hp g
    subst e
    exact hd (Nat.dvd_of_mul_dvd_mul_left (by have := hr.1; omega) d)
theorem sqF_prodC : ∀ {l : List (Nat × Nat)}, (∀ q ∈ l, Prm q.1) → l.Pairwise (fun x y => x.1 < y.1) → SqF (prodC (fun c => c % 2) l)
  | [], _, _ => sqF_one
  | q :: l, h, hs => by
    obtain ⟨h1, h2⟩ := List.pairwise_cons.mp hs
    have ih := sqF_prodC (fun x hx => h x (List.mem_cons_of_mem _ hx)) h2
    show SqF (q.1 ^ (q.2 % 2) * prodC (fun c => c % 2) l)
    have c : q.2 % 2 = 0 ∨ q.2 % 2 = 1 := by omega
    rcases c with c | c
    · rw [c, Nat.pow_zero, Nat.one_mul]
      exact ih
    · rw [c, Nat.pow_one]
      refine sqF_mul (h q List.mem_cons_self) ih fun d => ?_
      obtain ⟨r, hr, e⟩ := prm_prodC (h q List.mem_cons_self) (fun x hx => h x (List.mem_cons_of_mem _ hx)) d
      have := h1 r hr
      omega
/-! ### fundamental discriminants -/
def Fund (d : Int) : Prop := d % 4 < 2 ∧ d ≠ 0 ∧ ∀ j : Nat, 2 ≤ j → ((j * j : Nat) : Int) ∣ d → ¬ d / ((j * j : Nat) : Int) % 4 < 2
theorem sqd {j : Nat} {d : Int} (h : ((j * j : Nat) : Int) ∣ d) : j * j ∣ d.natAbs := by
  have := Int.natAbs_dvd_natAbs.mpr h
  exact this
theorem fund_one {d : Int} (h : SqF d.natAbs) (h4 : d % 4 < 2) : Fund d :=
  ⟨h4, fun z => by subst z; exact h 2 (by decide) (by decide), fun j j2 jd => absurd (sqd jd) (h j j2)⟩
theorem fund_four {d : Int} (h : SqF d.natAbs) (h4 : 2 ≤ d % 4) : Fund (4 * d) := by
  refine ⟨by omega, fun z => by
    have : d = 0 := by omega
    subst this
    exact h 2 (by decide) (by decide), fun j j2 jd q => ?_⟩
  have nd := sqd jd
  rw [Int.natAbs_mul] at nd
  have nd : j * j ∣ 4 * d.natAbs := nd
  rcases Nat.mod_two_eq_zero_or_one j with c | c
  · obtain ⟨i, rfl⟩ : ∃ i, j = 2 * i := ⟨j / 2, by omega⟩
    have e : 2 * i * (2 * i) = 4 * (i * i) := by grind
    rw [e] at nd q
    have nd := Nat.dvd_of_mul_dvd_mul_left (by decide) nd
    rcases Nat.lt_or_ge i 2 with z | z
    · have : i = 1 := by omega
      subst this
      have e2 : 4 * d / ((4 * (1 * 1) : Nat) : Int) = d := by
        show 4 * d / 4 = d
        omega
      rw [e2] at q
      omega
    · exact h i z nd
  · have g : Nat.Coprime j 4 := by
      have g2 : Nat.Coprime j 2 := by
        show Nat.gcd j 2 = 1
        rw [Nat.gcd_comm, Nat.gcd_rec, c]
        rfl
      exact Nat.Coprime.mul_right (k := j) (m := 2) (n := 2) g2 g2
    exact h j j2 (Nat.Coprime.dvd_of_dvd_mul_left (Nat.Coprime.mul_left g g) nd)
theorem sq_mod4 (b : Nat) : (b % 2 = 0 ∧ (b * b) % 4 = 0) ∨ (b % 2 = 1 ∧ (b * b) % 4 = 1) := by
  rcases Nat.mod_two_eq_zero_or_one b with c | c
  · left
    obtain ⟨i, rfl⟩ : ∃ i, b = 2 * i := ⟨b / 2, by omega⟩
    have e : 2 * i * (2 * i) = 4 * (i * i) := by grind
    omega
  · right
    obtain ⟨i, rfl⟩ : ∃ i, b = 2 * i + 1 := ⟨b / 2, by omega⟩
    have e : (2 * i + 1) * (2 * i + 1) = 4 * (i * i + i) + 1 := by grind
    omega
/-- d e with e odd: the same modulo 4 -/
theorem odd_mod4 {e : Int} {b : Nat} (h : b % 2 = 1) : (e * ((b * b : Nat) : Int)) % 4 = e % 4 := by
  rcases sq_mod4 b with ⟨z, _⟩ | ⟨_, z⟩
  · omega
  · obtain ⟨t, ht⟩ : ∃ t : Nat, b * b = 4 * t + 1 := ⟨b * b / 4, by omega⟩
    rw [ht]
    have : e * ((4 * t + 1 : Nat) : Int) = 4 * (e * t) + e := by
      push_cast
      grind
    rw [this]
    omega
theorem fund_uniq {d1 d2 : Int} {k1 k2 : Nat} (h1 : Fund d1) (h2 : Fund d2) (p1 : 0 < k1) (p2 : 0 < k2) (e : d1 * ((k1 * k1 : Nat) : Int) = d2 * ((k2 * k2 : Nat) : Int)) : k1 = k2 ∧ d1 = d2 := by
  obtain ⟨g, hg⟩ : ∃ g, g = Nat.gcd k1 k2 := ⟨_, rfl⟩
  have g0 : 0 < g := by rw [hg]; exact Nat.gcd_pos_of_pos_left _ p1
  obtain ⟨a, ha⟩ := Nat.gcd_dvd_left k1 k2
  obtain ⟨b, hb⟩ := Nat.gcd_dvd_right k1 k2
  rw [← hg] at ha hb
  have co : Nat.Coprime a b := by
    have := Nat.gcd_mul_left g a b
    rw [← ha, ← hb, ← hg] at this
    have : g * 1 = g * Nat.gcd a b := by omega
    exact (Nat.eq_of_mul_eq_mul_left g0 this).symm
  have a0 : 0 < a := by
    rcases Nat.eq_zero_or_pos a with z | z
    · subst z; omega
    · exact z
  have b0 : 0 < b := by
    rcases Nat.eq_zero_or_pos b with z | z
    · subst z; omega
    · exact z
  have e2 : d1 * ((a * a : Nat) : Int) = d2 * ((b * b : Nat) : Int) := by
    have gg : ((g * g : Nat) : Int) ≠ 0 := by
      have := Nat.mul_pos g0 g0
      omega
    refine Int.eq_of_mul_eq_mul_left gg ?_
    rw [ha, hb] at e
    push_cast at *
    grind
  have cab : Nat.Coprime (b * b) (a * a) := (Nat.Coprime.mul_left (Nat.Coprime.mul_right co.symm co.symm) (Nat.Coprime.mul_right co.symm co.symm))
  have bd : b * b ∣ d1.natAbs := by
    have z : ((b * b : Nat) : Int) ∣ d1 * ((a * a : Nat) : Int) := ⟨d2, by rw [e2, Int.mul_comm]⟩
    have z := Int.natAbs_dvd_natAbs.mpr z
    rw [Int.natAbs_mul] at z
    exact Nat.Coprime.dvd_of_dvd_mul_right cab z
  obtain ⟨t, ht⟩ : ((b * b : Nat) : Int) ∣ d1 := Int.natAbs_dvd_natAbs.mp bd
  have bb : ((b * b : Nat) : Int) ≠ 0 := by
    have := Nat.mul_pos b0 b0
    omega
  have ht2 : d2 = ((a * a : Nat) : Int) * t := by
    refine Int.eq_of_mul_eq_mul_left bb ?_
    rw [Int.mul_comm, ← e2, ht]
    grind
  have aa : ((a * a : Nat) : Int) ≠ 0 := by
    have := Nat.mul_pos a0 a0
    omega
  have q1 : 2 ≤ b → 2 ≤ t % 4 := fun z => by
    have := h1.2.2 b z ⟨t, ht⟩
    rw [ht, Int.mul_ediv_cancel_left _ bb] at this
    omega
  have q2 : 2 ≤ a → 2 ≤ t % 4 := fun z => by
    have := h2.2.2 a z ⟨t, ht2⟩
    rw [ht2, Int.mul_ediv_cancel_left _ aa] at this
    omega
  have f1 := h1.1
  have f2 := h2.1
  have both : a = 1 ∧ b = 1 := by
    rcases Classical.em (2 ≤ t % 4) with c | c
    · have ob : b % 2 = 0 := by
        rcases Nat.mod_two_eq_zero_or_one b with z | z
        · exact z
        · have := odd_mod4 (e := t) z
          rw [ht, Int.mul_comm] at f1
          omega
      have oa : a % 2 = 0 := by
        rcases Nat.mod_two_eq_zero_or_one a with z | z
        · exact z
        · have := odd_mod4 (e := t) z
          rw [ht2, Int.mul_comm] at f2
          omega
      have : 2 ∣ Nat.gcd a b := Nat.dvd_gcd (by omega) (by omega)
      rw [co] at this
      omega
    · have nb : ¬ 2 ≤ b := fun z => c (q1 z)
      have na : ¬ 2 ≤ a := fun z => c (q2 z)
      omega
  obtain ⟨rfl, rfl⟩ := both
  refine ⟨by omega, ?_⟩
  rw [ht, ht2]
/-- the split of a discriminant: f the product of the halves of the exponents -/
theorem split_fund {D : Int} {l : List (Nat × Nat)} (hD : D % 4 < 2) (h0 : D ≠ 0) (hl : ∀ q ∈ l, Prm q.1) (hs : l.Pairwise (fun x y => x.1 < y.1)) (e : prodC (fun c => c) l = D.natAbs) :
    let f := prodC (fun c => c / 2) l
    0 < f ∧ ((f * f : Nat) : Int) * (D / ((f * f : Nat) : Int)) = D ∧ (D / ((f * f : Nat) : Int) % 4 < 2 → Fund (D / ((f * f : Nat) : Int))) ∧
    (¬ D / ((f * f : Nat) : Int) % 4 < 2 → f % 2 = 0 ∧ 0 < f / 2 ∧ (((f / 2) * (f / 2) : Nat) : Int) * (D / (((f / 2) * (f / 2) : Nat) : Int)) = D ∧ Fund (D / (((f / 2) * (f / 2) : Nat) : Int))) := by
  intro f
  have sq := sqF_prodC hl hs
  have sp := prodC_split l
  rw [e] at sp
  generalize hm : prodC (fun c => c % 2) l = m at *
  have sp : D.natAbs = f * f * m := sp
  have fpos : 0 < f := by
    rcases Nat.eq_zero_or_pos f with z | z
    · rw [z] at sp
      omega
    · exact z
  have ff : 0 < f * f := Nat.mul_pos fpos fpos
  have ffi : ((f * f : Nat) : Int) ≠ 0 := by omega
  obtain ⟨t, ht⟩ : ((f * f : Nat) : Int) ∣ D := Int.natAbs_dvd_natAbs.mp (by
    show f * f ∣ D.natAbs
    exact ⟨m, sp⟩)
  have hq : D / ((f * f : Nat) : Int) = t := by rw [ht, Int.mul_ediv_cancel_left _ ffi]
  have tm : t.natAbs = m := by
    have := congrArg Int.natAbs ht
    rw [Int.natAbs_mul, sp] at this
    exact (Nat.eq_of_mul_eq_mul_left ff this).symm
  rw [← tm] at sq
  rw [hq]
  refine ⟨fpos, ht.symm, fun c => fund_one sq c, fun c => ?_⟩
  have ev : f % 2 = 0 := by
    rcases Nat.mod_two_eq_zero_or_one f with z | z
    · exact z
    · have := odd_mod4 (e := t) z
      rw [ht, Int.mul_comm] at hD
      omega
  obtain ⟨i, hi⟩ : ∃ i, f = 2 * i := ⟨f / 2, by omega⟩
  have ip : 0 < i := by omega
  have hi2 : f / 2 = i := by omega
  rw [hi2]
  have ii : ((i * i : Nat) : Int) ≠ 0 := by
    have := Nat.mul_pos ip ip
    omega
  have hD4 : D = ((i * i : Nat) : Int) * (4 * t) := by
    rw [ht, hi]
    push_cast
    grind
  have hq4 : D / ((i * i : Nat) : Int) = 4 * t := by rw [hD4, Int.mul_ediv_cancel_left _ ii]
  rw [hq4]
  exact ⟨ev, ip, hD4.symm, fund_four sq (by omega)⟩
/-- a fundamental discriminant other than 1 times a square is no square -/
theorem fund_nsq {d : Int} {k : Nat} (h : Fund d) (h1 : d ≠ 1) (hk : 0 < k) {r : Nat} (e : ((r * r : Nat) : Int) = d * ((k * k : Nat) : Int)) : False := by
  have f1 : Fund 1 := fund_one (by show SqF 1; exact sqF_one) (by decide)
  have r0 : 0 < r := by
    rcases Nat.eq_zero_or_pos r with z | z
    · subst z
      have := Nat.mul_pos hk hk
      have z : d * ((k * k : Nat) : Int) = 0 := by rw [← e]; rfl
      rcases Int.mul_eq_zero.mp z with y | y
      · exact absurd y h.2.1
      · omega
    · exact z
  exact h1 (fund_uniq f1 h r0 hk (by rw [Int.one_mul]; exact e)).2.symm

section
variable {P : Program} {w : World} {K : PySem.W.Frag} {mg : Str → Option Value} {base : Heap} {CM CR : Addr}
/-! ### powers, least divisors -/
abbrev s_raised : Stmt := top 7
theorem sc_raised : FnScope ["b", "e", "result"] ["b", "e"] (defScope s_raised) := ⟨rfl, rfl, rfl, by decide +kernel, rfl, by decide +kernel, by decide +kernel⟩

def spRaised : Sp := fun vs H Q _ => ∃ (b e : Nat), vs = [.int b, .int e] ∧ 0 < b ∧ b ^ e < 2 ^ 1000 ∧ Q (.int ((b ^ e : Nat) : Int)) H
theorem nz {n : Nat} : ((n : Int) != 0) = decide (n ≠ 0) := by
  by_cases h : n = 0
  · subst h; rfl
  · rw [decide_eq_true h]
    have : (n : Int) ≠ 0 := by omega
    simp [h]
theorem log1000 {n : Nat} (h : n < 2 ^ 1000) : (n : Int).natAbs < 2 ^ 1000 := h
theorem mulN {a b : Nat} (h : a < 2 ^ 1000) (h' : b < 2 ^ 1000) : IntMulOk (a : Int) (b : Int) := (wide_mul (a := 1000) (b := 1000) (log1000 h) (log1000 h') (by decide) (by decide) (by decide)).ok
theorem pow_step {b e : Nat} : b ^ e = (if e % 2 = 1 then b else 1) * (b * b) ^ (e / 2) := by
  have h : (b * b) ^ (e / 2) = b ^ (2 * (e / 2)) := by rw [Nat.pow_mul, Nat.pow_two]
  rw [h]
  split
  · rw [← Nat.pow_succ']
    congr 1; omega
  · rw [Nat.one_mul]
    congr 1; omega
theorem cal_raised (D : Dn K mg "raised" s_raised ["b", "e"]) (B : Bl mg) : Cal P w K mg base "raised" 1 ["b", "e"] spRaised := by
  refine D.cal sc_raised (fun vs H Q E h => ?_) (fun f cdv A outer s H vs Q E hr h => ?_)
  · obtain ⟨b, e, rfl, _⟩ := h
    rfl
  · obtain ⟨b, e, rfl, b0, hz, q⟩ := h
    refine ⟨_, (pss_cons (ps_set (i := 2) sc_raised.nd rfl (Or.inl rfl) pe_int)
  (pss_cons (ps_while PassesOwn.never (pt_truth (pv 1) (by intro _; rfl)) (pss_cons (ps_if (pt_truth (pe_op op_and (pv 1) pe_int) (by intro _; rfl)) (pss_one (ps_aug (i := 2) sc_raised.nd rfl (Or.inl rfl) (pv 0) iop_mulI)) pss_nil)
  (pss_cons (ps_aug (i := 1) sc_raised.nd rfl (Or.inl rfl) pe_int iop_shr)
  (pss_one (ps_if (pt_truth (pv 1) (by intro _; rfl)) (pss_one (ps_aug (i := 0) sc_raised.nd rfl (Or.inl rfl) (pv 0) iop_mulI)) pss_nil)))))
  (pss_one (ps_ret (pv 2))))), ?_⟩
    rw [CB.rd_seq]
    walk_at "rs"
    show tSeq _ _ _ _ _
    rw [CB.rd_seq]
    refine while_w (fun σ H' => ∃ b' e' r : Nat, σ = [some (.int b'), some (.int e'), some (.int r)] ∧ H' = H ∧ 0 < b' ∧ 0 < r ∧ r * b' ^ e' = b ^ e)
      (fun σ _ => match σ with | [_, some (.int e'), _] => e'.toNat | _ => 0) ⟨b, e, 1, rfl, rfl, b0, by omega, Nat.one_mul _⟩ ?_
    rintro σ H' ⟨b', e', r, rfl, rfl, p1, p2, inv⟩ N hN
    refine ⟨decide (e' ≠ 0), fun Q' q' => ?_, fun hb => ?_, fun hb => ?_⟩
    · walk_at "rd"
      refine ⟨_, rfl, ?_⟩
      rw [nz]
      exact q'
    · have he : e' ≠ 0 := of_decide_eq_true hb
      have hp : 0 < b' ^ e' := Nat.pow_pos p1
      have hr2 : r < 2 ^ 1000 := Nat.lt_of_le_of_lt (by rw [← inv]; exact Nat.le_mul_of_pos_right r hp) hz
      have hb2 : b' < 2 ^ 1000 := Nat.lt_of_le_of_lt (by
        rw [← inv]
        exact Nat.le_trans (Nat.le_self_pow he b') (Nat.le_mul_of_pos_left _ p2)) hz
      have fin : ∀ r1 : Nat, 0 < r1 → r1 * (b' * b') ^ (e' / 2) = b ^ e → ∀ b1 : Nat, (e' / 2 = 0 ∨ b1 = b' * b') → (0 < b1) → N [some (V.int b1), some (V.int ((e' / 2 : Nat) : Int)), some (V.int r1)] H' := fun r1 h1 h2 b1 h3 h4 => by
        refine hN _ _ ⟨b1, e' / 2, r1, rfl, rfl, h4, h1, ?_⟩ (by show ((e' / 2 : Nat) : Int).toNat < (e' : Int).toNat; omega)
        rcases h3 with h3 | rfl
        · rw [h3, Nat.pow_zero] at h2 ⊢
          exact h2
        · exact h2
      have fin2 : ∀ r1 : Nat, 0 < r1 → r1 * (b' * b') ^ (e' / 2) = b ^ e → ∃ k, TruV K (V.int ((e' : Int) / 2 ^ Int.toNat 1)) H' k ∧ if k = true then IntMulOk (b' : Int) (b' : Int) ∧ N [some (V.int ((b' : Int) * b')), some (V.int ((e' : Int) / 2 ^ Int.toNat 1)), some (V.int (r1 : Int))] H' else N [some (V.int (b' : Int)), some (V.int ((e' : Int) / 2 ^ Int.toNat 1)), some (V.int (r1 : Int))] H' := fun r1 h1 h2 => by
        have e2 : (e' : Int) / 2 ^ Int.toNat 1 = ((e' / 2 : Nat) : Int) := by
          show (e' : Int) / 2 = _
          omega
        rw [e2]
        refine ⟨_, rfl, ?_⟩
        rw [nz]
        by_cases c : e' / 2 = 0
        · rw [decide_eq_false (fun z => z c), if_neg (by decide)]
          exact fin r1 h1 h2 b' (.inl c) p1
        · rw [decide_eq_true c, if_pos rfl]
          refine ⟨mulN hb2 hb2, ?_⟩
          rw [← Int.natCast_mul]
          exact fin r1 h1 h2 (b' * b') (.inr rfl) (Nat.mul_pos p1 p1)
      rw [pow_step] at inv
      walk_at "rd"
      refine ⟨_, rfl, ?_⟩
      rw [PyProof.Rows.bitAnd_m1]
      have e2 : ((e' : Int) % 2 != 0) = decide (e' % 2 ≠ 0) := by
        have : (e' : Int) % 2 = ((e' % 2 : Nat) : Int) := by omega
        rw [this, nz]
      rw [e2]
      by_cases c : e' % 2 = 0
      · rw [decide_eq_false (fun z => z c), if_neg (by decide)]
        rw [if_neg (by omega), Nat.one_mul] at inv
        exact ⟨by decide, fin2 r p2 inv⟩
      · rw [decide_eq_true c, if_pos rfl]
        rw [if_pos (by omega), ← Nat.mul_assoc] at inv
        refine ⟨mulN hr2 hb2, by decide, ?_⟩
        rw [← Int.natCast_mul]
        exact fin2 (r * b') (Nat.mul_pos p2 p1) inv
    · have he : e' = 0 := by
        have := of_decide_eq_false hb
        omega
      subst he
      rw [Nat.pow_zero, Nat.mul_one] at inv
      walk_at "rd"
      rw [inv]
      exact q
end

section
variable {P : Program} {w : World} {K : PySem.W.Frag} {mg : Str → Option Value} {base : Heap} {CM CR : Addr}
theorem dvdI {n d : Nat} : ((n : Int) % (d : Int) = 0) ↔ d ∣ n := by
  rw [Nat.dvd_iff_mod_eq_zero]
  have : (n : Int) % (d : Int) = ((n % d : Nat) : Int) := (Int.natCast_emod n d).symm
  omega
abbrev s_least_divisor : Stmt := top 17
theorem sc_least_divisor : FnScope ["n", "most", "d"] ["n", "most"] (defScope s_least_divisor) := ⟨rfl, rfl, rfl, by decide +kernel, rfl, by decide +kernel, by decide +kernel⟩

def spLeast : Sp := fun vs H Q _ => ∃ n : Nat, vs = [.int n, .int 1000] ∧ 0 < n ∧ (n : Int) < BIG ∧ ∀ (r : Nat) (H' : Hp), LD n r → Same H H' → Q (.int r) H'
/-- six further numbers -/
theorem six {n d : Nat} (h6 : d % 6 = 5) (h : ∀ e, 2 ≤ e → e < d → ¬ e ∣ n) (h0 : ¬ d ∣ n) (h2 : ¬ (d + 2) ∣ n) : ∀ e, 2 ≤ e → e < d + 6 → ¬ e ∣ n := by
  intro e e2 ed z
  rcases Nat.lt_or_ge e d with c | c
  · exact h e e2 c z
  · have two : ¬ 2 ∣ n := h 2 (by decide) (by omega)
    have three : ¬ 3 ∣ n := h 3 (by decide) (by omega)
    have cs : e = d ∨ e = d + 1 ∨ e = d + 2 ∨ e = d + 3 ∨ e = d + 4 ∨ e = d + 5 := by omega
    rcases cs with rfl | rfl | rfl | rfl | rfl | rfl
    · exact h0 z
    · exact two (Nat.dvd_trans (by omega) z)
    · exact h2 z
    · exact two (Nat.dvd_trans (by omega) z)
    · exact three (Nat.dvd_trans (by omega) z)
    · exact two (Nat.dvd_trans (by omega) z)
theorem five {n d : Nat} (h6 : d % 6 = 5) (h : ∀ e, 2 ≤ e → e < d → ¬ e ∣ n) (h0 : ¬ d ∣ n) : ∀ e, 2 ≤ e → e < d + 2 → ¬ e ∣ n := by
  intro e e2 ed z
  rcases Nat.lt_or_ge e d with c | c
  · exact h e e2 c z
  · have two : ¬ 2 ∣ n := h 2 (by decide) (by omega)
    have cs : e = d ∨ e = d + 1 := by omega
    rcases cs with rfl | rfl
    · exact h0 z
    · exact two (Nat.dvd_trans (by omega) z)
theorem cal_least (D : Dn K mg "least_divisor" s_least_divisor ["n", "most"]) (B : Bl mg) : Cal P w K mg base "least_divisor" 1 ["n", "most"] spLeast := by
  refine D.cal sc_least_divisor (fun vs H Q E h => ?_) (fun f cdv A outer s H vs Q E hr h => ?_)
  · obtain ⟨n, rfl, _⟩ := h
    rfl
  · obtain ⟨n, rfl, n0, nb, q⟩ := h
    refine ⟨_, (pss_cons (ps_for PassesOwn.never rfl (pi_tup (pe_tup (pa_cons pe_int (pa_cons pe_int pa_nil)))) (pg_name (i := 2) sc_least_divisor.nd rfl (Or.inl rfl)) (pss_one (ps_if (pt_cmpR op_eq (pe_op op_mod (pv 0) (pv 2)) pe_int (nomark _)) (pss_one (ps_ret (pv 2))) pss_nil)))
  (pss_cons (ps_set (i := 1) sc_least_divisor.nd rfl (Or.inl rfl) (pe_callB (call_min2 rfl) rfl B.min (by decide +kernel) (pa_cons (pv 1) (pa_cons (pe_callBfun cr_isqrt rfl B.isqrt (pa_cons (pv 0) pa_nil)) pa_nil))))
  (pss_cons (ps_set (i := 2) sc_least_divisor.nd rfl (Or.inl rfl) pe_int)
  (pss_cons (ps_while PassesOwn.never (pt_cmpR op_le (pv 2) (pv 1) (nomark _)) (pss_cons (ps_if (pt_cmpR op_eq (pe_op op_mod (pv 0) (pv 2)) pe_int (nomark _)) (pss_one (ps_ret (pv 2))) pss_nil)
  (pss_cons (ps_if (pt_cmpR op_eq (pe_op op_mod (pv 0) (pe_op op_add (pv 2) pe_int)) pe_int (nomark _)) (pss_one (ps_ret (pe_op op_add (pv 2) pe_int))) pss_nil)
  (pss_one (ps_aug (i := 2) sc_least_divisor.nd rfl (Or.inl rfl) pe_int ip_add)))))
  (pss_one (ps_ret (pv 0))))))), ?_⟩
    rw [CB.rd_seq]
    walk_at "rs"
    refine ⟨by decide, fun p np => ?_⟩
    have ht : upd H p (HO.tup [V.int 2, V.int 3]) p = some (.tup [V.int 2, V.int 3]) := upd_same
    have sm := same_upd (o := HO.tup [V.int 2, V.int 3]) np
    generalize upd H p (HO.tup [V.int 2, V.int 3]) = H1 at *
    refine ⟨⟨_, SqT.of ht⟩, ForT.w (xs := [V.int 2, V.int 3]) (fun i σ H' => H' = H1 ∧ ∃ s2, σ = [some (.int n), some (.int 1000), s2] ∧ ∀ e, 2 ≤ e → e < i + 2 → ¬ e ∣ n) ⟨rfl, _, rfl, fun e e2 ei => by omega⟩ ?_ ?_ ?_⟩
    · rintro i σ H' _ ⟨rfl, _⟩
      exact SqT.of ht
    · rintro i v σ H' hv ⟨rfl, s2, rfl, hi⟩ N hN
      have hi2 : i < 2 := (List.getElem?_eq_some_iff.mp hv).1
      have pick : v = .int ((i + 2 : Nat) : Int) := by
        have c : i = 0 ∨ i = 1 := by omega
        rcases c with rfl | rfl <;> cases hv <;> rfl
      subst pick
      walk_at "rd"
      refine ⟨by omega, ite2 (fun c => ?_) (fun c => ?_)⟩
      · refine q (i + 2) _ (.inl ⟨by omega, dvdI.mp c, fun e e2 ei => hi e e2 ei⟩) sm
      · refine hN _ _ ⟨rfl, _, rfl, fun e e2 ei z => ?_⟩
        rcases Nat.lt_or_ge e (i + 2) with y | y
        · exact hi e e2 y z
        · have : e = i + 2 := by omega
          subst this
          exact c (dvdI.mpr z)
    rintro σ H' ⟨rfl, s2, rfl, hi⟩
    have hi : ∀ e, 2 ≤ e → e < 4 → ¬ e ∣ n := hi
    show tSeq _ _ _ _ _
    rw [CB.rd_seq]
    walk_at "rs"
    refine ⟨_, rfl, _, rfl, n, rfl, by omega, Int.lt_trans nb BIG_big, 1000, isq n, rfl, ?_⟩
    have i0 := isq_nn (n : Int)
    have iff1 : ∀ e : Nat, e * e ≤ n ↔ (e : Int) ≤ isq n := fun e => by
      rw [← isq_iff (by omega) (by omega)]
      rw [← Int.natCast_mul]
      omega
    obtain ⟨M, hM, hM2⟩ : ∃ M : Nat, (if isq (n : Int) < 1000 then isq (n : Int) else 1000) = (M : Int) ∧ ∀ e : Nat, e ≤ 1000 → e * e ≤ n → e ≤ M := by
      refine ⟨(if isq (n : Int) < 1000 then isq (n : Int) else 1000).toNat, ?_, fun e e1 ee => ?_⟩
      · split <;> omega
      · have := (iff1 e).mp ee
        split <;> omega
    rw [hM]
    show tSeq _ _ _ _ _
    rw [CB.rd_seq]
    walk_at "rs"
    show tSeq _ _ _ _ _
    rw [CB.rd_seq]
    refine while_w (fun σ H2 => H2 = H' ∧ ∃ d : Nat, σ = [some (.int n), some (.int M), some (.int d)] ∧ d % 6 = 5 ∧ ∀ e, 2 ≤ e → e < d → ¬ e ∣ n)
      (fun σ _ => match σ with | [_, _, some (.int d)] => (M + 1 - d : Int).toNat | _ => 0) ⟨rfl, 5, rfl, rfl, fun e e2 e5 z => ?_⟩ ?_
    · rcases Nat.lt_or_ge e 4 with y | y
      · exact hi e e2 y z
      · have : e = 4 := by omega
        subst this
        exact hi 2 (by decide) (by decide) (Nat.dvd_trans (by decide) z)
    rintro σ H2 ⟨rfl, d, rfl, d6, hd⟩ N hN
    refine ⟨decide ((d : Int) ≤ M), fun Q' q' => ?_, fun hb => ?_, fun hb => ?_⟩
    · walk_at "rd"
      exact q'
    · have hle := of_decide_eq_true hb
      walk_at "rd"
      refine ⟨by omega, ite2 (fun c => ?_) (fun c => ?_)⟩
      · exact q d _ (.inl ⟨by omega, dvdI.mp c, hd⟩) sm
      · have c' : ¬ d ∣ n := fun z => c (dvdI.mpr z)
        refine ⟨by omega, ite2 (fun c2 => ?_) (fun c2 => ?_)⟩
        · have c2' : (d + 2) ∣ n := dvdI.mp c2
          exact q (d + 2) _ (.inl ⟨by omega, c2', five d6 hd c'⟩) sm
        · have c2' : ¬ (d + 2) ∣ n := fun z => c2 (dvdI.mpr z)
          exact hN _ _ ⟨rfl, d + 6, rfl, by omega, six d6 hd c' c2'⟩ (by show (M + 1 - ((d + 6 : Nat) : Int) : Int).toNat < (M + 1 - (d : Int) : Int).toNat; omega)
    · have hgt := of_decide_eq_false hb
      walk_at "rd"
      exact q n _ (.inr ⟨rfl, fun e e2 e3 ee => hd e e2 (by have := hM2 e e3 ee; omega)⟩) sm
abbrev s_is_prime : Stmt := top 16
theorem sc_is_prime : FnScope ["n", "p", "a"] ["n"] (defScope s_is_prime) := ⟨rfl, rfl, rfl, by decide +kernel, rfl, by decide +kernel, by decide +kernel⟩

/-- asked of primes to a million alone -/
def spPrime : Sp := fun vs H Q _ => ∃ n : Nat, vs = [.int n] ∧ Prm n ∧ n ≤ 1000000 ∧ ∀ H', Same H H' → Q (.bl true) H'
theorem cal_prime (D : Dn K mg "is_prime" s_is_prime ["n"]) (B : Bl mg) (c_least_divisor : Cal P w K mg base "least_divisor" 1 ["n", "most"] spLeast) : Cal P w K mg base "is_prime" 2 ["n"] spPrime := by
  refine D.cal sc_is_prime (fun vs H Q E h => ?_) (fun f cdv A outer s H vs Q E hr h => ?_)
  · obtain ⟨n, rfl, _⟩ := h
    rfl
  · obtain ⟨n, rfl, hp, hn, q⟩ := h
    have h2 := hp.1
    have hB := BIG_pos
    refine ⟨_, (pss_cons (ps_if (pt_cmpR op_ge (pv 0) (pe_glob (v := .int 3317044064679887385961981) rfl B.c_BOUND.choose_spec ⟨_, rfl⟩) (nomark _)) pss_never pss_nil)
  (pss_cons (ps_if (pt_cmpR op_lt (pv 0) pe_int (nomark _)) (pss_one (ps_ret pe_bl)) pss_nil)
  (pss_cons (ps_if (pt_cmpR op_le (pv 0) (pe_op op_mulI (pe_glob (v := .int 1000) rfl B.c_TRIED_TO.choose_spec ⟨_, rfl⟩) (pe_glob (v := .int 1000) rfl B.c_TRIED_TO.choose_spec ⟨_, rfl⟩)) (nomark _)) (pss_one (ps_ret (pe_cmpR op_eq (pe_cal c_least_divisor (hr.mono (by decide)) rfl (pa_cons (pv 0) (pa_cons (pe_glob (v := .int 1000) rfl B.c_TRIED_TO.choose_spec ⟨_, rfl⟩) pa_nil))) (pv 0) (nomark _)))) pss_nil)
  pss_never))), ?_⟩
    walk_at "rd"
    rw [if_neg (by omega), if_neg (by omega)]
    refine ⟨mulL (by decide), ?_⟩
    rw [if_pos (by omega)]
    refine ⟨n, rfl, by omega, by omega, fun r H' hl sm => ?_⟩
    rw [hl.of_prm hp]
    refine ⟨by simp [scal], ?_⟩
    rw [decide_eq_true rfl]
    exact q H' sm
end

section
variable {P : Program} {w : World} {K : PySem.W.Frag} {mg : Str → Option Value} {base : Heap} {CM CR : Addr}
def vN (ps : List Nat) : List V := ps.map fun k : Nat => V.int (k : Int)
theorem vN_app (ps : List Nat) (r : Nat) : vN ps ++ [V.int (r : Int)] = vN (ps ++ [r]) := by unfold vN; rw [List.map_append]; rfl
theorem vN_len (ps : List Nat) : (vN ps).length = ps.length := List.length_map _
/-- all primes of a number, ascending -/
def PL (n : Nat) (ps : List Nat) : Prop := (∀ q ∈ ps, Prm q) ∧ ps.Pairwise (· ≤ ·) ∧ prodL ps = n
theorem PL.len {n : Nat} {ps : List Nat} (h : PL n ps) (hn : n < 10000000000000) : ps.length < 64 := by
  have a := prodL_pos (ps := ps) fun q hq => (h.1 q hq).1
  rw [h.2.2] at a
  rcases Nat.lt_or_ge ps.length 64 with c | c
  · exact c
  · have : 2 ^ 64 ≤ 2 ^ ps.length := Nat.pow_le_pow_right (by decide) c
    omega
theorem pw_snoc {α : Type} {R : α → α → Prop} {l : List α} {x : α} (h : l.Pairwise R) (hx : ∀ y ∈ l, R y x) : (l ++ [x]).Pairwise R :=
  List.pairwise_append.mpr ⟨h, List.pairwise_singleton _ _, fun a ha b hb => by
    rw [List.mem_singleton] at hb
    subst hb
    exact hx a ha⟩
abbrev s__prime_list : Stmt := top 20
theorem sc__prime_list : FnScope ["n", "found", "p", "waiting", "part", "d"] ["n"] (defScope s__prime_list) := ⟨rfl, rfl, rfl, by decide +kernel, rfl, by decide +kernel, by decide +kernel⟩

def spPList : Sp := fun vs H Q _ => ∃ n : Nat, vs = [.int n] ∧ 0 < n ∧ n < 10000000000000 ∧ Smo n ∧ ∀ ps p H', Same H H' → H p = none → H' p = some (.lst (vN ps)) → PL n ps → Q (.ref p) H'
theorem cal_plist (D : Dn K mg "_prime_list" s__prime_list ["n"]) (B : Bl mg) (c_least_divisor : Cal P w K mg base "least_divisor" 1 ["n", "most"] spLeast) (c_is_prime : Cal P w K mg base "is_prime" 2 ["n"] spPrime) : Cal P w K mg base "_prime_list" 3 ["n"] spPList := by
  refine D.cal sc__prime_list (fun vs H Q E h => ?_) (fun f cdv A outer s H vs Q E hr h => ?_)
  · obtain ⟨n, rfl, _⟩ := h
    rfl
  · obtain ⟨n, rfl, n0, nb, hsm, q⟩ := h
    have hB : (10000000000000 : Int) < BIG := by decide +kernel
    refine ⟨_, (pss_cons (ps_set (i := 1) sc__prime_list.nd rfl (Or.inl rfl) (pe_lst pa_nil))
  (pss_cons (ps_set (i := 2) sc__prime_list.nd rfl (Or.inl rfl) (pe_cal c_least_divisor (hr.mono (by decide)) rfl (pa_cons (pv 0) (pa_cons (pe_glob (v := .int 1000) rfl B.c_TRIED_TO.choose_spec ⟨_, rfl⟩) pa_nil))))
  (pss_cons (ps_while PassesOwn.never (PW.pt (pw_and (pt_cmpR op_le (pv 2) (pe_glob (v := .int 1000) rfl B.c_TRIED_TO.choose_spec ⟨_, rfl⟩) (nomark _)) (pw_and1 (pt_cmpR op_gt (pv 0) pe_int (nomark _))))) (pss_cons (ps_expr (pe_bm PySem.F.plainAttrs_list PySem.F.slot_list_append PySem.F.type_list_append mt_append (pv 1) (pa_cons (pv 2) pa_nil)))
  (pss_cons (ps_aug (i := 0) sc__prime_list.nd rfl (Or.inl rfl) (pv 2) iop_fdivW)
  (pss_one (ps_set (i := 2) sc__prime_list.nd rfl (Or.inl rfl) (pe_cal c_least_divisor (hr.mono (by decide)) rfl (pa_cons (pv 0) (pa_cons (pe_glob (v := .int 1000) rfl B.c_TRIED_TO.choose_spec ⟨_, rfl⟩) pa_nil))))))))
  (pss_cons (ps_set (i := 3) sc__prime_list.nd rfl (Or.inl rfl) (pe_ifExp (pt_cmpR op_gt (pv 0) pe_int (nomark _)) (pe_lst (pa_cons (pv 0) pa_nil)) (pe_lst pa_nil)))
  (pss_cons (ps_while PassesOwn.never (pt_truth (pv 3) (by intro _; rfl)) (pss_cons (ps_set (i := 4) sc__prime_list.nd rfl (Or.inl rfl) (pe_bm0 PySem.F.plainAttrs_list PySem.F.slot_list_pop PySem.F.type_list_pop mt_pop (pv 3)))
  (pss_one (ps_if (pt_val (pe_cal c_is_prime (hr.mono (by decide)) rfl (pa_cons (pv 4) pa_nil))) (pss_one (ps_expr (pe_bm PySem.F.plainAttrs_list PySem.F.slot_list_append PySem.F.type_list_append mt_append (pv 1) (pa_cons (pv 4) pa_nil)))) pss_never))))
  (pss_one (ps_ret (pv 1)))))))), ?_⟩
    rw [CB.rd_seq]
    walk_at "rs"
    refine ⟨by decide, fun l nl => ?_⟩
    show tSeq _ _ _ _ _
    rw [CB.rd_seq]
    walk_at "rs"
    refine ⟨n, rfl, n0, by omega, fun r0 H0 hr0 s0 => ?_⟩
    have hl0 : H0 l = some (.lst (vN [])) := s0 _ _ upd_same
    have s00 : Same H H0 := (same_upd nl).trans s0
    show tSeq _ _ _ _ _
    refine seq_cut (fun σ H1 => ∃ (m r : Nat) (ps : List Nat), σ = [some (.int m), some (.ref l), some (.int r), none, none, none] ∧ Same H H1 ∧ H1 l = some (.lst (vN ps)) ∧ 0 < m ∧ prodL ps * m = n ∧ (∀ q ∈ ps, Prm q) ∧ ps.Pairwise (· ≤ ·) ∧ (∀ q ∈ ps, ∀ e, 2 ≤ e → e ∣ m → q ≤ e) ∧ (m = 1 ∨ (Prm m ∧ m ≤ 1000000))) (fun R hR => ?_) ?_
    · refine while_w (fun σ H1 => ∃ (m r : Nat) (ps : List Nat), σ = [some (.int m), some (.ref l), some (.int r), none, none, none] ∧ Same H H1 ∧ H1 l = some (.lst (vN ps)) ∧ 0 < m ∧ prodL ps * m = n ∧ (∀ q ∈ ps, Prm q) ∧ ps.Pairwise (· ≤ ·) ∧ (∀ q ∈ ps, ∀ e, 2 ≤ e → e ∣ m → q ≤ e) ∧ LD m r)
        (fun σ _ => match σ with | [some (.int m), _, _, _, _, _] => m.toNat | _ => 0) ⟨n, r0, [], rfl, s00, hl0, n0, Nat.one_mul n, fun q hq => by simp at hq, List.Pairwise.nil, fun q hq => by simp at hq, hr0⟩ ?_
      rintro σ H1 ⟨m, r, ps, rfl, sm, hl, m0, hpr, hp, hso, hle, hld⟩ N hN
      have mn : m ≤ n := by
        rw [← hpr]
        refine Nat.le_mul_of_pos_left _ ?_
        have := prodL_pos (ps := ps) fun q hq => (hp q hq).1
        have : 0 < 2 ^ ps.length := Nat.pow_pos (by decide)
        omega
      refine ⟨decide (r ≤ 1000 ∧ 1 < m), fun Q' q' => ?_, fun hb => ?_, fun hb => ?_⟩
      · walk_at "rd"
        refine ite2 (fun c => ?_) (fun c => ?_)
        · rw [show decide (r ≤ 1000 ∧ 1 < m) = decide ((1 : Int) < (m : Int)) from decide_eq_decide.mpr (by omega)] at q'
          exact q'
        · rw [decide_eq_false (by omega)] at q'
          exact q'
      · obtain ⟨c1, c2⟩ := of_decide_eq_true hb
        obtain ⟨rp, rd, rl⟩ := hld.prm c1 c2
        have r2 := rp.1
        obtain ⟨c, hc⟩ := rd
        have hc0 : 0 < c := by
          rcases Nat.eq_zero_or_pos c with z | z
          · subst z; omega
          · exact z
        have len : ps.length < 64 := by
          have a := prodL_pos (ps := ps) fun q hq => (hp q hq).1
          rcases Nat.lt_or_ge ps.length 64 with z | z
          · exact z
          · have : 2 ^ 64 ≤ 2 ^ ps.length := Nat.pow_le_pow_right (by decide) z
            have : prodL ps ≤ n := by rw [← hpr]; exact Nat.le_mul_of_pos_right _ m0
            omega
        rw [CB.rd_seq]
        walk_at "rs"
        refine ⟨tyL hl, vN ps, hl, by rw [vN_len]; exact small_size (by omega), ?_⟩
        rw [vN_app]
        have sm1 : Same H (upd H1 l (.lst (vN (ps ++ [r])))) := same_at sm nl
        have hl1 : (upd H1 l (.lst (vN (ps ++ [r])))) l = some (.lst (vN (ps ++ [r]))) := upd_same
        generalize upd H1 l (.lst (vN (ps ++ [r]))) = H2 at *
        have hdiv : (m : Int) / (r : Int) = (c : Int) := by
          rw [hc]
          rw [Int.natCast_mul, Int.mul_ediv_cancel_left _ (by omega)]
        show tSeq _ _ _ _ _
        rw [CB.rd_seq]
        walk_at "rs"
        refine ⟨wide_div (b := 60) (by omega) (by show r < 2 ^ 60; omega) (by decide) (by decide), ?_⟩
        rw [hdiv]
        have cn : c ≤ n := by
          have : c ≤ m := by rw [hc]; exact Nat.le_mul_of_pos_left _ (by omega)
          omega
        refine ⟨c, rfl, hc0, by omega, fun r1 H3 hr1 s3 => ?_⟩
        refine hN _ _ ⟨c, r1, ps ++ [r], rfl, sm1.trans s3, s3 _ _ hl1, hc0, ?_, ?_, ?_, ?_, hr1⟩ ?_
        · rw [prodL_app, ← hpr, hc]
          show prodL ps * (r * 1) * c = prodL ps * (r * c)
          rw [Nat.mul_one, Nat.mul_assoc]
        · intro x hx
          rw [List.mem_append, List.mem_singleton] at hx
          rcases hx with hx | rfl
          · exact hp x hx
          · exact rp
        · exact pw_snoc hso fun y hy => hle y hy r r2 ⟨c, hc⟩
        · intro x hx e e2 ed
          have em : e ∣ m := by rw [hc]; exact Nat.dvd_trans ed (Nat.dvd_mul_left c r)
          rw [List.mem_append, List.mem_singleton] at hx
          rcases hx with hx | rfl
          · exact hle x hx e e2 em
          · exact rl e e2 em
        · show (c : Int).toNat < (m : Int).toNat
          have : c * 2 ≤ m := by rw [hc, Nat.mul_comm]; exact Nat.mul_le_mul_right c r2
          omega
      · have c := of_decide_eq_false hb
        refine hR _ _ ⟨m, r, ps, rfl, sm, hl, m0, hpr, hp, hso, hle, ?_⟩
        rcases Nat.lt_or_ge 1 m with z | z
        · exact .inr (hld.rest (by omega) m0 fun x hx hr => hsm x (by rw [← hpr]; exact Nat.dvd_trans hx (Nat.dvd_mul_left m _)) hr)
        · left; omega
    rintro σ H1 ⟨m, r, ps, rfl, sm, hl, m0, hpr, hp, hso, hle, hm⟩
    have len : ps.length < 64 := by
      have a := prodL_pos (ps := ps) fun q hq => (hp q hq).1
      rcases Nat.lt_or_ge ps.length 64 with z | z
      · exact z
      · have : 2 ^ 64 ≤ 2 ^ ps.length := Nat.pow_le_pow_right (by decide) z
        have : prodL ps ≤ n := by rw [← hpr]; exact Nat.le_mul_of_pos_right _ m0
        omega
    refine seq_cut (fun σ H2 => ∃ lw ws, σ = [some (.int m), some (.ref l), some (.int r), some (.ref lw), none, none] ∧ Same H1 H2 ∧ H1 lw = none ∧ H2 lw = some (.lst (vN ws)) ∧ ((ws = [m] ∧ Prm m ∧ m ≤ 1000000) ∨ (ws = [] ∧ m = 1))) (fun R hR => ?_) ?_
    · walk_at "rd"
      refine ite2 (fun c => ⟨by decide, fun lw nw => ?_⟩) (fun c => ⟨by decide, fun lw nw => ?_⟩)
      · exact hR _ _ ⟨lw, [m], rfl, same_upd nw, nw, upd_same, .inl ⟨rfl, by
          rcases hm with z | z
          · omega
          · exact z⟩⟩
      · exact hR _ _ ⟨lw, [], rfl, same_upd nw, nw, upd_same, .inr ⟨rfl, by omega⟩⟩
    rintro σ H2 ⟨lw, ws, rfl, s2, nlw, hlw, hws⟩
    have hl2 := s2 _ _ hl
    have lne : l ≠ lw := ne_of_none hl nlw
    have nlwH : H lw = none := by
      rcases hh : H lw with _ | o
      · rfl
      · have := sm _ _ hh
        rw [this] at nlw
        cases nlw
    rw [CB.rd_seq]
    refine while_w (fun σ H3 => ∃ ws ps' s4, σ = [some (.int m), some (.ref l), some (.int r), some (.ref lw), s4, none] ∧ Same H H3 ∧ H3 lw = some (.lst (vN ws)) ∧ H3 l = some (.lst (vN ps')) ∧ ((ws = [m] ∧ ps' = ps ∧ Prm m ∧ m ≤ 1000000) ∨ (ws = [] ∧ PL n ps')))
      (fun σ H3 => match H3 lw with | some (.lst zs) => zs.length | _ => 0) ⟨ws, ps, none, rfl, sm.trans s2, hlw, hl2, ?_⟩ ?_
    · rcases hws with ⟨e, h1, h2⟩ | ⟨e, h1⟩
      · exact .inl ⟨e, rfl, h1, h2⟩
      · refine .inr ⟨e, hp, hso, ?_⟩
        rw [← hpr, h1, Nat.mul_one]
    rintro σ H3 ⟨ws, ps', s4, rfl, s3, hw3, hl3, hc⟩ N hN
    refine ⟨!ws.isEmpty, fun Q' q' => ?_, fun hb => ?_, fun hb => ?_⟩
    · refine ⟨_, rfl, _, .inl ⟨_, SqL.of hw3, rfl⟩, ?_⟩
      have e : (vN ws).isEmpty = ws.isEmpty := by cases ws <;> rfl
      rw [e]
      exact q'
    · rcases hc with ⟨rfl, rfl, hpm, hm6⟩ | ⟨rfl, _⟩
      · rw [CB.rd_seq]
        walk_at "rs"
        refine ⟨tyL hw3, vN [m], hw3, .int m, rfl, ?_⟩
        have sa : Same H (upd H3 lw (.lst [])) := same_at s3 nlwH
        have hw4 : (upd H3 lw (.lst [])) lw = some (.lst []) := upd_same
        have hl4 : (upd H3 lw (.lst [])) l = some (.lst (vN ps')) := by rw [upd_ne lne]; exact hl3
        show spPrime [V.int ↑m] (upd H3 lw (.lst [])) _ _
        generalize upd H3 lw (.lst []) = H4 at *
        refine ⟨m, rfl, hpm, hm6, fun H5 s5 => ⟨true, rfl, ?_⟩⟩
        rw [if_pos rfl]
        refine ⟨tyL (s5 _ _ hl4), _, s5 _ _ hl4, by rw [vN_len]; exact small_size (by omega), ?_⟩
        rw [vN_app]
        have hw5 := s5 _ _ hw4
        refine hN _ _ ⟨[], ps' ++ [m], _, rfl, same_at (sa.trans s5) nl, ?_, upd_same, .inr ⟨rfl, ?_, ?_, ?_⟩⟩ ?_
        · rw [upd_ne lne.symm]
          exact hw5
        · intro x hx
          rw [List.mem_append, List.mem_singleton] at hx
          rcases hx with hx | rfl
          · exact hp x hx
          · exact hpm
        · exact pw_snoc hso fun y hy => hle y hy m hpm.1 (Nat.dvd_refl m)
        · rw [prodL_app, ← hpr]
          show prodL ps' * (m * 1) = _
          rw [Nat.mul_one]
        · show (match (upd H5 l (.lst (vN (ps' ++ [m])))) lw with | some (.lst zs) => zs.length | _ => 0) < (match H3 lw with | some (.lst zs) => zs.length | _ => 0)
          rw [upd_ne lne.symm, hw5, hw3]
          exact Nat.zero_lt_one
      · cases hb
    · rcases hc with ⟨rfl, _⟩ | ⟨rfl, hPL⟩
      · cases hb
      · walk_at "rd"
        exact q ps' l H3 s3 nl hl3 hPL
end
section
variable {P : Program} {w : World} {K : PySem.W.Frag} {mg : Str → Option Value} {base : Heap} {CM CR : Addr}
/-- pairs of numbers, at addresses -/
def PrN (H : Hp) : List V → List (Nat × Nat) → Prop
  | [], [] => True
  | v :: vs, q :: qs => (∃ t, v = .ref t ∧ H t = some (.tup [.int (q.1 : Int), .int (q.2 : Int)])) ∧ PrN H vs qs
  | _, _ => False
theorem PrN.same {H H' : Hp} (s : Same H H') : ∀ {vs : List V} {qs : List (Nat × Nat)}, PrN H vs qs → PrN H' vs qs
  | [], [], h => h
  | _ :: _, _ :: _, ⟨⟨t, e, h⟩, hs⟩ => ⟨⟨t, e, s _ _ h⟩, PrN.same s hs⟩
  | [], _ :: _, h => h.elim
  | _ :: _, [], h => h.elim
theorem PrN.updL {H : Hp} {D : Addr} {l : List V} {o : HO} (e : H D = some (.lst l)) : ∀ {vs : List V} {qs : List (Nat × Nat)}, PrN H vs qs → PrN (upd H D o) vs qs
  | [], [], h => h
  | _ :: _, _ :: _, ⟨⟨t, e1, h⟩, hs⟩ => ⟨⟨t, e1, by rw [upd_ne (ne_of h e (by intro z; cases z))]; exact h⟩, PrN.updL e hs⟩
  | [], _ :: _, h => h.elim
  | _ :: _, [], h => h.elim
theorem PrN.snoc {H : Hp} {v : V} {q : Nat × Nat} (h : ∃ t, v = .ref t ∧ H t = some (.tup [.int (q.1 : Int), .int (q.2 : Int)])) : ∀ {vs : List V} {qs : List (Nat × Nat)}, PrN H vs qs → PrN H (vs ++ [v]) (qs ++ [q])
  | [], [], _ => ⟨h, trivial⟩
  | _ :: _, _ :: _, ⟨g, gs⟩ => ⟨g, PrN.snoc h gs⟩
  | [], _ :: _, g => g.elim
  | _ :: _, [], g => g.elim
theorem PrN.len {H : Hp} : ∀ {vs : List V} {qs : List (Nat × Nat)}, PrN H vs qs → vs.length = qs.length
  | [], [], _ => rfl
  | _ :: _, _ :: _, ⟨_, gs⟩ => by rw [List.length_cons, List.length_cons, PrN.len gs]
  | [], _ :: _, g => g.elim
  | _ :: _, [], g => g.elim
theorem PrN.get {H : Hp} : ∀ {vs : List V} {qs : List (Nat × Nat)} {j : Nat} {v : V}, PrN H vs qs → vs[j]? = some v → ∃ q t, qs[j]? = some q ∧ v = .ref t ∧ H t = some (.tup [.int (q.1 : Int), .int (q.2 : Int)])
  | v :: vs, q :: qs, 0, u, ⟨⟨t, e, h⟩, _⟩, he => by
    cases he
    exact ⟨q, t, rfl, e, h⟩
  | v :: vs, q :: qs, j + 1, u, ⟨_, gs⟩, he => by
    rw [List.getElem?_cons_succ] at he ⊢
    exact PrN.get gs he
  | [], [], _, _, _, e => by simp at e
  | [], _ :: _, _, _, g, _ => g.elim
  | _ :: _, [], _, _, g, _ => g.elim
/-- the factors: primes ascending, their exponents -/
def FL (n : Nat) (l : List (Nat × Nat)) : Prop := (∀ q ∈ l, Prm q.1) ∧ l.Pairwise (fun x y => x.1 < y.1) ∧ prodC (fun c => c) l = n
theorem getC_none {l : List (Nat × Nat)} {p : Nat} (h : ∀ q ∈ l, q.1 < p) : getC l p = none := by
  unfold getC
  rw [List.find?_eq_none.mpr fun q hq => by
    have := h q hq
    simp
    omega]
  rfl
theorem getC_last {l : List (Nat × Nat)} {p c : Nat} (h : ∀ q ∈ l, q.1 < p) : getC (l ++ [(p, c)]) p = some c := by
  unfold getC
  rw [List.find?_append, List.find?_eq_none.mpr fun q hq => by
    have := h q hq
    simp
    omega]
  simp
theorem bump_none {l : List (Nat × Nat)} {p c : Nat} (h : ∀ q ∈ l, q.1 < p) : bumpC l p c = l ++ [(p, c)] := by
  unfold bumpC
  rw [if_neg]
  intro z
  obtain ⟨q, hq, e⟩ := List.any_eq_true.mp z
  have := h q hq
  have := of_decide_eq_true e
  omega
theorem bump_last {l : List (Nat × Nat)} {p c d : Nat} (h : ∀ q ∈ l, q.1 < p) : bumpC (l ++ [(p, c)]) p d = l ++ [(p, d)] := by
  unfold bumpC
  rw [if_pos (by simp)]
  rw [List.map_append]
  congr 1
  · have : ∀ q ∈ l, (fun q : Nat × Nat => if q.1 = p then (q.1, d) else q) q = q := fun q hq => by
      have := h q hq
      show (if q.1 = p then _ else _) = _
      rw [if_neg (by omega)]
    rw [List.map_congr_left this, List.map_id']
  · show [if p = p then (p, d) else _] = _
    rw [if_pos rfl]
/-- counting one more prime, none less than those before -/
theorem count_step {n p : Nat} {l : List (Nat × Nat)} (h : FL n l) (hp : Prm p) (hle : ∀ q ∈ l, q.1 ≤ p) (hc : ∀ q ∈ l, 0 < q.2) :
    ∃ c, (getC l p).getD 0 = c ∧ FL (n * p) (bumpC l p (c + 1)) ∧ ∀ q ∈ bumpC l p (c + 1), q.1 ≤ p ∧ 0 < q.2 := by
  obtain ⟨h1, h2, h3⟩ := h
  rcases Classical.em (∃ q ∈ l, q.1 = p) with ⟨q, hq, e⟩ | hno
  · -- p is the last
    obtain ⟨a, b, rfl⟩ := List.append_of_mem hq
    have hb : b = [] := by
      rcases b with _ | ⟨r, b⟩
      · rfl
      · obtain ⟨_, hp2, _⟩ := List.pairwise_append.mp h2
        have := (List.pairwise_cons.mp hp2).1 r List.mem_cons_self
        have := hle r (by simp)
        omega
    subst hb
    have ha : ∀ x ∈ a, x.1 < p := fun x hx => by
      have := (List.pairwise_append.mp h2).2.2 x hx q List.mem_cons_self
      omega
    obtain ⟨q1, q2⟩ := q
    have e : q1 = p := e
    subst e
    refine ⟨q2, by rw [getC_last ha]; rfl, ?_, ?_⟩
    · rw [bump_last ha]
      refine ⟨fun x hx => ?_, ?_, ?_⟩
      · rw [List.mem_append, List.mem_singleton] at hx
        rcases hx with hx | rfl
        · exact h1 x (List.mem_append_left _ hx)
        · exact hp
      · exact pw_snoc (List.pairwise_append.mp h2).1 ha
      · rw [← h3, prodC_app, prodC_app]
        show _ * (q1 ^ (q2 + 1) * 1) = _ * (q1 ^ q2 * 1) * q1
        rw [Nat.pow_succ]
        grind
    · rw [bump_last ha]
      intro x hx
      rw [List.mem_append, List.mem_singleton] at hx
      rcases hx with hx | rfl
      · exact ⟨Nat.le_of_lt (ha x hx), hc x (List.mem_append_left _ hx)⟩
      · exact ⟨Nat.le_refl _, Nat.succ_pos _⟩
  · have ha : ∀ x ∈ l, x.1 < p := fun x hx => by
      have := hle x hx
      have : x.1 ≠ p := fun e => hno ⟨x, hx, e⟩
      omega
    refine ⟨0, by rw [getC_none ha]; rfl, ?_, ?_⟩
    · rw [bump_none ha]
      refine ⟨fun x hx => ?_, pw_snoc h2 ha, ?_⟩
      · rw [List.mem_append, List.mem_singleton] at hx
        rcases hx with hx | rfl
        · exact h1 x hx
        · exact hp
      · rw [← h3, prodC_app]
        show _ * (p ^ 1 * 1) = _
        rw [Nat.pow_one, Nat.mul_one]
    · rw [bump_none ha]
      intro x hx
      rw [List.mem_append, List.mem_singleton] at hx
      rcases hx with hx | rfl
      · exact ⟨Nat.le_of_lt (ha x hx), hc x hx⟩
      · exact ⟨Nat.le_refl _, Nat.succ_pos _⟩
theorem FL.keys {n : Nat} {l : List (Nat × Nat)} (h : FL n l) {q : Nat × Nat} (hq : q ∈ l) : getC l q.1 = some q.2 := by
  obtain ⟨_, h2, _⟩ := h
  obtain ⟨a, b, rfl⟩ := List.append_of_mem hq
  have ha : ∀ x ∈ a, x.1 < q.1 := fun x hx => (List.pairwise_append.mp h2).2.2 x hx q List.mem_cons_self
  unfold getC
  rw [List.find?_append, List.find?_eq_none.mpr fun x hx => by
    have := ha x hx
    simp
    omega]
  simp
theorem sort_uniq {ns ms : List Int} (h1 : ns.Pairwise (· ≤ ·)) (h2 : ms.Pairwise (· ≤ ·)) (h : ns.Perm ms) : ns = ms :=
  List.Perm.eq_of_pairwise (fun _ _ _ _ a b => Int.le_antisymm a b) h1 h2 h
theorem FL.len {n : Nat} {l : List (Nat × Nat)} (h : FL n l) (hc : ∀ q ∈ l, 0 < q.2) (hn : n < 10000000000000) : l.length < 64 := by
  have a : ∀ {l : List (Nat × Nat)}, (∀ q ∈ l, Prm q.1) → (∀ q ∈ l, 0 < q.2) → 2 ^ l.length ≤ prodC (fun c => c) l := by
    intro l
    induction l with
    | nil => intro _ _; decide
    | cons q l ih =>
      intro h1 h2
      show 2 ^ (l.length + 1) ≤ q.1 ^ q.2 * prodC (fun c => c) l
      have i := ih (fun x hx => h1 x (List.mem_cons_of_mem _ hx)) (fun x hx => h2 x (List.mem_cons_of_mem _ hx))
      have p2 := (h1 q List.mem_cons_self).1
      have c0 := h2 q List.mem_cons_self
      have : q.1 ≤ q.1 ^ q.2 := Nat.le_self_pow (by omega) q.1
      have := Nat.mul_le_mul (show 2 ≤ q.1 ^ q.2 by omega) i
      rw [Nat.pow_succ]
      omega
  have := a h.1 hc
  rw [h.2.2] at this
  rcases Nat.lt_or_ge l.length 64 with c | c
  · exact c
  · have : 2 ^ 64 ≤ 2 ^ l.length := Nat.pow_le_pow_right (by decide) c
    omega
end

section
variable {P : Program} {w : World} {K : PySem.W.Frag} {mg : Str → Option Value} {base : Heap} {CM CR : Addr}
abbrev s_factors : Stmt := top 19
theorem sc_factors : FnScope ["n", "counts", "p"] ["n"] (defScope s_factors) := ⟨rfl, rfl, rfl, by decide +kernel, rfl, by decide +kernel, by decide +kernel⟩

def spFac : Sp := fun vs H Q _ => ∃ n : Nat, vs = [.int n] ∧ 0 < n ∧ n < 10000000000000 ∧ Smo n ∧ ∀ l p ts H', Same H H' → H p = none → H' p = some (.tup ts) → PrN H' ts l → FL n l → (∀ q ∈ l, 0 < q.2) → Q (.ref p) H'
theorem prodL_take {ps : List Nat} {i r : Nat} (h : ps[i]? = some r) : prodL (ps.take (i + 1)) = prodL (ps.take i) * r := by
  rw [List.take_add_one, h, prodL_app]
  show _ * (r * 1) = _
  rw [Nat.mul_one]
theorem cal_fac (D : Dn K mg "factors" s_factors ["n"]) (B : Bl mg) (c__prime_list : Cal P w K mg base "_prime_list" 3 ["n"] spPList) : Cal P w K mg base "factors" 4 ["n"] spFac := by
  refine D.cal sc_factors (fun vs H Q E h => ?_) (fun f cdv A outer s H vs Q E hr h => ?_)
  · obtain ⟨n, rfl, _⟩ := h
    rfl
  · obtain ⟨n, rfl, n0, nb, hsm, q⟩ := h
    refine ⟨_, (pss_cons (ps_if (pt_cmpR op_gt (pv 0) (pe_glob (v := .int 100000000000000000000) rfl B.c_LARGEST_primes.choose_spec ⟨_, rfl⟩) (nomark _)) pss_never pss_nil)
  (pss_cons (ps_set (i := 1) sc_factors.nd rfl (Or.inr rfl) pe_dnewK)
  (pss_cons (ps_for PassesOwn.never rfl (pi_list (pe_cal c__prime_list (hr.mono (by decide)) rfl (pa_cons (pv 0) pa_nil))) (pg_name (i := 2) sc_factors.nd rfl (Or.inl rfl)) (pss_one (ps_dput (hu_of hr) (pv 1) (pv 2) (pe_op op_add (pe_dget2 (hu_of hr) (pv 1) (pv 2) pe_int ⟨rfl, rfl, rfl, rfl⟩) pe_int) rfl)))
  (pss_one (ps_ret (pe_callTy cr_tupOf rfl B.tuple boot_tuple (pa_cons (pe_lc (own := [("p", 2)]) rfl sc_factors.nd (pi_list (pe_callB (call_sortedDI rfl) rfl B.sorted (by decide +kernel) (pa_cons (pv 1) pa_nil))) (blkOk_by (N := ["n", "counts", "p"]) (sc := defScope s_factors) (own := [("p", 2)]) (by decide +kernel)) (fun _ _ _ _ _ => (pg_name (i := 2) sc_factors.nd rfl (Or.inl rfl))) (fun _ _ _ _ _ => pts_nil) (fun _ _ _ _ _ => (pe_tup (pa_cons (pv 2) (pa_cons (pe_dget (hu_of hr) (pv 1) (pv 2) (fun _ _ => rfl)) pa_nil))))) pa_nil))))))), ?_⟩
    rw [CB.rd_seq]
    walk_at "rs"
    rw [if_neg (by omega)]
    show tSeq _ _ _ _ _
    rw [CB.rd_seq]
    walk_at "rs"
    intro d nd
    have hd0 : (upd H d (.dK [])) d = some (.dK (dI [])) := upd_same
    have s0 := same_upd (o := .dK []) nd
    generalize upd H d (.dK []) = H0 at *
    show tSeq _ _ _ _ _
    rw [CB.rd_seq]
    walk_at "rs"
    refine ⟨n, rfl, n0, nb, hsm, fun ps lp H1 s1 n1 hlp hPL => ?_⟩
    have plen := hPL.len nb
    refine ⟨lp, rfl, ⟨_, SqL.of hlp⟩, ForL.w (xs := vN ps) (fun i σ H2 => ∃ l s2, σ = [some (.int n), some (.ref d), s2] ∧ Same H H2 ∧ H2 d = some (.dK (dI l)) ∧ H2 lp = some (.lst (vN ps)) ∧ FL (prodL (ps.take i)) l ∧ (∀ q ∈ l, ∀ j r, i ≤ j → ps[j]? = some r → q.1 ≤ r) ∧ (∀ q ∈ l, 0 < q.2) ∧ l.length ≤ i)
      ⟨[], _, rfl, s0.trans s1, s1 _ _ hd0, hlp, ⟨fun q hq => by simp at hq, List.Pairwise.nil, rfl⟩, fun q hq => by simp at hq, fun q hq => by simp at hq, Nat.le_refl _⟩ ?_ ?_ ?_⟩
    · rintro i σ H2 _ ⟨l, s2, rfl, _, _, hl, _⟩
      exact SqL.of hl
    · rintro i v σ H2 hv ⟨l, s2, rfl, sm, hd, hl, hF, hle, hpos, hll⟩ N hN
      unfold vN at hv
      rw [List.getElem?_map] at hv
      obtain ⟨r, hr1, rfl⟩ := Option.map_eq_some_iff.mp hv
      have ip : i < ps.length := (List.getElem?_eq_some_iff.mp hr1).1
      have rp : Prm r := hPL.1 r (List.mem_of_getElem? hr1)
      obtain ⟨c, hc, hF2, hb⟩ := count_step hF rp (fun x hx => hle x hx i r (Nat.le_refl _) hr1) hpos
      walk_at "rd"
      refine ⟨.inl ⟨_, .inl hd⟩, _, dget_I hd, (c : Int), ?_, _, dput_I (c := c + 1) hd (small_size (by omega)), ?_⟩
      · rw [← hc]
        cases getC l r <;> rfl
      · refine hN _ _ ⟨bumpC l r (c + 1), _, rfl, same_at sm nd, upd_same, ?_, ?_, ?_, fun x hx => (hb x hx).2, ?_⟩
        · rw [upd_ne (ne_of hl hd (by intro z; cases z))]
          exact hl
        · rw [prodL_take hr1]
          exact hF2
        · intro x hx j r' hj hr'
          have := (hb x hx).1
          have so := List.pairwise_iff_getElem.mp hPL.2.1 i j ip (List.getElem?_eq_some_iff.mp hr').1 (by omega)
          rw [(List.getElem?_eq_some_iff.mp hr1).2, (List.getElem?_eq_some_iff.mp hr').2] at so
          omega
        · unfold bumpC
          split
          · rw [List.length_map]; omega
          · rw [List.length_append]; simp; omega
    rintro σ H2 ⟨l, s2, rfl, sm, hd, hl, hF, _, hpos, _⟩
    have hF : FL n l := by
      have e : prodL (ps.take (vN ps).length) = n := by rw [vN_len, List.take_length]; exact hPL.2.2
      rw [e] at hF
      exact hF
    have llen := hF.len hpos nb
    walk_at "rd"
    refine ⟨dI l, .inl hd, l.map (fun q => (q.1 : Int)), ?_, by rw [List.length_map]; exact llen, fun ys lq hp hs nq => ?_⟩
    · unfold dI
      rw [List.map_map, List.map_map]
      rfl
    have ey : ys = l.map (fun q => (q.1 : Int)) := sort_uniq hs (List.pairwise_map.mpr (List.Pairwise.imp (fun {a b} h => by omega) hF.2.1)) hp
    subst ey
    have sq := same_upd (o := .lst ((l.map (fun q => (q.1 : Int))).map V.int)) nq
    have hq : (upd H2 lq (.lst ((l.map (fun q => (q.1 : Int))).map V.int))) lq = some (.lst ((l.map (fun q => (q.1 : Int))).map V.int)) := upd_same
    have hd3 := sq _ _ hd
    generalize upd H2 lq (.lst ((l.map (fun q => (q.1 : Int))).map V.int)) = H3 at *
    refine ⟨⟨_, SqL.of hq⟩, LcL.w (xs := (l.map (fun q => (q.1 : Int))).map V.int) (fun i D zs H4 => Same H3 H4 ∧ H4 D = some (.lst zs) ∧ H3 D = none ∧ PrN H4 zs (l.take i)) (fun D nD => ⟨same_upd nD, upd_same, nD, trivial⟩) ?_ ?_ ?_⟩
    · rintro D i zs H4 _ ⟨s4, _⟩
      exact SqL.of (s4 _ _ hq)
    · rintro D i v zs H4 hv ⟨s4, hD, nD, hP⟩ N hN
      rw [List.getElem?_map, List.getElem?_map] at hv
      obtain ⟨r, hr1, rfl⟩ := Option.map_eq_some_iff.mp hv
      obtain ⟨x, hx, rfl⟩ := Option.map_eq_some_iff.mp hr1
      have il : i < l.length := (List.getElem?_eq_some_iff.mp hx).1
      have hk := hF.keys (List.mem_of_getElem? hx)
      have hz := hP.len
      walk_at "rd"
      refine ⟨.int (x.2 : Int), ?_, by decide, fun t nt => ⟨zs, ?_, ?_, hN _ _ ⟨?_, upd_same, nD, ?_⟩⟩⟩
      · have := dget_I (p := x.1) (s4 _ _ hd3)
        rw [hk] at this
        exact this
      · exact same_upd nt _ _ hD
      · rw [hz, List.length_take]
        exact small_size (by omega)
      · exact same_at (s4.trans (same_upd nt)) nD
      · rw [List.take_add_one, hx]
        exact PrN.updL (same_upd nt _ _ hD) (PrN.snoc ⟨t, rfl, upd_same⟩ (hP.same (same_upd nt)))
    · rintro D zs H4 nD ⟨s4, hD, _, hP⟩
      try walk_at "rd"
      rw [List.length_map, List.length_map, List.take_length] at hP
      have s24 := (sm.trans sq).trans s4
      exact ⟨zs, .inl ⟨SqL.of hD, fun t nt => q l t zs _ (s24.trans (same_upd nt)) (s24.free nt) upd_same (hP.same (same_upd nt)) hF hpos⟩⟩
end

section
variable {P : Program} {w : World} {K : PySem.W.Frag} {mg : Str → Option Value} {base : Heap} {CM CR : Addr}
theorem prodC_mem (f : Nat → Nat) {l : List (Nat × Nat)} {q : Nat × Nat} (hq : q ∈ l) : q.1 ^ f q.2 ∣ prodC f l := by
  obtain ⟨a, b, rfl⟩ := List.append_of_mem hq
  rw [prodC_app]
  exact ⟨prodC f a * prodC f b, by show prodC f a * (q.1 ^ f q.2 * prodC f b) = _; grind⟩
theorem prodC_take (f : Nat → Nat) (l : List (Nat × Nat)) (i : Nat) : prodC f (l.take i) ∣ prodC f l := by
  have := prodC_app f (l.take i) (l.drop i)
  rw [List.take_append_drop] at this
  exact ⟨_, this⟩
theorem prodC_step (f : Nat → Nat) {l : List (Nat × Nat)} {i : Nat} {q : Nat × Nat} (h : l[i]? = some q) : prodC f (l.take (i + 1)) = prodC f (l.take i) * q.1 ^ f q.2 := by
  rw [List.take_add_one, h, prodC_app]
  show _ * (q.1 ^ f q.2 * 1) = _
  rw [Nat.mul_one]
theorem disc_sq {d : Int} {k : Nat} (h : d % 4 < 2) : (d * ((k * k : Nat) : Int)) % 4 < 2 := by
  rcases sq_mod4 k with ⟨_, z⟩ | ⟨z, _⟩
  · obtain ⟨t, ht⟩ : ∃ t : Nat, k * k = 4 * t := ⟨k * k / 4, by omega⟩
    rw [ht]
    have : d * ((4 * t : Nat) : Int) = 4 * (d * t) := by push_cast; grind
    omega
  · rw [odd_mod4 z]
    exact h
abbrev s_split_discriminant : Stmt := top 26
theorem sc_split_discriminant : FnScope ["D", "f", "p", "k"] ["D"] (defScope s_split_discriminant) := ⟨rfl, rfl, rfl, by decide +kernel, rfl, by decide +kernel, by decide +kernel⟩

def spSplit : Sp := fun vs H Q _ => ∃ (D d : Int) (k : Nat), vs = [.int D] ∧ D = d * ((k * k : Nat) : Int) ∧ 0 < k ∧ Fund d ∧ D.natAbs < 10000000000000 ∧ Smo D.natAbs ∧ ∀ p H', Same H H' → H' p = some (.tup [.int d, .int (k : Int)]) → Q (.ref p) H'
theorem cal_split (D : Dn K mg "split_discriminant" s_split_discriminant ["D"]) (B : Bl mg) (c_factors : Cal P w K mg base "factors" 4 ["n"] spFac) (c_raised : Cal P w K mg base "raised" 1 ["b", "e"] spRaised) : Cal P w K mg base "split_discriminant" 5 ["D"] spSplit := by
  refine D.cal sc_split_discriminant (fun vs H Q E h => ?_) (fun f cdv A outer s H vs Q E hr h => ?_)
  · obtain ⟨D, d, k, rfl, _⟩ := h
    rfl
  · obtain ⟨D, d, k, rfl, eD, k0, hFd, hn, hsm, q⟩ := h
    have D0 : D ≠ 0 := fun z => by
      rw [z] at eD
      rcases Int.mul_eq_zero.mp eD.symm with y | y
      · exact hFd.2.1 y
      · have := Nat.mul_pos k0 k0
        omega
    have D4 : D % 4 < 2 := by rw [eD]; exact disc_sq hFd.1
    refine ⟨_, (pss_cons (ps_set (i := 1) sc_split_discriminant.nd rfl (Or.inl rfl) pe_int)
  (pss_cons (ps_for PassesOwn.never rfl (pi_tup (pe_cal c_factors (hr.mono (by decide)) rfl (pa_cons (pe_callB call_abs rfl B.abs (by decide +kernel) (pa_cons (pv 0) pa_nil)) pa_nil))) (pg_tup rfl (pgs_cons (pg_name (i := 2) sc_split_discriminant.nd rfl (Or.inl rfl)) (pgs_cons (pg_name (i := 3) sc_split_discriminant.nd rfl (Or.inl rfl)) pgs_nil))) (pss_one (ps_aug (i := 1) sc_split_discriminant.nd rfl (Or.inl rfl) (pe_cal c_raised (hr.mono (by decide)) rfl (pa_cons (pv 2) (pa_cons (pe_op op_fdivW (pv 3) pe_int) pa_nil))) iop_mulI)))
  (pss_cons (ps_if (pt_cmpR op_gt (pe_op op_mod (pe_op op_fdivW (pv 0) (pe_op op_mulI (pv 1) (pv 1))) pe_int) pe_int (nomark _)) (pss_one (ps_aug (i := 1) sc_split_discriminant.nd rfl (Or.inl rfl) pe_int iop_fdivW)) pss_nil)
  (pss_one (ps_ret (pe_tup (pa_cons (pe_op op_fdivW (pv 0) (pe_op op_mulI (pv 1) (pv 1))) (pa_cons (pv 1) pa_nil)))))))), ?_⟩
    rw [CB.rd_seq]
    walk_at "rs"
    show tSeq _ _ _ _ _
    rw [CB.rd_seq]
    walk_at "rs"
    refine ⟨D.natAbs, by rw [iabs], by omega, hn, hsm, fun l p ts H1 s1 n1 hp hP hF hpos => ?_⟩
    have hsp := prodC_split l
    have hFn := hF.2.2
    rw [hFn] at hsp
    have sf := split_fund D4 D0 hF.1 hF.2.1 hFn
    have FF : 0 < prodC (fun c => c / 2) l := sf.1
    have Fle : prodC (fun c => c / 2) l ≤ D.natAbs := by
      rw [hsp]
      have M0 : 0 < prodC (fun c => c % 2) l := by
        rcases Nat.eq_zero_or_pos (prodC (fun c => c % 2) l) with z | z
        · rw [z] at hsp; omega
        · exact z
      rw [Nat.mul_assoc]
      exact Nat.le_mul_of_pos_right _ (Nat.mul_pos FF M0)
    have tl : ts.length = l.length := hP.len
    refine ⟨p, rfl, ⟨_, SqT.of hp⟩, ForT.w (xs := ts) (fun i σ H2 => ∃ s2 s3, σ = [some (.int D), some (.int ((prodC (fun c => c / 2) (l.take i) : Nat) : Int)), s2, s3] ∧ H2 = H1) ⟨_, _, rfl, rfl⟩ ?_ ?_ ?_⟩
    · rintro i σ H2 _ ⟨_, _, _, rfl⟩
      exact SqT.of hp
    · rintro i v σ H2 hv ⟨s2, s3, rfl, rfl⟩ N hN
      obtain ⟨x, t, hx, rfl, ht⟩ := hP.get hv
      have xm := List.mem_of_getElem? hx
      have e2 : (x.2 : Int) / 2 = ((x.2 / 2 : Nat) : Int) := by omega
      have b1 : x.1 ^ (x.2 / 2) ≤ D.natAbs := Nat.le_trans (Nat.le_of_dvd FF (prodC_mem (fun c => c / 2) xm)) Fle
      have b2 : prodC (fun c => c / 2) (l.take i) ≤ D.natAbs := Nat.le_trans (Nat.le_of_dvd FF (prodC_take (fun c => c / 2) l i)) Fle
      walk_at "rd"
      refine ⟨_, SqT.of ht, rfl, _, _, rfl, _, _, rfl, rfl, ?_⟩
      try walk_at "rd"
      refine ⟨⟨by decide, by decide +kernel⟩, x.1, x.2 / 2, by rw [e2], by have := (hF.1 x xm).1; omega, by omega, _, rfl, mulN (by omega) (by omega), ?_⟩
      rw [← Int.natCast_mul, ← prodC_step (fun c => c / 2) hx]
      exact hN _ _ ⟨_, _, rfl, rfl⟩
    rintro σ H2 ⟨s2, s3, rfl, rfl⟩
    rw [tl, List.take_length]
    obtain ⟨g0, g1, g2, g3⟩ := sf
    generalize prodC (fun c => c / 2) l = F at *
    have sq2 : ∀ F' : Nat, 0 < F' → F' ≤ D.natAbs → IntMulOk (F' : Int) (F' : Int) ∧ CDivW D ((F' : Int) * (F' : Int)) := fun F' h1 h2 => by
      refine ⟨mulN (by omega) (by omega), ?_⟩
      rw [← Int.natCast_mul]
      have p1 := Nat.mul_pos h1 h1
      have p2 : F' * F' ≤ 10000000000000 * 10000000000000 := Nat.mul_le_mul (by omega) (by omega)
      exact wide_div (b := 100) (by omega) (by show F' * F' < 2 ^ 100; omega) (by decide) (by decide)
    have fin : ∀ (F' : Nat), 0 < F' → ((F' * F' : Nat) : Int) * (D / ((F' * F' : Nat) : Int)) = D → Fund (D / ((F' * F' : Nat) : Int)) → ∀ p H', Same H2 H' → H' p = some (.tup [.int (D / ((F' : Int) * (F' : Int))), .int (F' : Int)]) → Q (.ref p) H' := fun F' h1 h2 h3 p' H' s' hp' => by
      rw [← Int.natCast_mul] at hp'
      have u := fund_uniq h3 hFd h1 k0 (by rw [Int.mul_comm, h2, eD])
      rw [u.1] at hp'
      rw [u.1] at u
      rw [u.2] at hp'
      exact q p' H' (s1.trans s') hp'
    obtain ⟨m1, m2⟩ := sq2 F FF Fle
    show tSeq _ _ _ _ _
    walk_at "rd"
    refine ⟨m1, m2, by decide, ite2 (fun c => ?_) (fun c => ?_)⟩
    · rw [← Int.natCast_mul] at c
      obtain ⟨ev, h1, h2, h3⟩ := g3 (by omega)
      have e : (F : Int) / 2 = ((F / 2 : Nat) : Int) := by omega
      rw [e]
      obtain ⟨m3, m4⟩ := sq2 (F / 2) h1 (by omega)
      exact ⟨⟨by decide, by decide +kernel⟩, m3, m4, by decide, fun p' np => fin (F / 2) h1 h2 h3 p' _ (same_upd np) upd_same⟩
    · rw [← Int.natCast_mul] at c
      exact ⟨m1, m2, by decide, fun p' np => fin F FF g1 (g2 (by omega)) p' _ (same_upd np) upd_same⟩
end

section
variable {P : Program} {w : World} {K : PySem.W.Frag} {mg : Str → Option Value} {base : Heap} {CM CR : Addr}
abbrev s__law_is_told_disc : Stmt := top 39
theorem sc__law_is_told_disc : FnScope ["d"] ["d"] (defScope s__law_is_told_disc) := ⟨rfl, rfl, rfl, by decide +kernel, rfl, by decide +kernel, by decide +kernel⟩

theorem discB_neg {n : Int} (h : n < 0) : discB n = decide (n % 4 < 2) := by
  unfold discB
  rw [isq_neg h]
  by_cases c : n % 4 < 2
  · rw [decide_eq_true c, decide_eq_true (by omega)]
    rfl
  · rw [decide_eq_false c, decide_eq_false (by omega)]
    rfl
/-- no integer, or an integer -/
def spTD (K : PySem.W.Frag) : Sp := fun vs H Q _ => ∃ v : V, vs = [v] ∧ ((∃ T, TyX K H v (.type T) ∧ T ∈ kinds ∧ (T == "int") = false ∧ Q (.bl false) H) ∨ ∃ n : Int, v = .int n ∧ n < BIG ∧ Q (.bl (discB n)) H)
theorem cal_td (D : Dn K mg "_law_is_told_disc" s__law_is_told_disc ["d"]) (B : Bl mg) (c__law_whole : Cal P w K mg base "_law_whole" 1 ["value"] (spInt K)) (c__law_root : Cal P w K mg base "_law_root" 1 ["n"] spLawRoot) : Cal P w K mg base "_law_is_told_disc" 2 ["d"] (spTD K) := by
  refine D.cal sc__law_is_told_disc (fun vs H Q E h => ?_) (fun f cdv A outer s H vs Q E hr h => ?_)
  · obtain ⟨v, rfl, _⟩ := h
    rfl
  · obtain ⟨v, rfl, ⟨T, ty, hT, hi, q⟩ | ⟨n, rfl, hn, q⟩⟩ := h
    · refine ⟨_, (pss_one (ps_ret (pe_and (pe_cal c__law_whole (hr.mono (by decide)) rfl (pa_cons (pv 0) pa_nil)) (pe_and (pe_cmpR op_lt (pe_op op_mod (pe_callTy call_int1 rfl B.int boot_int (pa_cons (pv 0) pa_nil)) pe_int) pe_int (nomark _)) (pe_and (pe_cmpR op_ne (pv 0) pe_int (nomark _)) (pe_one (pe_or (pe_cmpR op_lt (pv 0) pe_int (nomark _)) (pe_one (pe_cmpR op_ne (pe_op op_powI (pe_cal c__law_root (hr.mono (by decide)) rfl (pa_cons (pv 0) pa_nil)) pe_int) (pv 0) (nomark _)))))))))), ?_⟩
      walk_at "rd"
      refine ⟨v, T, rfl, ty, hT, false, by rw [hi], ?_⟩
      rw [if_neg (by decide)]
      exact q
    refine ⟨_, (pss_one (ps_ret (pe_and (pe_cal c__law_whole (hr.mono (by decide)) rfl (pa_cons (pv 0) pa_nil)) (pe_and (pe_cmpR op_lt (pe_op op_mod (pe_callTy call_int1 rfl B.int boot_int (pa_cons (pv 0) pa_nil)) pe_int) pe_int (nomark _)) (pe_and (pe_cmpR op_ne (pv 0) pe_int (nomark _)) (pe_one (pe_or (pe_cmpR op_lt (pv 0) pe_int (nomark _)) (pe_one (pe_cmpR op_ne (pe_op op_powI (pe_cal c__law_root (hr.mono (by decide)) rfl (pa_cons (pv 0) pa_nil)) pe_int) (pv 0) (nomark _)))))))))), ?_⟩
    walk_at "rd"
    refine ⟨.int n, "int", rfl, .base (.int n), by decide, true, rfl, ?_⟩
    rw [if_pos rfl]
    refine ⟨by decide, ite2 (fun c1 => ?_) (fun c1 => ?_)⟩
    · refine ite2 (fun c2 => ?_) (fun c2 => ?_)
      · subst c2
        exact q
      · refine ite2 (fun c3 => ?_) (fun c3 => ⟨n, rfl, by omega, hn, ?_⟩)
        · rw [discB_neg c3, decide_eq_true c1] at q
          exact q
        · try walk_at "rd"
          refine ⟨powI (n := 3004) (isq_big (by omega) hn) (by decide) (by decide) (by decide), ?_⟩
          have e : (!decide (isq n ^ (2 : Int).toNat = n)) = discB n := by
            unfold discB sqB
            rw [decide_eq_true (show n % 4 = 0 ∨ n % 4 = 1 by omega), Bool.true_and, show (2 : Int).toNat = 2 from rfl, Int.pow_succ, Int.pow_succ, Int.pow_zero, Int.one_mul]
            by_cases c : isq n * isq n = n
            · rw [decide_eq_true c, decide_eq_true ⟨by omega, c⟩]
            · rw [decide_eq_false c, decide_eq_false fun z => c z.2]
          show Q (.bl (!decide (isq n ^ (2 : Int).toNat = n))) H
          rw [e]
          exact q
    · have e : discB n = false := by
        unfold discB
        rw [decide_eq_false (by omega)]
        rfl
      rw [e] at q
      exact q
end

section
variable {P : Program} {w : World} {K : PySem.W.Frag} {mg : Str → Option Value} {base : Heap} {CM CR aU a1 a2 : Addr}
abbrev s__law_says : Stmt := top 36
theorem sc__law_says : FnScope ["value", "due"] ["value", "due"] (defScope s__law_says) := ⟨rfl, rfl, rfl, by decide +kernel, rfl, by decide +kernel, by decide +kernel⟩

def spSays : Sp := fun vs H Q _ => ∃ a b : Bool, vs = [.bl a, .bl b] ∧ Q (.bl (a == b)) H
theorem cal_says (D : Dn K mg "_law_says" s__law_says ["value", "due"]) (B : Bl mg) : Cal P w K mg base "_law_says" 1 ["value", "due"] spSays := by
  refine D.cal sc__law_says (fun vs H Q E h => ?_) (fun f cdv A outer s H vs Q E hr h => ?_)
  · obtain ⟨a, b, rfl, _⟩ := h
    rfl
  · obtain ⟨a, b, rfl, q⟩ := h
    refine ⟨_, (pss_one (ps_ret (pe_and (pe_callB call_isi rfl B.isinstance (by decide +kernel) (pa_cons (pv 0) (pa_cons (pe_bltn (v := .ty "bool") rfl B.bool boot_bool rfl) pa_nil))) (pe_one (pe_cmpR op_eq (pv 0) (pv 1) (nomark _)))))), ?_⟩
    walk_at "rd"
    refine isi_mk (.base (.bl a)) (b := true) (by decide +kernel) ⟨true, rfl, ?_⟩
    rw [if_pos rfl]
    refine ⟨by simp [scal], ?_⟩
    try walk_at "rd"
    have e : (decide (a = b)) = (a == b) := by cases a <;> cases b <;> rfl
    first
    | exact q
    | (rw [← e] at q; exact q)
abbrev s__law_no_word : Stmt := top 32
theorem sc__law_no_word : FnScope ["value"] ["value"] (defScope s__law_no_word) := ⟨rfl, rfl, rfl, by decide +kernel, rfl, by decide +kernel, by decide +kernel⟩

def spNoWord (K : PySem.W.Frag) : Sp := fun vs H Q _ => ∃ (v : V) (T : String), vs = [v] ∧ TyX K H v (.type T) ∧ T ∈ kinds ∧ (T == "str") = false ∧ Q v H
theorem cal_no_word (D : Dn K mg "_law_no_word" s__law_no_word ["value"]) (B : Bl mg) : Cal P w K mg base "_law_no_word" 1 ["value"] (spNoWord K) := by
  refine D.cal sc__law_no_word (fun vs H Q E h => ?_) (fun f cdv A outer s H vs Q E hr h => ?_)
  · obtain ⟨v, T, rfl, _⟩ := h
    rfl
  · obtain ⟨v, T, rfl, ty, hT, hs, q⟩ := h
    refine ⟨_, (pss_one (ps_ret (pe_ifExp (pt_val (pe_callB call_isi rfl B.isinstance (by decide +kernel) (pa_cons (pv 0) (pa_cons (pe_bltn (v := .ty "str") rfl B.str boot_str rfl) pa_nil)))) pe_str (pv 0)))), ?_⟩
    walk_at "rd"
    refine isi_mk ty (kit_k hT (by simp)) ⟨false, ?_, ?_⟩
    · rw [hs, show ("str" == "int") = false by decide, Bool.and_false, Bool.or_false]
    rw [if_neg Bool.false_ne_true]
    exact q
def Large (CR : Addr) (H : Hp) (E : XK) : Prop := ∀ d H', Same H H' → H d = none → H' d = some (.xd [("reason", .str "large")]) → E (.ref CR) (some d) H'
/-- what a discriminant within the bound must be -/
def Spl (D d : Int) (k : Nat) : Prop := D = d * ((k * k : Nat) : Int) ∧ 0 < k ∧ Fund d ∧ D.natAbs ≤ 1000000000000 ∧ Smo D.natAbs
abbrev s_fundamental : Stmt := top 29
theorem sc_fundamental : FnScope ["D"] ["D"] (defScope s_fundamental) := ⟨rfl, rfl, rfl, by decide +kernel, rfl, by decide +kernel, by decide +kernel⟩

def OrD (K : PySem.W.Frag) (CM CR : Addr) (H : Hp) (v : V) (E : XK) (G : Int → Nat → Prop) : Prop := (NotD K H v ∧ ∀ H', Same H H' → E (.ref CM) none H') ∨ ∃ D : Int, v = .int D ∧ D < BIG ∧ discB D = true ∧ ((1000000000000 < D.natAbs ∧ Large CR H E) ∨ ∃ d k, Spl D d k ∧ G d k)
def spFun (K : PySem.W.Frag) (CM CR : Addr) : Sp := fun vs H Q E => ∃ v : V, vs = [v] ∧ OrD K CM CR H v E fun d k => ∀ p H', Same H H' → H' p = some (.tup [.int d, .int (k : Int)]) → Q (.ref p) H'
theorem cal_fun (D : Dn K mg "fundamental" s_fundamental ["D"]) (B : Bl mg) (c_check_discriminant : CalX P w K mg base "check_discriminant" 3 ["D"] (spChk K CM)) (c_split_discriminant : Cal P w K mg base "split_discriminant" 5 ["D"] spSplit) (e_E : ErrI P w K mg base CM CR) : CalX P w K mg base "fundamental" 6 ["D"] (spFun K CM CR) := by
  refine D.calX sc_fundamental (fun vs H Q E h => ?_) (fun f cdv A outer s H vs Q E hr h => ?_)
  · obtain ⟨v, rfl, _⟩ := h
    rfl
  · obtain ⟨v, rfl, h⟩ := h
    refine ⟨_, (pss_cons (ps_expr (pe_calS c_check_discriminant (takes_of rfl rfl rfl rfl) (hr.mono (by decide)) rfl (pa_cons (pv 0) pa_nil)))
  (pss_cons (ps_if (pt_cmpR op_gt (pe_callB call_abs rfl B.abs (by decide +kernel) (pa_cons (pv 0) pa_nil)) (pe_glob (v := .int 1000000000000) rfl B.c_LARGEST_signs.choose_spec ⟨_, rfl⟩) (nomark _)) (pss_one (ps_ref e_E rfl (takes_of rfl rfl rfl rfl) (hr.mono (by decide)) rfl)) pss_nil)
  (pss_one (ps_ret (pe_cal c_split_discriminant (hr.mono (by decide)) rfl (pa_cons (pv 0) pa_nil)))))), ?_⟩
    walk_at "rd"
    refine ⟨v, rfl, ?_⟩
    rcases h with ⟨hn, e⟩ | ⟨n, rfl, hb, hd, h⟩
    · exact .inl ⟨hn, e⟩
    refine .inr ⟨n, rfl, hb, hd, fun H1 s1 => ?_⟩
    have pw : (10 : Int) ^ Int.toNat 12 = 1000000000000 := by decide +kernel
    refine ⟨_, rfl, ?_⟩
    rw [iabs]
    rcases h with ⟨hl, e⟩ | ⟨d, k, ⟨h1, h2, h3, h4, h5⟩, q⟩
    · rw [if_pos (by omega)]
      exact fun d H' s' nd hx => e d H' (s1.trans s') (s1.free nd) hx
    · rw [if_neg (by omega)]
      exact ⟨n, d, k, rfl, h1, h2, h3, by omega, h5, fun p H' s' hp => q p H' (s1.trans s') hp⟩
abbrev s_is_fundamental : Stmt := top 30
theorem sc_is_fundamental : FnScope ["D"] ["D"] (defScope s_is_fundamental) := ⟨rfl, rfl, rfl, by decide +kernel, rfl, by decide +kernel, by decide +kernel⟩

def spIsF (K : PySem.W.Frag) (CM CR : Addr) : Sp := fun vs H Q E => ∃ v : V, vs = [v] ∧ OrD K CM CR H v E fun _ k => ∀ H', Same H H' → Q (.bl (decide (k = 1))) H'
theorem cal_isf (D : Dn K mg "is_fundamental" s_is_fundamental ["D"]) (B : Bl mg) (c_fundamental : CalX P w K mg base "fundamental" 6 ["D"] (spFun K CM CR)) : CalX P w K mg base "is_fundamental" 7 ["D"] (spIsF K CM CR) := by
  refine D.calX sc_is_fundamental (fun vs H Q E h => ?_) (fun f cdv A outer s H vs Q E hr h => ?_)
  · obtain ⟨v, rfl, _⟩ := h
    rfl
  · obtain ⟨v, rfl, h⟩ := h
    refine ⟨_, (pss_one (ps_ret (pe_cmpR op_eq (pe_ix ix_tup (pe_calS c_fundamental (takes_of rfl rfl rfl rfl) (hr.mono (by decide)) rfl (pa_cons (pv 0) pa_nil)) pe_int (fun _ _ => rfl)) pe_int (nomark _)))), ?_⟩
    walk_at "rd"
    refine ⟨v, rfl, ?_⟩
    rcases h with ⟨hn, e⟩ | ⟨n, rfl, hb, hd, h⟩
    · exact .inl ⟨hn, e⟩
    refine .inr ⟨n, rfl, hb, hd, ?_⟩
    rcases h with ⟨hl, e⟩ | ⟨d, k, hS, q⟩
    · exact .inl ⟨hl, e⟩
    · refine .inr ⟨d, k, hS, fun p H' s' hp => ⟨p, rfl, _, SqT.of hp, _, rfl, by simp [scal], ?_⟩⟩
      have e : decide (V.int (k : Int) = V.int 1) = decide (k = 1) := by
        by_cases c : k = 1
        · subst c; rfl
        · rw [decide_eq_false c, decide_eq_false (fun z => c (by have := V.int.inj z; omega))]
      rw [e]
      exact q H' s'
abbrev s__law_plain : Stmt := top 35
theorem sc__law_plain : FnScope ["value", "item"] ["value"] (defScope s__law_plain) := ⟨rfl, rfl, rfl, by decide +kernel, rfl, by decide +kernel, by decide +kernel⟩

def spPlainI : Sp := fun vs H Q _ => ∃ n : Int, vs = [.int n] ∧ Q (.int n) H
theorem cal_plain (D : Dn K mg "_law_plain" s__law_plain ["value"]) (B : Bl mg) (c__law_whole : Cal P w K mg base "_law_whole" 1 ["value"] (spInt K)) : Cal P w K mg base "_law_plain" 2 ["value"] spPlainI := by
  refine D.cal sc__law_plain (fun vs H Q E h => ?_) (fun f cdv A outer s H vs Q E hr h => ?_)
  · obtain ⟨n, rfl, _⟩ := h
    rfl
  · obtain ⟨n, rfl, q⟩ := h
    refine ⟨_, (pss_cons (ps_if (pt_val (pe_callB call_isi rfl B.isinstance (by decide +kernel) (pa_cons (pv 0) (pa_cons (pe_bltn (v := .ty "tuple") rfl B.tuple boot_tuple rfl) pa_nil)))) pss_never pss_nil)
  (pss_one (ps_ret (pe_ifExp (PW.pt (pw_or (pt_cmpR op_isN (pv 0) pe_non (nomark _)) (pw_or1 (pt_val (pe_cal c__law_whole (hr.mono (by decide)) rfl (pa_cons (pv 0) pa_nil)))))) (pv 0) pe_str)))), ?_⟩
    walk_at "rd"
    refine isi_mk (.base (.int n)) (b := false) (by decide +kernel) ⟨false, rfl, ?_⟩
    rw [if_neg Bool.false_ne_true]
    refine ⟨.int n, "int", rfl, .base (.int n), by decide, true, rfl, ?_⟩
    rw [if_pos rfl]
    exact q
/-- a new tuple of the same ints -/
def spPlainN : Sp := fun vs H Q _ => ∃ (r : Addr) (ns : List Int), vs = [.ref r] ∧ H r = some (.tup (ns.map V.int)) ∧ ns.length ≤ 1000000 ∧ ∀ p H', Same H H' → H p = none → H' p = some (.tup (ns.map V.int)) → Q (.ref p) H'
theorem cal_plainN (D : Dn K mg "_law_plain" s__law_plain ["value"]) (B : Bl mg) (c__law_plain : Cal P w K mg base "_law_plain" 2 ["value"] spPlainI) (c__law_whole : Cal P w K mg base "_law_whole" 1 ["value"] (spInt K)) : Cal P w K mg base "_law_plain" 3 ["value"] spPlainN := by
  refine D.cal sc__law_plain (fun vs H Q E h => ?_) (fun f cdv A outer s H vs Q E hr h => ?_)
  · obtain ⟨r, ns, rfl, _⟩ := h
    rfl
  · obtain ⟨r, ns, rfl, ht, hlen, q⟩ := h
    refine ⟨_, (pss_cons (ps_if (pt_val (pe_callB call_isi rfl B.isinstance (by decide +kernel) (pa_cons (pv 0) (pa_cons (pe_bltn (v := .ty "tuple") rfl B.tuple boot_tuple rfl) pa_nil)))) (pss_one (ps_ret (pe_callTy cr_tupOf rfl B.tuple boot_tuple (pa_cons (pe_lc (own := [("item", 1)]) rfl sc__law_plain.nd (pi_tup (pv 0)) (blkOk_by (N := ["value", "item"]) (sc := defScope s__law_plain) (own := [("item", 1)]) (by decide +kernel)) (fun _ _ _ _ _ => (pg_name (i := 1) sc__law_plain.nd rfl (Or.inl rfl))) (fun _ _ _ _ _ => pts_nil) (fun _ _ _ _ _ => (pe_cal c__law_plain (hr.mono (by decide)) rfl (pa_cons (pv 1) pa_nil)))) pa_nil)))) pss_nil)
  (pss_one (ps_ret (pe_ifExp (PW.pt (pw_or (pt_cmpR op_isN (pv 0) pe_non (nomark _)) (pw_or1 (pt_val (pe_cal c__law_whole (hr.mono (by decide)) rfl (pa_cons (pv 0) pa_nil)))))) (pv 0) pe_str)))), ?_⟩
    walk_at "rd"
    refine isi_mk (.base (.tup ht)) (b := true) (by decide +kernel) ⟨true, rfl, ?_⟩
    rw [if_pos rfl]
    refine ⟨⟨_, SqT.of ht⟩, LcT.w (xs := ns.map V.int) (fun i D zs H3 => zs = (ns.take i).map V.int ∧ H3 = upd H D (.lst zs) ∧ H D = none) (fun D nD => ⟨rfl, rfl, nD⟩) ?_ ?_ ?_⟩
    · rintro D i zs H3 _ ⟨_, rfl, nD⟩
      exact SqT.of (by rw [upd_ne (ne_of_none ht nD)]; exact ht)
    · rintro D i v zs H3 hv ⟨rfl, rfl, nD⟩ N hN
      rw [List.getElem?_map] at hv
      obtain ⟨n, hn, rfl⟩ := Option.map_eq_some_iff.mp hv
      have hi : i < ns.length := (List.getElem?_eq_some_iff.mp hn).1
      walk_at "rd"
      refine ⟨n, rfl, _, upd_same, ?_, hN _ _ ⟨?_, upd_upd, nD⟩⟩
      · rw [List.length_map, List.length_take]
        exact small_size (by omega)
      · rw [List.take_add_one, hn, List.map_append]
        rfl
    · rintro D zs H3 nD ⟨rfl, rfl, _⟩
      try walk_at "rd"
      rw [List.length_map, List.take_length]
      refine ⟨_, .inl ⟨SqL.of upd_same, fun l nl => q l _ ((same_upd nD).trans (same_upd nl)) ((same_upd nD).free nl) upd_same⟩⟩
abbrev s__law_told : Stmt := top 41
theorem sc__law_told : FnScope ["which", "d", "e"] ["which", "d"] (defScope s__law_told) := ⟨rfl, rfl, rfl, by decide +kernel, rfl, by decide +kernel, by decide +kernel⟩

def spTold (K : PySem.W.Frag) : Sp := fun vs H Q _ => ∃ (wh : Int) (v : V), vs = [.int wh, v] ∧ (wh = 0 ∨ wh = 1) ∧ ((NotD K H v ∧ ∀ H', Same H H' → Q (.str "malformed") H') ∨ ∃ D : Int, v = .int D ∧ D < BIG ∧ discB D = true ∧
  ((1000000000000 < D.natAbs ∧ ∀ H', Same H H' → Q (.str "large") H') ∨ ∃ d k, Spl D d k ∧ (wh = 0 → ∀ p H', Same H H' → H' p = some (.tup [.int d, .int (k : Int)]) → Q (.ref p) H') ∧ (wh = 1 → ∀ H', Same H H' → Q (.bl (decide (k = 1))) H')))
theorem cal_told (D : Dn K mg "_law_told" s__law_told ["which", "d"]) (B : Bl mg) (c_fundamental : CalX P w K mg base "fundamental" 6 ["D"] (spFun K CM CR)) (c_is_fundamental : CalX P w K mg base "is_fundamental" 7 ["D"] (spIsF K CM CR)) (c__law_plain : Cal P w K mg base "_law_plain" 3 ["value"] spPlainN)
    (c__law_no_word : Cal P w K mg base "_law_no_word" 1 ["value"] (spNoWord K)) (e_E : ErrI P w K mg base CM CR) : Cal P w K mg base "_law_told" 8 ["which", "d"] (spTold K) := by
  refine D.cal sc__law_told (fun vs H Q E h => ?_) (fun f cdv A outer s H vs Q E hr h => ?_)
  · obtain ⟨wh, v, rfl, _⟩ := h
    rfl
  · obtain ⟨wh, v, rfl, hw, h⟩ := h
    obtain ⟨fI, fdI, R, _, _⟩ := e_E.r
    refine ⟨_, (pss_one (ps_tryA rfl rfl sc__law_told.nd takes0 (fun W pn xe tk _ => (pss_one (ps_ret (pe_cal c__law_no_word (hr.mono (by decide)) rfl (pa_cons (pe_ifExp (pt_cmpR op_eq (pv 0) pe_int (nomark _)) (pe_cal c__law_plain (hr.mono (by decide)) rfl (pa_cons (pe_calS c_fundamental tk (hr.mono (by decide)) rfl (pa_cons (pv 1) pa_nil)) pa_nil)) (pe_calS c_is_fundamental tk (hr.mono (by decide)) rfl (pa_cons (pv 1) pa_nil))) pa_nil))))) (HdA.bare ⟨rfl, by decide, .inl e_E.m.g⟩ (fun a oe cls d pn _ _ => (pss_one (ps_ret pe_str))) (HdA.named ⟨rfl, by decide, .inl R.g⟩ (i := 2) rfl rfl (fun a oe cls d pn hz hf => (pss_one (ps_ret (pe_xf R.xf R.n hz hf (pv 2))))) HdA.nil)))), ?_⟩
    walk_at "rd"
    rcases hw with rfl | rfl
    · rw [if_pos rfl]
      refine ⟨v, rfl, ?_⟩
      rcases h with ⟨hn, q⟩ | ⟨n, rfl, hb, hd, h⟩
      · exact .inl ⟨hn, fun H' sm => ⟨true, e_E.m.mm, fun _ a na => q H' sm, fun z => by cases z⟩⟩
      refine .inr ⟨n, rfl, hb, hd, ?_⟩
      rcases h with ⟨hl, q⟩ | ⟨d, k, hS, q, _⟩
      · exact .inl ⟨hl, fun d H' sm nd hx => ⟨false, R.rm, fun z => (by cases z), fun _ => ⟨true, R.rr, fun _ a na => ⟨_, rfl, rfl, rfl, d, _, _, rfl, hx, rfl, q H' sm⟩, fun z => by cases z⟩⟩⟩
      · exact .inr ⟨d, k, hS, fun p H1 s1 hp => ⟨p, [d, (k : Int)], rfl, hp, by show 2 ≤ 1000000; decide, fun p2 H2 s2 n2 hp2 => ⟨_, "tuple", rfl, .base (.tup hp2), by decide, by decide, q rfl p2 H2 (s1.trans s2) hp2⟩⟩⟩
    · rw [if_neg (by decide)]
      refine ⟨v, rfl, ?_⟩
      rcases h with ⟨hn, q⟩ | ⟨n, rfl, hb, hd, h⟩
      · exact .inl ⟨hn, fun H' sm => ⟨true, e_E.m.mm, fun _ a na => q H' sm, fun z => by cases z⟩⟩
      refine .inr ⟨n, rfl, hb, hd, ?_⟩
      rcases h with ⟨hl, q⟩ | ⟨d, k, hS, _, q⟩
      · exact .inl ⟨hl, fun d H' sm nd hx => ⟨false, R.rm, fun z => (by cases z), fun _ => ⟨true, R.rr, fun _ a na => ⟨_, rfl, rfl, rfl, d, _, _, rfl, hx, rfl, q H' sm⟩, fun z => by cases z⟩⟩⟩
      · exact .inr ⟨d, k, hS, fun H1 s1 => ⟨_, "bool", rfl, .base (.bl _), by decide, by decide, q rfl H1 s1⟩⟩
end
section
variable {P : Program} {w : World} {K : PySem.W.Frag} {mg : Str → Option Value} {base : Heap} {CM CR aU a1 a2 : Addr}
abbrev s__law_drawn_disc : Stmt := top 40
theorem sc__law_drawn_disc : FnScope ["state", "most", "sign", "d", "turn"] ["state", "most", "sign"] (defScope s__law_drawn_disc) := ⟨rfl, rfl, rfl, by decide +kernel, rfl, by decide +kernel, by decide +kernel⟩

def spDD : Sp := fun vs H Q _ => ∃ (st : Addr) (x y m sg : Int), vs = [.ref st, .int m, .int sg] ∧ H st = some (.lst [.int x, .int y]) ∧ 2 < m ∧ m < 10000000000000000000 ∧ (sg = 1 ∨ sg = -1) ∧
  ∀ d x' y' : Int, 3 ≤ d → d ≤ m + 6 → Q (.int (sg * d)) (upd H st (.lst [.int x', .int y']))
theorem cal_dd (D : Dn K mg "_law_drawn_disc" s__law_drawn_disc ["state", "most", "sign"]) (B : Bl mg) (c__law_take : Cal P w K mg base "_law_take" 1 ["state", "m"] spTake) (c__law_is_told_disc : Cal P w K mg base "_law_is_told_disc" 2 ["d"] (spTD K)) :
    Cal P w K mg base "_law_drawn_disc" 3 ["state", "most", "sign"] spDD := by
  refine D.cal sc__law_drawn_disc (fun vs H Q E h => ?_) (fun f cdv A outer s H vs Q E hr h => ?_)
  · obtain ⟨st, x, y, m, sg, rfl, _⟩ := h
    rfl
  · obtain ⟨st, x, y, m, sg, rfl, hst, hm, hm2, hsg, q⟩ := h
    have hB := BIG_pos
    have hB2 : (20000000000000000000 : Int) < BIG := by decide +kernel
    have sl : -(2 ^ 64) < sg ∧ sg < 2 ^ 64 := by rcases hsg with rfl | rfl <;> decide
    refine ⟨_, (pss_cons (ps_set (i := 3) sc__law_drawn_disc.nd rfl (Or.inl rfl) (pe_op op_add pe_int (pe_cal c__law_take (hr.mono (by decide)) rfl (pa_cons (pv 0) (pa_cons (pe_op op_sub (pv 1) pe_int) pa_nil)))))
  (pss_cons (ps_for PassesOwn.never rfl (pi_range1 rfl B.range (pa_cons pe_int pa_nil)) (pg_name (i := 4) sc__law_drawn_disc.nd rfl (Or.inl rfl)) (pss_one (ps_if (pt_not (pt_val (pe_cal c__law_is_told_disc (hr.mono (by decide)) rfl (pa_cons (pe_op op_mulI (pv 2) (pv 3)) pa_nil)))) (pss_one (ps_set (i := 3) sc__law_drawn_disc.nd rfl (Or.inl rfl) (pe_op op_add (pv 3) pe_int))) pss_nil)))
  (pss_one (ps_ret (pe_op op_mulI (pv 2) (pv 3)))))), ?_⟩
    walk_at "rd"
    refine ⟨st, x, y, m - 2, rfl, hst, by omega, Nat.lt_of_le_of_lt (log_lt (k := 63) (by show (m - 2).natAbs < 2 ^ 64; omega)) (by decide), fun v x1 y1 v0 v1 => ?_⟩
    try walk_at "rd"
    refine ⟨by decide, by decide, ForR.w (fun i σ H1 => i ≤ 6 ∧ ∃ d s4, σ = [some (.ref st), some (.int m), some (.int sg), some (.int d), s4] ∧ H1 = upd H st (.lst [.int x1, .int y1]) ∧ 3 ≤ d ∧ d ≤ m + i) ⟨by decide, _, _, rfl, rfl, by omega, by omega⟩ ?_ ?_⟩
    · rintro i σ H1 hi ⟨hi6, d, s4, rfl, rfl, d3, dm⟩ N hN
      have hi' : i < 6 := hi
      walk_at "rd"
      refine ⟨mulL sl, .int (sg * d), rfl, .inr ⟨sg * d, rfl, by rcases hsg with rfl | rfl <;> omega, ?_⟩⟩
      refine ⟨_, rfl, ite2 (fun c => ?_) (fun c => ?_)⟩
      · exact hN _ _ ⟨by omega, d + 1, _, rfl, rfl, by omega, by omega⟩
      · exact hN _ _ ⟨by omega, d, _, rfl, rfl, by omega, by omega⟩
    · rintro σ H1 ⟨_, d, s4, rfl, rfl, d3, dm⟩
      walk_at "rd"
      refine ⟨mulL sl, ?_⟩
      exact q d x1 y1 d3 (by have e6 : ((6 : Int).toNat : Int) = 6 := rfl; omega)
end

/-! ### the discriminants that the law makes -/
def PR : List Nat := [3, 5, 7, 11, 13, 17, 101, 997, 9973]
theorem prm_chk {p : Nat} (h2 : 2 ≤ p) (h : (List.range p).all (fun e => decide (e < 2) || p % e != 0) = true) : Prm p := by
  refine ⟨h2, fun e e2 ep d => ?_⟩
  have := List.all_eq_true.mp h e (List.mem_range.mpr ep)
  rw [Bool.or_eq_true] at this
  rcases this with c | c
  · have := of_decide_eq_true c
    omega
  · rw [Nat.mod_eq_zero_of_dvd d] at c
    cases c
theorem pr_prm : ∀ l ∈ PR, Prm l := by
  intro l hl
  unfold PR at hl
  simp only [List.mem_cons, List.not_mem_nil, or_false] at hl
  rcases hl with rfl | rfl | rfl | rfl | rfl | rfl | rfl | rfl | rfl <;> exact prm_chk (by decide) (by decide +kernel)
theorem pr_len {i l : Nat} (h : PR[i]? = some l) : i < 9 := (List.getElem?_eq_some_iff.mp h).1
theorem pr_mono {i j l r : Nat} (hij : i < j) (h : PR[i]? = some l) (h' : PR[j]? = some r) : l < r := by
  have a := pr_len h
  have b := pr_len h'
  have e : ∀ i, i < 9 → ∀ j, j < 9 → i < j → PR[i]?.getD 0 < PR[j]?.getD 0 := by decide +kernel
  have := e i a j b hij
  rw [h, h'] at this
  exact this
theorem pr_small {i l : Nat} (h : PR[i]? = some l) : (i < 8 → l ≤ 1000) ∧ l % 2 = 1 ∧ 3 ≤ l ∧ l ≤ 9973 ∧ (i = 8 → l = 9973) := by
  have a := pr_len h
  have e : ∀ i, i < 9 → ((i < 8 → PR[i]?.getD 0 ≤ 1000) ∧ PR[i]?.getD 0 % 2 = 1 ∧ 3 ≤ PR[i]?.getD 0 ∧ PR[i]?.getD 0 ≤ 9973 ∧ (i = 8 → PR[i]?.getD 0 = 9973)) := by decide +kernel
  have := e i a
  rw [h] at this
  exact this
/-- an odd number made of the first primes -/
def Mk (i N : Nat) : Prop := N % 2 = 1 ∧ SqF N ∧ N < 1000000 ∧ (∀ j l, i ≤ j → PR[j]? = some l → ¬ l ∣ N) ∧ (i ≤ 8 → ∀ m, m ∣ N → Rough m → m = 1) ∧ ∀ m, m ∣ N → Rough m → m ∣ 9973
theorem mk_one : Mk 0 1 := by
  refine ⟨by decide, sqF_one, by decide, fun j l _ h d => ?_, fun _ m d _ => ?_, fun m d _ => ?_⟩
  · have := (pr_small h).2.2.1
    have := Nat.le_of_dvd (by decide) d
    omega
  · have := Nat.le_of_dvd (by decide) d
    have : m ≠ 0 := fun z => by subst z; simp at d
    omega
  · exact Nat.dvd_trans d (Nat.one_dvd _)
theorem Mk.skip {i N : Nat} (h : Mk i N) : Mk (i + 1) N := by
  obtain ⟨h1, h2, h3, h4, h5, h6⟩ := h
  exact ⟨h1, h2, h3, fun j l hj => h4 j l (by omega), fun c => h5 (by omega), h6⟩
theorem Mk.step {i N l : Nat} (h : Mk i N) (hl : PR[i]? = some l) (hb : N * l < 1000000) : Mk (i + 1) (N * l) := by
  obtain ⟨h1, h2, h3, h4, h5, h6⟩ := h
  obtain ⟨l1, l2, l3, l4, l5⟩ := pr_small hl
  have lp := pr_prm l (List.mem_of_getElem? hl)
  have il := pr_len hl
  refine ⟨?_, ?_, hb, ?_, ?_, ?_⟩
  · rw [Nat.mul_mod, h1, l2]
  · rw [Nat.mul_comm]
    exact sqF_mul lp h2 (h4 i l (Nat.le_refl _) hl)
  · intro j r hj hr d
    have rp := pr_prm r (List.mem_of_getElem? hr)
    rcases rp.euc d with z | z
    · exact h4 j r (by omega) hr z
    · have := rp.eq_of_dvd lp z
      have := pr_mono (show i < j by omega) hl hr
      omega
  · intro c m d hr
    exact h5 (by omega) m (rough_mul hr (by omega) (l1 (by omega)) d) hr
  · intro m d hr
    rcases Nat.lt_or_ge i 8 with c | c
    · exact h6 m (rough_mul hr (by omega) (l1 c) d) hr
    · have e := l5 (by omega)
      have g : Nat.Coprime m N := h5 (by omega) _ (Nat.gcd_dvd_right m N) (rough_dvd hr (Nat.gcd_dvd_left m N))
      rw [e] at d
      exact Nat.Coprime.dvd_of_dvd_mul_left g d
/-- what is made -/
def Made (d : Int) : Prop := Fund d ∧ d ≠ 1 ∧ (d.natAbs : Int) ≤ 8000000 ∧ ∀ m, m ∣ d.natAbs → Rough m → m ∣ 9973
theorem made_smo {d : Int} {k : Nat} (h : Made d) (k1 : 1 ≤ k) (k2 : k ≤ 1000) : Smo (d.natAbs * (k * k)) := by
  intro m hm hr
  rw [← Nat.mul_assoc] at hm
  have a := rough_mul hr k1 k2 (rough_mul hr k1 k2 hm)
  have := Nat.le_of_dvd (by decide) (h.2.2.2 m a hr)
  omega
theorem made_4 : Made (-4) := by
  have f4 : Fund (4 * -1) := fund_four (d := -1) (by show SqF 1; exact sqF_one) (by decide)
  refine ⟨f4, by decide, by decide, fun m hm hr => ?_⟩
  have : m ∣ 1 * 4 := hm
  exact Nat.dvd_trans (rough_mul hr (by decide) (by decide) this) (Nat.one_dvd _)
/-- the four forms -/
theorem made_of {d0 : Int} (h : Mk 9 d0.natAbs) (h1 : d0 % 4 = 1) (hn : d0 ≠ 1) : Made d0 := by
  obtain ⟨a1, a2, a3, _, _, a6⟩ := h
  exact ⟨fund_one a2 (by omega), hn, by omega, a6⟩
theorem made_four {d0 : Int} (h : Mk 9 d0.natAbs) (h1 : d0 % 4 = 3) : Made (4 * d0) := by
  obtain ⟨a1, a2, a3, _, _, a6⟩ := h
  refine ⟨fund_four a2 (by omega), by omega, by omega, fun m hm hr => ?_⟩
  rw [Int.natAbs_mul, Nat.mul_comm] at hm
  exact a6 m (rough_mul hr (by decide) (by decide) hm) hr
theorem two_prm : Prm 2 := ⟨by decide, fun e e2 e3 => by omega⟩
theorem made_eight {N : Nat} {s : Int} (h : Mk 9 N) (hs : s = 8 ∨ s = -8) : Made (s * (N : Int)) := by
  obtain ⟨a1, a2, a3, _, _, a6⟩ := h
  have sq : SqF (2 * N) := sqF_mul two_prm a2 (by omega)
  have key : ∀ t : Int, (t = 2 ∨ t = -2) → Made (4 * (t * (N : Int))) := fun t ht => by
    have na : (t * (N : Int)).natAbs = 2 * N := by
      rw [Int.natAbs_mul]
      rcases ht with rfl | rfl <;> rfl
    have m4 : 2 ≤ t * (N : Int) % 4 := by rcases ht with rfl | rfl <;> omega
    refine ⟨fund_four (by rw [na]; exact sq) m4, by omega, ?_, fun m hm hr => ?_⟩
    · rw [Int.natAbs_mul, na]
      show ((4 * (2 * N) : Nat) : Int) ≤ _
      omega
    · rw [Int.natAbs_mul, na] at hm
      have hm : m ∣ 4 * (2 * N) := hm
      have hm : m ∣ N * 2 * 4 := by
        rw [show N * 2 * 4 = 4 * (2 * N) by omega]
        exact hm
      exact a6 m (rough_mul hr (by decide) (by decide) (rough_mul hr (by decide) (by decide) hm)) hr
  rcases hs with rfl | rfl
  · have := key 2 (.inl rfl)
    rw [show 4 * (2 * (N : Int)) = 8 * (N : Int) by omega] at this
    exact this
  · have := key (-2) (.inr rfl)
    rw [show 4 * (-2 * (N : Int)) = -8 * (N : Int) by omega] at this
    exact this
/-- the greatest k that fits -/
theorem fund_of_max {D : Int} {k : Nat} (h0 : D ≠ 0) (hD : (D.natAbs : Int) < 1600) (k1 : 1 ≤ k) (hk : D % ((k : Int) * k) = 0) (h4 : D / ((k : Int) * k) % 4 < 2)
    (hmax : ∀ j : Nat, k < j → j ≤ 39 → ¬ (D % ((j : Int) * j) = 0 ∧ D / ((j : Int) * j) % 4 < 2)) : Fund (D / ((k : Int) * k)) ∧ D = D / ((k : Int) * k) * ((k * k : Nat) : Int) := by
  have kk : ((k : Int) * k) ≠ 0 := by
    have := Int.mul_pos (show (0 : Int) < k by omega) (show (0 : Int) < k by omega)
    omega
  have e := Int.ediv_mul_cancel (Int.dvd_of_emod_eq_zero hk)
  generalize ht : D / ((k : Int) * k) = t at *
  refine ⟨⟨h4, fun z => by rw [z, Int.zero_mul] at e; exact h0 e.symm, fun j j2 jd q => ?_⟩, by rw [Int.natCast_mul]; exact e.symm⟩
  obtain ⟨u, hu⟩ := jd
  have jj : ((j * j : Nat) : Int) ≠ 0 := by
    have := Nat.mul_pos (show 0 < j by omega) (show 0 < j by omega)
    omega
  rw [hu, Int.mul_ediv_cancel_left _ jj] at q
  have eD : D = (((k * j : Nat) : Int) * ((k * j : Nat) : Int)) * u := by
    rw [← e, hu]
    push_cast
    grind
  have kjp : 0 < k * j := Nat.mul_pos (by omega) (by omega)
  have kj0 : (((k * j : Nat) : Int) * ((k * j : Nat) : Int)) ≠ 0 := by
    have := Int.mul_pos (show (0 : Int) < ((k * j : Nat) : Int) by omega) (show (0 : Int) < ((k * j : Nat) : Int) by omega)
    omega
  have kj : k < k * j := by
    have := Nat.mul_le_mul_left k j2
    omega
  have lim : k * j ≤ 39 := by
    rcases Nat.lt_or_ge 39 (k * j) with c | c
    · have a : 40 * 40 ≤ k * j * (k * j) := Nat.mul_le_mul c c
      have b := congrArg Int.natAbs eD
      rw [Int.natAbs_mul, Int.natAbs_mul] at b
      have b : D.natAbs = k * j * (k * j) * u.natAbs := b
      have u0 : u.natAbs ≠ 0 := fun z => by
        rw [z, Nat.mul_zero] at b
        omega
      have : k * j * (k * j) ≤ D.natAbs := by rw [b]; exact Nat.le_mul_of_pos_right _ (by omega)
      omega
    · exact c
  refine hmax (k * j) kj lim ⟨?_, ?_⟩
  · rw [eD]
    exact Int.mul_emod_right _ _
  · rw [eD, Int.mul_ediv_cancel_left _ kj0]
    exact q

section
variable {P : Program} {w : World} {K : PySem.W.Frag} {mg : Str → Option Value} {base : Heap} {CM CR aU a1 a2 : Addr}
abbrev s__law_made : Stmt := top 42
theorem sc__law_made : FnScope ["state", "primes", "d", "l", "k", "turn"] ["state"] (defScope s__law_made) := ⟨rfl, rfl, rfl, by decide +kernel, rfl, by decide +kernel, by decide +kernel⟩

def spMade : Sp := fun vs H Q _ => ∃ (st : Addr) (x y : Int), vs = [.ref st] ∧ H st = some (.lst [.int x, .int y]) ∧
  ∀ (p : Addr) (d : Int) (k : Nat) (x' y' : Int) (H' : Hp), But st H H' → H' st = some (.lst [.int x', .int y']) → H' p = some (.tup [.int d, .int (k : Int)]) → Made d → 1 ≤ k → k ≤ 1000 → d.natAbs * (k * k) ≤ 1000000000000 → Q (.ref p) H'
theorem cal_made (D : Dn K mg "_law_made" s__law_made ["state"]) (B : Bl mg) (c__law_take : Cal P w K mg base "_law_take" 1 ["state", "m"] spTake) : Cal P w K mg base "_law_made" 2 ["state"] spMade := by
  refine D.cal sc__law_made (fun vs H Q E h => ?_) (fun f cdv A outer s H vs Q E hr h => ?_)
  · obtain ⟨st, x, y, rfl, _⟩ := h
    rfl
  · obtain ⟨st, x, y, rfl, hst, q⟩ := h
    refine ⟨_, (pss_cons (ps_set (i := 1) sc__law_made.nd rfl (Or.inl rfl) (pe_lst (pa_cons pe_int (pa_cons pe_int (pa_cons pe_int (pa_cons pe_int (pa_cons pe_int (pa_cons pe_int (pa_cons pe_int (pa_cons pe_int (pa_cons pe_int pa_nil)))))))))))
  (pss_cons (ps_set (i := 2) sc__law_made.nd rfl (Or.inl rfl) (pe_op op_sub pe_int (pe_op op_mulI pe_int (pe_cal c__law_take (hr.mono (by decide)) rfl (pa_cons (pv 0) (pa_cons pe_int pa_nil))))))
  (pss_cons (ps_for PassesOwn.never rfl (pi_list (pv 1)) (pg_name (i := 3) sc__law_made.nd rfl (Or.inl rfl)) (pss_one (ps_if (PW.pt (pw_and (pt_cmpR op_eq (pe_cal c__law_take (hr.mono (by decide)) rfl (pa_cons (pv 0) (pa_cons pe_int pa_nil))) pe_int (nomark _)) (pw_and1 (pt_cmpR op_lt (pe_op op_mulI (pe_callB call_abs rfl B.abs (by decide +kernel) (pa_cons (pv 2) pa_nil)) (pv 3)) (pe_op op_powI pe_int pe_int) (nomark _))))) (pss_one (ps_set (i := 2) sc__law_made.nd rfl (Or.inl rfl) (pe_op op_mulI (pv 2) (pv 3)))) pss_nil)))
  (pss_cons (ps_if (pt_cmpR op_ne (pe_op op_mod (pe_callTy call_int1 rfl B.int boot_int (pa_cons (pv 2) pa_nil)) pe_int) pe_int (nomark _)) (pss_one (ps_set (i := 2) sc__law_made.nd rfl (Or.inl rfl) (pe_op op_mulI pe_int (pv 2)))) pss_nil)
  (pss_cons (ps_if (pt_cmpR op_eq (pe_cal c__law_take (hr.mono (by decide)) rfl (pa_cons (pv 0) (pa_cons pe_int pa_nil))) pe_int (nomark _)) (pss_one (ps_set (i := 2) sc__law_made.nd rfl (Or.inl rfl) (pe_op op_mulI (pe_ix ix_list (pe_lst (pa_cons pe_int (pa_cons (pe_un un_neg pe_int) pa_nil))) (pe_cal c__law_take (hr.mono (by decide)) rfl (pa_cons (pv 0) (pa_cons pe_int pa_nil))) (fun _ _ => rfl)) (pe_ifExp (pt_cmpR op_eq (pe_op op_mod (pe_callTy call_int1 rfl B.int boot_int (pa_cons (pv 2) pa_nil)) pe_int) pe_int (nomark _)) (pe_op op_fdivW (pe_callB call_abs rfl B.abs (by decide +kernel) (pa_cons (pv 2) pa_nil)) pe_int) (pe_callB call_abs rfl B.abs (by decide +kernel) (pa_cons (pv 2) pa_nil)))))) pss_nil)
  (pss_cons (ps_set (i := 4) sc__law_made.nd rfl (Or.inl rfl) pe_int)
  (pss_cons (ps_for PassesOwn.never rfl (pi_range1 rfl B.range (pa_cons (pe_cal c__law_take (hr.mono (by decide)) rfl (pa_cons (pv 0) (pa_cons pe_int pa_nil))) pa_nil)) (pg_name (i := 5) sc__law_made.nd rfl (Or.inl rfl)) (pss_one (ps_set (i := 4) sc__law_made.nd rfl (Or.inl rfl) (pe_op op_mulI (pv 4) (pe_ix ix_list (pe_lst (pa_cons pe_int (pa_cons pe_int (pa_cons pe_int (pa_cons pe_int (pa_cons pe_int (pa_cons pe_int pa_nil))))))) (pe_cal c__law_take (hr.mono (by decide)) rfl (pa_cons (pv 0) (pa_cons pe_int pa_nil))) (fun _ _ => rfl))))))
  (pss_cons (ps_if (PW.pt (pw_or (pt_cmpR op_gt (pe_op op_mulI (pe_op op_mulI (pe_callB call_abs rfl B.abs (by decide +kernel) (pa_cons (pv 2) pa_nil)) (pv 4)) (pv 4)) (pe_op op_powI pe_int pe_int) (nomark _)) (pw_or1 (pt_cmpR op_eq (pv 2) pe_int (nomark _))))) (pss_one (ps_ret (pe_tup (pa_cons (pe_un un_neg pe_int) (pa_cons (pv 4) pa_nil))))) pss_nil)
  (pss_one (ps_ret (pe_tup (pa_cons (pv 2) (pa_cons (pv 4) pa_nil))))))))))))), ?_⟩
    rw [CB.rd_seq]
    walk_at "rs"
    refine ⟨by decide, fun lp nlp => ?_⟩
    have s0 := same_upd (o := HO.lst [V.int 3, V.int 5, V.int 7, V.int 11, V.int 13, V.int 17, V.int 101, V.int 997, V.int 9973]) nlp
    have hlp : upd H lp (HO.lst [V.int 3, V.int 5, V.int 7, V.int 11, V.int 13, V.int 17, V.int 101, V.int 997, V.int 9973]) lp = some (.lst (PR.map fun n : Nat => V.int (n : Int))) := upd_same
    have sl : st ≠ lp := ne_of_none hst nlp
    have h0 := s0 _ _ hst
    generalize upd H lp (HO.lst [V.int 3, V.int 5, V.int 7, V.int 11, V.int 13, V.int 17, V.int 101, V.int 997, V.int 9973]) = H0 at *
    show tSeq _ _ _ _ _
    refine seq_cut (fun σ H1 => ∃ d x y, σ = [some (.ref st), some (.ref lp), some (.int d), none, none, none] ∧ But st H H1 ∧ H1 st = some (.lst [.int x, .int y]) ∧ H1 lp = some (.lst (PR.map fun n : Nat => V.int (n : Int))) ∧ Mk 0 d.natAbs) (fun R hR => ?_) ?_
    · walk_at "rs"
      refine ⟨st, x, y, 2, rfl, h0, by decide, by decide +kernel, fun v x1 y1 v0 v1 => ⟨v, rfl, mulL (by decide), ?_⟩⟩
      refine hR _ _ ⟨1 - 2 * v, x1, y1, rfl, (But.of s0).upd, upd_same, by rw [upd_ne sl.symm]; exact hlp, ?_⟩
      have c : v = 0 ∨ v = 1 := by omega
      rcases c with rfl | rfl <;> exact mk_one
    clear hst s0 h0 hlp
    rintro σ H1 ⟨d, x, y, rfl, bt, hst, hlp, hM⟩
    refine seq_cut (fun σ H1 => ∃ d x y s3, σ = [some (.ref st), some (.ref lp), some (.int d), s3, none, none] ∧ But st H H1 ∧ H1 st = some (.lst [.int x, .int y]) ∧ Mk 9 d.natAbs) (fun R hR => ?_) ?_
    · walk_at "rs"
      refine ⟨⟨_, SqL.of hlp⟩, ForL.w (xs := PR.map fun n : Nat => V.int (n : Int)) (fun i σ H1 => ∃ d x y s3, σ = [some (.ref st), some (.ref lp), some (.int d), s3, none, none] ∧ But st H H1 ∧ H1 st = some (.lst [.int x, .int y]) ∧ H1 lp = some (.lst (PR.map fun n : Nat => V.int (n : Int))) ∧ Mk i d.natAbs)
        ⟨d, x, y, _, rfl, bt, hst, hlp, hM⟩ ?_ ?_ ?_⟩
      · rintro i σ H2 _ ⟨_, _, _, _, _, _, _, h, _⟩
        exact SqL.of h
      · rintro i v σ H2 hv ⟨d, x, y, s3, rfl, bt, hst, hlp, hM⟩ N hN
        rw [List.getElem?_map] at hv
        obtain ⟨l, hl, rfl⟩ := Option.map_eq_some_iff.mp hv
        have ls := pr_small hl
        have e6 : (10 : Int) ^ Int.toNat 6 = 1000000 := by decide +kernel
        have dl := hM.2.2.1
        walk_at "rd"
        refine ⟨st, x, y, 3, rfl, hst, by decide, by decide +kernel, fun v x1 y1 v0 v1 => ⟨by simp [scal], ?_⟩⟩
        have bt2 : But st H (upd H2 st (.lst [.int x1, .int y1])) := bt.upd
        have hs2 : upd H2 st (.lst [.int x1, .int y1]) st = some (.lst [.int x1, .int y1]) := upd_same
        have hl2 : upd H2 st (.lst [.int x1, .int y1]) lp = some (.lst (PR.map fun n : Nat => V.int (n : Int))) := by rw [upd_ne sl.symm]; exact hlp
        generalize upd H2 st (.lst [.int x1, .int y1]) = H3 at *
        have pw : CPowI 10 6 := powI (n := 4) (by decide) (by decide) (by decide) (by decide)
        refine ite2 (fun c => ?_) (fun c => hN _ _ ⟨d, x1, y1, _, rfl, bt2, hs2, hl2, hM.skip⟩)
        rw [e6, iabs]
        refine ⟨mulR (by omega), pw, ?_⟩
        have skip : N [some (V.ref st), some (V.ref lp), some (V.int d), some (V.int (l : Int)), none, none] H3 := hN _ _ ⟨d, x1, y1, _, rfl, bt2, hs2, hl2, hM.skip⟩
        have step : (d.natAbs : Int) * (l : Int) < 1000000 → N [some (V.ref st), some (V.ref lp), some (V.int (d * (l : Int))), some (V.int (l : Int)), none, none] H3 := fun c2 => ?_
        · generalize (d.natAbs : Int) * (l : Int) = z at *
          exact ite2 (fun c2 => ⟨mulR (by omega), step c2⟩) (fun _ => skip)
        refine hN _ _ ⟨d * l, x1, y1, _, rfl, bt2, hs2, hl2, ?_⟩
        rw [Int.natAbs_mul]
        exact hM.step hl (by
          have : (d.natAbs : Int) * (l : Int) = ((d.natAbs * l : Nat) : Int) := (Int.natCast_mul _ _).symm
          show d.natAbs * l < 1000000
          omega)
      · rintro σ H2 ⟨d, x, y, s3, rfl, bt, hst, _, hM⟩
        exact hR _ _ ⟨d, x, y, s3, rfl, bt, hst, hM⟩
    clear hst hlp hM bt
    rintro σ H1 ⟨d, x, y, s3, rfl, bt, hst, hM⟩
    refine seq_cut (fun σ H2 => ∃ d', σ = [some (.ref st), some (.ref lp), some (.int d'), s3, none, none] ∧ H2 = H1 ∧ ((d % 4 = 1 ∧ d' = d) ∨ (d % 4 = 3 ∧ d' = 4 * d))) (fun R hR => ?_) ?_
    · walk_at "rs"
      have od := hM.1
      refine ⟨by decide, ite2 (fun c => ?_) (fun c => ?_)⟩
      · exact hR _ _ ⟨d, rfl, rfl, .inl ⟨c, rfl⟩⟩
      · exact ⟨mulL (by decide), hR _ _ ⟨4 * d, rfl, rfl, .inr ⟨by omega, rfl⟩⟩⟩
    rintro σ H2 ⟨d', rfl, rfl, hd'⟩
    have N9 := hM
    refine seq_cut (fun σ H1 => ∃ d x y, σ = [some (.ref st), some (.ref lp), some (.int d), s3, none, none] ∧ But st H H1 ∧ H1 st = some (.lst [.int x, .int y]) ∧ (Made d ∨ d = 1)) (fun R hR => ?_) ?_
    · walk_at "rs"
      refine ⟨st, x, y, 3, rfl, hst, by decide, by decide +kernel, fun v x1 y1 v0 v1 => ⟨by simp [scal], ite2 (fun c => ?_) (fun c => ?_)⟩⟩
      · have bt2 : But st H (upd H2 st (.lst [.int x1, .int y1])) := bt.upd
        have hs2 : upd H2 st (.lst [.int x1, .int y1]) st = some (.lst [.int x1, .int y1]) := upd_same
        generalize upd H2 st (.lst [.int x1, .int y1]) = H3 at *
        refine ⟨by decide, fun l2 nl2 => ?_⟩
        have sl2 : st ≠ l2 := ne_of_none hs2 nl2
        refine ⟨st, x1, y1, 2, rfl, by rw [upd_ne sl2]; exact hs2, by decide, by decide +kernel, fun u x2 y2 u0 u1 => ?_⟩
        have bt3 : But st H (upd (upd H3 l2 (.lst [V.int 8, V.int (-8)])) st (.lst [.int x2, .int y2])) := (bt2.same (same_upd nl2)).upd
        have hs3 : upd (upd H3 l2 (.lst [V.int 8, V.int (-8)])) st (.lst [.int x2, .int y2]) st = some (.lst [.int x2, .int y2]) := upd_same
        have hl3 : upd (upd H3 l2 (.lst [V.int 8, V.int (-8)])) st (.lst [.int x2, .int y2]) l2 = some (.lst [V.int 8, V.int (-8)]) := by rw [upd_ne sl2.symm]; exact upd_same
        generalize upd (upd H3 l2 (.lst [V.int 8, V.int (-8)])) st (.lst [.int x2, .int y2]) = H4 at *
        have pick : ∃ n, atI [V.int 8, V.int (-8)] u = some (.int n) ∧ (n = 8 ∨ n = -8) := by
          have c : u = 0 ∨ u = 1 := by omega
          rcases c with rfl | rfl
          · exact ⟨8, rfl, .inl rfl⟩
          · exact ⟨-8, rfl, .inr rfl⟩
        obtain ⟨n, en, hn⟩ := pick
        refine ⟨_, u, rfl, SqL.of hl3, _, en, by decide, ?_⟩
        have nl : -(2 ^ 64) < n ∧ n < 2 ^ 64 := by rcases hn with rfl | rfl <;> decide
        have fin : ∀ z : Int, z = (d.natAbs : Int) → ∃ i, V.int n = V.int i ∧ IntMulOk i z ∧ R [some (V.ref st), some (V.ref lp), some (V.int (i * z)), s3, none, none] H4 := fun z hz => by
          subst hz
          exact ⟨_, rfl, mulL nl, hR _ _ ⟨_, x2, y2, rfl, bt3, hs3, .inl (made_eight N9 hn)⟩⟩
        rcases hd' with ⟨h1, rfl⟩ | ⟨h1, rfl⟩
        · refine ite2 (fun c => by omega) (fun c => ?_)
          rw [iabs]
          exact fin _ rfl
        · refine ite2 (fun c => ⟨⟨by decide, by decide +kernel⟩, ?_⟩) (fun c => by omega)
          rw [iabs]
          refine fin _ ?_
          omega
      · refine hR _ _ ⟨d', x1, y1, rfl, bt.upd, upd_same, ?_⟩
        rcases hd' with ⟨h1, rfl⟩ | ⟨h1, rfl⟩
        · by_cases z : d' = 1
          · exact .inr z
          · exact .inl (made_of N9 h1 z)
        · exact .inl (made_four N9 h1)
    clear hd' hst bt N9 hM
    rintro σ H1 ⟨d, x, y, rfl, bt, hst, hM⟩
    have hdB : (d.natAbs : Int) ≤ 8000000 := by
      rcases hM with h | rfl
      · exact h.2.2.1
      · decide
    rw [CB.rd_seq]
    walk_at "rs"
    show tSeq _ _ _ _ _
    refine seq_cut (fun σ H1 => ∃ (k : Nat) (x y : Int) (s5 : Option V), σ = [some (.ref st), some (.ref lp), some (.int d), s3, some (.int (k : Int)), s5] ∧ But st H H1 ∧ H1 st = some (.lst [.int x, .int y]) ∧ 1 ≤ k ∧ k ≤ 1000) (fun R hR => ?_) ?_
    · walk_at "rs"
      refine ⟨st, x, y, 4, rfl, hst, by decide, by decide +kernel, fun t x1 y1 t0 t1 => ⟨t, rfl, by omega, by omega, ForR.w (fun i σ H1 => ∃ (k : Nat) (x y : Int) (s5 : Option V), σ = [some (.ref st), some (.ref lp), some (.int d), s3, some (.int (k : Int)), s5] ∧ But st H H1 ∧ H1 st = some (.lst [.int x, .int y]) ∧ 1 ≤ k ∧ k ≤ 10 ^ i)
        ⟨1, x1, y1, _, rfl, bt.upd, upd_same, by decide, by decide⟩ ?_ ?_⟩⟩
      · rintro i σ H2 hi ⟨k, x, y, s5, rfl, bt, hst, k1, k2⟩ N hN
        have hi3 : i < 3 := by omega
        have kb : k ≤ 1000 := Nat.le_trans k2 (Nat.le_trans (Nat.pow_le_pow_right (by decide) (show i ≤ 3 by omega)) (by decide))
        walk_at "rd"
        refine ⟨by decide, fun l2 nl2 => ?_⟩
        have sl2 : st ≠ l2 := ne_of_none hst nl2
        refine ⟨st, x, y, 6, rfl, by rw [upd_ne sl2]; exact hst, by decide, by decide +kernel, fun u x2 y2 u0 u1 => ?_⟩
        have bt3 : But st H (upd (upd H2 l2 (.lst [V.int 2, V.int 2, V.int 3, V.int 5, V.int 7, V.int 10])) st (.lst [.int x2, .int y2])) := (bt.same (same_upd nl2)).upd
        have hs3 : upd (upd H2 l2 (.lst [V.int 2, V.int 2, V.int 3, V.int 5, V.int 7, V.int 10])) st (.lst [.int x2, .int y2]) st = some (.lst [.int x2, .int y2]) := upd_same
        have hl3 : upd (upd H2 l2 (.lst [V.int 2, V.int 2, V.int 3, V.int 5, V.int 7, V.int 10])) st (.lst [.int x2, .int y2]) l2 = some (.lst [V.int 2, V.int 2, V.int 3, V.int 5, V.int 7, V.int 10]) := by rw [upd_ne sl2.symm]; exact upd_same
        generalize upd (upd H2 l2 (.lst [V.int 2, V.int 2, V.int 3, V.int 5, V.int 7, V.int 10])) st (.lst [.int x2, .int y2]) = H4 at *
        have pick : ∃ n : Nat, atI [V.int 2, V.int 2, V.int 3, V.int 5, V.int 7, V.int 10] u = some (.int (n : Int)) ∧ 1 ≤ n ∧ n ≤ 10 := by
          have c : u = 0 ∨ u = 1 ∨ u = 2 ∨ u = 3 ∨ u = 4 ∨ u = 5 := by omega
          rcases c with rfl | rfl | rfl | rfl | rfl | rfl
          · exact ⟨2, rfl, by decide, by decide⟩
          · exact ⟨2, rfl, by decide, by decide⟩
          · exact ⟨3, rfl, by decide, by decide⟩
          · exact ⟨5, rfl, by decide, by decide⟩
          · exact ⟨7, rfl, by decide, by decide⟩
          · exact ⟨10, rfl, by decide, by decide⟩
        obtain ⟨n, en, n1, n2⟩ := pick
        refine ⟨_, u, rfl, SqL.of hl3, _, en, _, rfl, mulR (by omega), ?_⟩
        rw [← Int.natCast_mul]
        refine hN _ _ ⟨k * n, x2, y2, _, rfl, bt3, hs3, Nat.mul_pos k1 n1, ?_⟩
        rw [Nat.pow_succ]
        exact Nat.mul_le_mul k2 n2
      · rintro σ H2 ⟨k, x, y, s5, rfl, bt, hst, k1, k2⟩
        refine hR _ _ ⟨k, x, y, s5, rfl, bt, hst, k1, Nat.le_trans k2 (Nat.le_trans (Nat.pow_le_pow_right (by decide) (show t.toNat ≤ 3 by omega)) (by decide))⟩
    rintro σ H2 ⟨k, x2, y2, s5, rfl, bt2, hst2, k1, k2⟩
    have e12 : (10 : Int) ^ Int.toNat 12 = 1000000000000 := by decide +kernel
    have kk : k * k ≤ 1000 * 1000 := Nat.mul_le_mul k2 k2
    have dk : (d.natAbs : Int) * k ≤ 8000000 * 1000 := Int.mul_le_mul (by omega) (by omega) (by omega) (by omega)
    have dk0 : 0 ≤ (d.natAbs : Int) * k := Int.mul_nonneg (by omega) (by omega)
    have four : ∀ (p : Addr) (np : H2 p = none), Q (V.ref p) (upd H2 p (.tup [.int (-4), .int (k : Int)])) := fun p np => by
      have su := same_upd (o := HO.tup [V.int (-4), V.int (k : Int)]) np
      exact q p (-4) k x2 y2 _ (bt2.same su) (su _ _ hst2) upd_same made_4 k1 k2 (by
        show 4 * (k * k) ≤ _
        omega)
    walk_at "rd"
    rw [iabs]
    refine ⟨mulR (by omega), mulR (by omega), powI (n := 4) (by decide) (by decide) (by decide) (by decide), ite2 (fun c => ⟨by decide, four⟩) (fun c => ite2 (fun c2 => ⟨by decide, four⟩) (fun c2 => ⟨by decide, fun p np => ?_⟩))⟩
    have su := same_upd (o := HO.tup [V.int d, V.int (k : Int)]) np
    refine q p d k x2 y2 _ (bt2.same su) (su _ _ hst2) upd_same ?_ k1 k2 ?_
    · rcases hM with h | h
      · exact h
      · exact absurd h c2
    · rw [e12] at c
      have : (d.natAbs : Int) * k * k = ((d.natAbs * (k * k) : Nat) : Int) := by push_cast; rw [Int.mul_assoc]
      omega
end

/-- a discriminant is near -/
theorem disc_near {d : Int} (h : 3 ≤ d) : ∃ n, d ≤ n ∧ n ≤ d + 7 ∧ discB n = true := by
  have nsq : ∀ n : Int, 3 ≤ n → ¬ (isq n * isq n = n ∧ isq (n + 4) * isq (n + 4) = n + 4) := fun n hn ⟨e1, e2⟩ => by
    have a0 := isq_nn n
    have b0 := isq_nn (n + 4)
    generalize isq n = a at *
    generalize isq (n + 4) = b at *
    rcases Int.lt_or_le a b with z | z
    · have q : (a + 1) * (a + 1) ≤ b * b := Int.mul_le_mul (by omega) (by omega) (by omega) (by omega)
      have e : (a + 1) * (a + 1) = a * a + 2 * a + 1 := by grind
      have a1 : a ≤ 1 := by omega
      have : a = 0 ∨ a = 1 := by omega
      rcases this with rfl | rfl <;> omega
    · have q : b * b ≤ a * a := Int.mul_le_mul z z b0 a0
      omega
  have one : ∀ n : Int, 3 ≤ n → n % 4 = 0 → isq n * isq n ≠ n → discB n = true := fun n hn h4 hs => by
    unfold discB sqB
    rw [decide_eq_true (.inl h4), decide_eq_false (fun z => hs z.2)]
    rfl
  have key : ∀ n : Int, 3 ≤ n → n % 4 = 0 → ∃ k, n ≤ k ∧ k ≤ n + 4 ∧ discB k = true := fun n hn h4 => by
    by_cases c : isq n * isq n = n
    · exact ⟨n + 4, by omega, by omega, one _ (by omega) (by omega) fun z => nsq n hn ⟨c, z⟩⟩
    · exact ⟨n, by omega, by omega, one _ hn h4 c⟩
  obtain ⟨k, h1, h2, h3⟩ := key (d + (-d) % 4) (by omega) (by omega)
  exact ⟨k, by omega, by omega, h3⟩

section
variable {P : Program} {w : World} {K : PySem.W.Frag} {mg : Str → Option Value} {base : Heap} {CM CR aU a1 a2 : Addr}
theorem dp_rep {H : Hp} {r : Addr} {x : Str} {n : Nat} (h : H r = some (.lst (List.replicate n (V.str x)))) : Dp K H (.ref r) (.list (List.replicate n (.str x))) := by
  refine .lst (SqL.of h) ?_
  clear h
  induction n with
  | zero => exact .nil
  | succ n ih => exact .cons (.str x) ih
theorem dp_pair {H : Hp} {r : Addr} {a b : Int} (h : H r = some (.tup [V.int a, V.int b])) : Dp K H (.ref r) (.tuple [.int a, .int b]) := .tup (SqT.of h) (.cons (.int a) (.cons (.int b) .nil))
theorem sh_pair {a b : Int} : SeqAt.shaped (.tuple [.int a, .int b]) = true := rfl
theorem eq_pair {a b : Int} : PyData.eqv (.tuple [.int a, .int b]) (.tuple [.int a, .int b]) = true := SeqAt.eqv_refl _ (SeqAt.canLay_of_shaped sh_pair)
theorem spl_disc {D d : Int} {k : Nat} (h : Spl D d k) (h1 : d ≠ 1) : discB D = true := by
  obtain ⟨e, k0, hF, _, _⟩ := h
  have h4 : D % 4 < 2 := by rw [e]; exact disc_sq hF.1
  unfold discB sqB
  rw [decide_eq_true (by omega), decide_eq_false, Bool.not_false, Bool.and_true]
  rintro ⟨z0, z1⟩
  have hr := isq_nn D
  obtain ⟨r, hr⟩ : ∃ r : Nat, isq D = (r : Int) := ⟨(isq D).toNat, by omega⟩
  rw [hr] at z1
  exact fund_nsq hF h1 k0 (r := r) (by rw [Int.natCast_mul, z1, e])
theorem spl_big {D d : Int} {k : Nat} (h : Spl D d k) : D < BIG := by
  have := h.2.2.2.1
  have := BIG_pos
  omega
def pk (d : Int) (k : Nat) : Prop := d % ((k : Int) * k) = 0 ∧ d / ((k : Int) * k) % 4 < 2
abbrev s_law : Stmt := top 43
theorem sc_law : FnScope ["script", "state", "d", "k", "fits", "far", "bad", "which"] ["script"] (defScope s_law) := ⟨rfl, rfl, rfl, by decide +kernel, rfl, by decide +kernel, by decide +kernel⟩

def spLaw (K : PySem.W.Frag) : Sp := fun vs H Q _ => ∃ (a : Addr) (ns : List Int), vs = [.ref a] ∧ SqL K H a (ns.map V.int) ∧ ns.length ≤ 63 ∧ ∀ H', Q (.bl true) H'
theorem ok_law {f : Addr} {fd : FuncData} (F : Fun K "law" "law" s_law f fd) (B : Bl mg) (c__law_state : Cal P w K mg base "_law_state" 1 ["script"] (spState K)) (c__law_take : Cal P w K mg base "_law_take" 1 ["state", "m"] spTake)
    (c__law_made : Cal P w K mg base "_law_made" 2 ["state"] spMade) (c__law_told : Cal P w K mg base "_law_told" 8 ["which", "d"] (spTold K)) (c__law_says : Cal P w K mg base "_law_says" 1 ["value", "due"] spSays)
    (c__law_drawn_disc : Cal P w K mg base "_law_drawn_disc" 3 ["state", "most", "sign"] spDD) (c__law_is_told_disc : Cal P w K mg base "_law_is_told_disc" 2 ["d"] (spTD K)) : FnOk P w K mg base CX0 9 f fd ["script"] (spLaw K) := by
  refine F.ok sc_law (fun vs H Q E h => ?_) (fun cdv A outer s H vs Q E hr h => ?_)
  · obtain ⟨a, ns, rfl, _⟩ := h
    rfl
  · obtain ⟨a0, ns, rfl, hS, hl, q⟩ := h
    refine ⟨_, (pss_cons (ps_set (i := 1) sc_law.nd rfl (Or.inl rfl) (pe_cal c__law_state (hr.mono (by decide)) rfl (pa_cons (pv 0) pa_nil)))
  (pss_cons (ps_asg (pe_cal c__law_made (hr.mono (by decide)) rfl (pa_cons (pv 1) pa_nil)) (pg_tup rfl (pgs_cons (pg_name (i := 2) sc_law.nd rfl (Or.inr rfl)) (pgs_cons (pg_name (i := 3) sc_law.nd rfl (Or.inl rfl)) pgs_nil))))
  (pss_cons (ps_if (PW.pt (pw_or (pt_cmpR (op_neD hr.units) (pe_cal c__law_told (hr.mono (by decide)) rfl (pa_cons pe_int (pa_cons (pe_op op_mulI (pe_op op_mulI (pv 2) (pv 3)) (pv 3)) pa_nil))) (pe_tup (pa_cons (pv 2) (pa_cons (pv 3) pa_nil))) (nomark _)) (pw_or1 (pt_not (pt_val (pe_cal c__law_says (hr.mono (by decide)) rfl (pa_cons (pe_cal c__law_told (hr.mono (by decide)) rfl (pa_cons pe_int (pa_cons (pe_op op_mulI (pe_op op_mulI (pv 2) (pv 3)) (pv 3)) pa_nil))) (pa_cons (pe_cmpR op_eq (pv 3) pe_int (nomark _)) pa_nil)))))))) (pss_one (ps_ret pe_bl)) pss_nil)
  (pss_cons (ps_set (i := 2) sc_law.nd rfl (Or.inr rfl) (pe_cal c__law_drawn_disc (hr.mono (by decide)) rfl (pa_cons (pv 1) (pa_cons pe_int (pa_cons (pe_op op_sub pe_int (pe_op op_mulI pe_int (pe_cal c__law_take (hr.mono (by decide)) rfl (pa_cons (pv 1) (pa_cons pe_int pa_nil))))) pa_nil)))))
  (pss_cons (ps_while PassesOwn.never (pt_not (pt_val (pe_cal c__law_is_told_disc (hr.mono (by decide)) rfl (pa_cons (pv 2) pa_nil)))) (pss_one (ps_set (i := 2) sc_law.nd rfl (Or.inr rfl) (pe_op op_add (pv 2) pe_int))))
  (pss_cons (ps_setLc (i := 4) (own := [("k", 3)]) rfl sc_law.nd rfl rfl (sw_true rfl rfl rfl (by decide +kernel)) (pi_range2 rfl B.range (pa_cons pe_int (pa_cons pe_int pa_nil))) (blkOk_by (N := ["script", "state", "d", "k", "fits", "far", "bad", "which"]) (sc := defScope s_law) (own := [("k", 3)]) (by decide +kernel)) (fun _ _ _ _ _ => (pg_name (i := 3) sc_law.nd rfl (Or.inl rfl))) (fun _ _ _ _ _ => (pts_one (PW.pt (pw_and (pt_cmpR op_eq (pe_op op_mod (pe_callTy call_int1 rfl B.int boot_int (pa_cons (pv 2) pa_nil)) (pe_op op_mulI (pv 3) (pv 3))) pe_int (nomark _)) (pw_and1 (pt_cmpR op_lt (pe_op op_mod (pe_callTy call_int1 rfl B.int boot_int (pa_cons (pe_op op_fdivW (pv 2) (pe_op op_mulI (pv 3) (pv 3))) pa_nil)) pe_int) pe_int (nomark _))))))) (fun _ _ _ _ _ => (pv 3)))
  (pss_cons (ps_set (i := 3) sc_law.nd rfl (Or.inl rfl) (pe_ix ix_list (pv 4) (pe_un un_neg pe_int) (fun _ _ => rfl)))
  (pss_cons (ps_if (PW.pt (pw_or (pt_cmpR (op_neD hr.units) (pe_cal c__law_told (hr.mono (by decide)) rfl (pa_cons pe_int (pa_cons (pv 2) pa_nil))) (pe_tup (pa_cons (pe_op op_fdivW (pv 2) (pe_op op_mulI (pv 3) (pv 3))) (pa_cons (pv 3) pa_nil))) (nomark _)) (pw_or1 (pt_not (pt_val (pe_cal c__law_says (hr.mono (by decide)) rfl (pa_cons (pe_cal c__law_told (hr.mono (by decide)) rfl (pa_cons pe_int (pa_cons (pv 2) pa_nil))) (pa_cons (pe_cmpR op_eq (pv 3) pe_int (nomark _)) pa_nil)))))))) (pss_one (ps_ret pe_bl)) pss_nil)
  (pss_cons (ps_for PassesOwn.never rfl (pi_tup (pe_tup (pa_cons (pe_op op_add (pe_op op_powI pe_int pe_int) pe_int) (pa_cons (pe_op op_add (pe_op op_powI pe_int pe_int) pe_int) (pa_cons (pe_op op_sub (pe_un un_neg (pe_op op_powI pe_int pe_int)) pe_int) (pa_cons (pe_op op_mulI (pe_un un_neg pe_int) (pe_op op_powI pe_int pe_int)) pa_nil)))))) (pg_name (i := 5) sc_law.nd rfl (Or.inr rfl)) (pss_one (ps_if (pt_cmpR (op_neD hr.units) (pe_lc (own := [("which", 7)]) rfl sc_law.nd (pi_tup (pe_tup (pa_cons pe_int (pa_cons pe_int pa_nil)))) (blkOk_by (N := ["script", "state", "d", "k", "fits", "far", "bad", "which"]) (sc := defScope s_law) (own := [("which", 7)]) (by decide +kernel)) (fun _ _ _ _ _ => (pg_name (i := 7) sc_law.nd rfl (Or.inl rfl))) (fun _ _ _ _ _ => pts_nil) (fun _ _ _ _ _ => (pe_cal c__law_told (hr.mono (by decide)) rfl (pa_cons (pv 7) (pa_cons (pv 5) pa_nil))))) (pe_op op_rep (pe_lst (pa_cons pe_str pa_nil)) pe_int) (nomark _)) (pss_one (ps_ret pe_bl)) pss_nil)))
  (pss_cons (ps_set (i := 6) sc_law.nd rfl (Or.inr rfl) (pe_ix ix_list (pe_lst (pa_cons pe_non (pa_cons pe_bl (pa_cons pe_str (pa_cons (pe_tup (pa_cons pe_int pa_nil)) (pa_cons pe_int (pa_cons pe_int (pa_cons pe_int (pa_cons pe_int (pa_cons pe_int (pa_cons (pe_un un_neg pe_int) (pa_cons (pe_un un_neg pe_int) (pa_cons pe_int (pa_cons (pe_op op_powI pe_int pe_int) pa_nil)))))))))))))) (pe_cal c__law_take (hr.mono (by decide)) rfl (pa_cons (pv 1) (pa_cons pe_int pa_nil))) (fun _ _ => rfl)))
  (pss_one (ps_ret (pe_cmpR (op_eqD hr.units) (pe_lc (own := [("which", 7)]) rfl sc_law.nd (pi_tup (pe_tup (pa_cons pe_int (pa_cons pe_int pa_nil)))) (blkOk_by (N := ["script", "state", "d", "k", "fits", "far", "bad", "which"]) (sc := defScope s_law) (own := [("which", 7)]) (by decide +kernel)) (fun _ _ _ _ _ => (pg_name (i := 7) sc_law.nd rfl (Or.inl rfl))) (fun _ _ _ _ _ => pts_nil) (fun _ _ _ _ _ => (pe_cal c__law_told (hr.mono (by decide)) rfl (pa_cons (pv 7) (pa_cons (pv 6) pa_nil))))) (pe_op op_rep (pe_lst (pa_cons pe_str pa_nil)) pe_int) (nomark _)))))))))))))), ?_⟩
    rw [CB.rd_seq]
    walk_at "rs"
    refine ⟨a0, ns, rfl, hS, hl, fun st x y H1 sm1 nst hst => ?_⟩
    clear hS sm1 nst
    show tSeq _ _ _ _ _
    refine seq_cut (fun σ H => ∃ p d k x y, σ = [some (.ref a0), some (.ref st), some (.int d), some (.int (k : Nat)), none, none, none, none] ∧ H st = some (.lst [.int x, .int y]) ∧ H p = some (.tup [.int d, .int (k : Int)]) ∧ Made d ∧ 1 ≤ k ∧ k ≤ 1000 ∧ d.natAbs * (k * k) ≤ 1000000000000) (fun R hR => ?_) ?_
    · walk_at "rs"
      refine ⟨st, x, y, rfl, hst, fun p d k x1 y1 H2 bt h2 hp hM k1 k2 hb => ?_⟩
      exact ⟨p, rfl, _, SqT.of hp, rfl, _, _, rfl, _, _, rfl, rfl, hR _ _ ⟨p, d, k, x1, y1, rfl, h2, hp, hM, k1, k2, hb⟩⟩
    clear hst
    rintro σ H2 ⟨p, d, k, x, y, rfl, hst, hp, hM, k1, k2, hb⟩
    have dB := hM.2.2.1
    have kk : (k : Int) * k ≤ 1000 * 1000 := Int.mul_le_mul (by omega) (by omega) (by omega) (by omega)
    have dk : ((d * (k : Int)).natAbs : Int) ≤ 8000000 * 1000 := by
      rw [Int.natAbs_mul]
      show ((d.natAbs * k : Nat) : Int) ≤ _
      have : d.natAbs * k ≤ 8000000 * 1000 := Nat.mul_le_mul (by omega) k2
      omega
    have eD : d * (k : Int) * (k : Int) = d * ((k * k : Nat) : Int) := by rw [Int.natCast_mul, Int.mul_assoc]
    have hSp : Spl (d * ((k * k : Nat) : Int)) d k := by
      have na : (d * ((k * k : Nat) : Int)).natAbs = d.natAbs * (k * k) := by rw [Int.natAbs_mul]; rfl
      exact ⟨rfl, k1, hM.1, by rw [na]; exact hb, by rw [na]; exact made_smo hM k1 k2⟩
    have hdi := spl_disc hSp hM.2.1
    have hbg := spl_big hSp
    refine seq_cut (fun σ H => σ = [some (.ref a0), some (.ref st), some (.int d), some (.int (k : Int)), none, none, none, none] ∧ Same H2 H) (fun R hR => ?_) ?_
    · walk_at "rs"
      rw [eD]
      refine ⟨mulR (by omega), mulR (by omega), 0, _, rfl, .inl rfl, .inr ⟨_, rfl, hbg, hdi, .inr ⟨d, k, hSp, fun _ p1 H3 s3 hp1 => ⟨by decide, fun p2 n2 => ?_⟩, fun z => by cases z⟩⟩⟩
      refine ⟨_, _, dp_pair (same_upd n2 _ _ hp1), dp_pair upd_same, sh_pair, sh_pair, false, ?_, ?_⟩
      · rw [eq_pair]
        rfl
      rw [if_neg (by decide)]
      refine ⟨mulR (by omega), mulR (by omega), 1, _, rfl, .inr rfl, .inr ⟨_, rfl, hbg, hdi, .inr ⟨d, k, hSp, fun z => (by cases z), fun _ H4 s4 => ?_⟩⟩⟩
      refine ⟨_, _, rfl, true, ?_, ?_⟩
      · by_cases c : k = 1
        · subst c
          rfl
        · rw [decide_eq_false c, decide_eq_false (by omega)]
          rfl
      rw [if_neg (by decide)]
      exact hR _ _ ⟨rfl, ((s3.trans (same_upd n2)).trans s4)⟩
    rintro σ H3 ⟨rfl, s23⟩
    have h3 := s23 _ _ hst
    clear hst hp s23 hSp hdi hbg eD dk kk dB hM
    refine seq_cut (fun σ H => ∃ d0 x y, σ = [some (.ref a0), some (.ref st), some (.int d0), some (.int (k : Int)), none, none, none, none] ∧ H st = some (.lst [.int x, .int y]) ∧ ((3 ≤ d0 ∧ d0 ≤ 1006) ∨ (-1006 ≤ d0 ∧ d0 ≤ -3))) (fun R hR => ?_) ?_
    · walk_at "rs"
      refine ⟨st, x, y, 2, rfl, h3, by decide, by decide +kernel, fun v x1 y1 v0 v1 => ⟨v, rfl, mulL (by decide), ?_⟩⟩
      refine ⟨st, x1, y1, 1000, 1 - 2 * v, rfl, upd_same, by decide, by decide, by omega, fun d' x2 y2 d3 d6 => hR _ _ ⟨_, x2, y2, rfl, upd_same, ?_⟩⟩
      have c : v = 0 ∨ v = 1 := by omega
      rcases c with rfl | rfl
      · left; omega
      · right; omega
    clear h3 hb d
    rintro σ H4 ⟨d0, x4, y4, rfl, h4, hd0⟩
    have hT : ∃ T, discB T = true ∧ d0 ≤ T ∧ ((3 ≤ d0 ∧ T ≤ 1020) ∨ T = -3) := by
      rcases hd0 with ⟨c1, c2⟩ | ⟨c1, c2⟩
      · obtain ⟨n, n1, n2, n3⟩ := disc_near c1
        exact ⟨n, n3, n1, .inl ⟨c1, by omega⟩⟩
      · exact ⟨-3, by decide +kernel, c2, .inr rfl⟩
    obtain ⟨T, T1, T2, T3⟩ := hT
    have hB := BIG_pos
    refine seq_cut (fun σ H => ∃ d1, σ = [some (.ref a0), some (.ref st), some (.int d1), some (.int (k : Int)), none, none, none, none] ∧ H = H4 ∧ discB d1 = true ∧ d1 ≠ 0 ∧ (d1.natAbs : Int) < 1600) (fun R hR => ?_) ?_
    · refine while_w (fun σ H => H = H4 ∧ ∃ d1, σ = [some (.ref a0), some (.ref st), some (.int d1), some (.int (k : Int)), none, none, none, none] ∧ d0 ≤ d1 ∧ d1 ≤ T)
        (fun σ _ => match σ with | [_, _, some (.int d1), _, _, _, _, _] => (T - d1).toNat | _ => 0) ⟨rfl, d0, rfl, Int.le_refl _, T2⟩ ?_
      rintro σ H ⟨rfl, d1, rfl, e1, e2⟩ N hN
      refine ⟨!discB d1, fun Q' q' => ?_, fun hb => ?_, fun hb => ?_⟩
      · walk_at "rd"
        exact ⟨.int d1, rfl, .inr ⟨d1, rfl, by omega, _, rfl, q'⟩⟩
      · walk_at "rd"
        refine hN _ _ ⟨rfl, d1 + 1, rfl, by omega, ?_⟩ ?_
        · rcases Int.lt_or_le d1 T with z | z
          · omega
          · have : d1 = T := by omega
            subst this
            rw [T1] at hb
            cases hb
        · show (T - (d1 + 1)).toNat < (T - d1).toNat
          rcases Int.lt_or_le d1 T with z | z
          · omega
          · have : d1 = T := by omega
            subst this
            rw [T1] at hb
            cases hb
      · have hb : discB d1 = true := by
          cases hz : discB d1
          · rw [hz] at hb; cases hb
          · rfl
        exact hR _ _ ⟨d1, rfl, rfl, hb, by omega, by omega⟩
    clear hd0 T1 T2 T3 T d0
    rintro σ H5 ⟨d, rfl, rfl, hdi, d0, dB⟩
    have d4 : d % 4 < 2 := by
      unfold discB at hdi
      rw [Bool.and_eq_true] at hdi
      have := of_decide_eq_true hdi.1
      omega
    rw [CB.rd_seq]
    walk_at "rs"
    refine ⟨by decide, by decide, by decide, by decide, LcR.w (fun i D zs H6 => Same H5 H6 ∧ H6 D = some (.lst zs) ∧ H5 D = none ∧ zs.length ≤ i ∧ ((i = 0 ∧ zs = []) ∨ ∃ (L : List V) (k0 : Nat), zs = L ++ [.int (k0 : Int)] ∧ 1 ≤ k0 ∧ k0 ≤ i ∧ pk d k0 ∧ ∀ j, k0 < j → j ≤ i → ¬ pk d j))
      (fun D nD => ⟨same_upd nD, upd_same, nD, Nat.le_refl _, .inl ⟨rfl, rfl⟩⟩) ?_ ?_⟩
    · rintro D i zs H6 hi ⟨s6, hD, nD, hz, hc⟩ N hN
      have hi : i < 39 := hi
      have e : (1 : Int) + (i : Nat) = ((i + 1 : Nat) : Int) := by omega
      walk_at "rd"
      rw [e]
      have jj : 0 < ((i + 1 : Nat) : Int) * ((i + 1 : Nat) : Int) := Int.mul_pos (by omega) (by omega)
      have mo : IntMulOk ((i + 1 : Nat) : Int) ((i + 1 : Nat) : Int) := mulR (by omega)
      have jb : ((i + 1 : Nat) : Int) * ((i + 1 : Nat) : Int) ≤ 40 * 40 := Int.mul_le_mul (by omega) (by omega) (by omega) (by omega)
      have no : ¬ pk d (i + 1) → N H6 := fun np => by
        refine hN zs _ ⟨s6, hD, nD, by omega, ?_⟩
        rcases hc with ⟨rfl, _⟩ | ⟨L, k0, e1, e2, e3, e4, e5⟩
        · exact absurd ⟨by show d % 1 = 0; omega, by show d / 1 % 4 < 2; omega⟩ np
        · refine .inr ⟨L, k0, e1, e2, by omega, e4, fun j j1 j2 => ?_⟩
          rcases Nat.lt_or_ge i j with z | z
          · have : j = i + 1 := by omega
            subst this
            exact np
          · exact e5 j j1 z
      refine ⟨mo, jj, ite2 (fun c => ?_) (fun c => no fun z => c z.1)⟩
      refine ⟨mo, wide_div (b := 20) jj (by omega) (by decide) (by decide), by decide, ite2 (fun c2 => ?_) (fun c2 => no fun z => c2 z.2)⟩
      refine ⟨zs, hD, small_size (by omega), hN _ _ ⟨same_at s6 nD, upd_same, nD, by rw [List.length_append]; simp; omega, .inr ⟨zs, i + 1, rfl, by omega, Nat.le_refl _, ⟨c, c2⟩, fun j j1 j2 => by omega⟩⟩⟩
    rintro D zs H6 nD ⟨s6, hD, _, hz, hc⟩
    obtain ⟨L, k0, rfl, k01, k02, kp, kmax⟩ : ∃ (L : List V) (k0 : Nat), zs = L ++ [.int (k0 : Int)] ∧ 1 ≤ k0 ∧ k0 ≤ 39 ∧ pk d k0 ∧ ∀ j, k0 < j → j ≤ 39 → ¬ pk d j := by
      rcases hc with ⟨c, _⟩ | h
      · have : (40 - 1 : Int).toNat = 0 := c
        cases this
      · exact h
    show tSeq _ _ _ _ _
    rw [CB.rd_seq]
    walk_at "rs"
    refine ⟨_, SqL.of hD, _, atI_last _ _, ?_⟩
    obtain ⟨hF, eD⟩ := fund_of_max d0 dB k01 kp.1 kp.2 fun j j1 j2 z => kmax j j1 j2 z
    have hSp : Spl d (d / ((k0 : Int) * k0)) k0 := by
      refine ⟨eD, k01, hF, by omega, fun m hm _ => ?_⟩
      have := Nat.le_of_dvd (by omega) hm
      omega
    have h6 := s6 _ _ h4
    clear hD hz hc nD
    generalize ht : d / ((k0 : Int) * k0) = t at *
    show tSeq _ _ _ _ _
    refine seq_cut (fun σ H => ∃ s4, σ = [some (.ref a0), some (.ref st), some (.int d), some (.int (k0 : Int)), s4, none, none, none] ∧ Same H6 H) (fun R hR => ?_) ?_
    · walk_at "rs"
      have jj : 0 < (k0 : Int) * (k0 : Int) := Int.mul_pos (by omega) (by omega)
      have jb : (k0 : Int) * (k0 : Int) ≤ 40 * 40 := Int.mul_le_mul (by omega) (by omega) (by omega) (by omega)
      refine ⟨0, _, rfl, .inl rfl, .inr ⟨_, rfl, by omega, hdi, .inr ⟨t, k0, hSp, fun _ p1 H7 s7 hp1 => ⟨mulR (by omega), wide_div (b := 20) jj (by omega) (by decide) (by decide), by decide, fun p2 n2 => ?_⟩, fun z => by cases z⟩⟩⟩
      rw [ht]
      refine ⟨_, _, dp_pair (same_upd n2 _ _ hp1), dp_pair upd_same, sh_pair, sh_pair, false, ?_, ?_⟩
      · rw [eq_pair]
        rfl
      rw [if_neg (by decide)]
      refine ⟨1, _, rfl, .inr rfl, .inr ⟨_, rfl, by omega, hdi, .inr ⟨t, k0, hSp, fun z => (by cases z), fun _ H8 s8 => ?_⟩⟩⟩
      refine ⟨_, _, rfl, true, ?_, ?_⟩
      · by_cases c : k0 = 1
        · subst c
          rfl
        · rw [decide_eq_false c, decide_eq_false (by omega)]
          rfl
      rw [if_neg (by decide)]
      exact hR _ _ ⟨_, rfl, ((s7.trans (same_upd n2)).trans s8)⟩
    rintro σ H7 ⟨s4, rfl, s7⟩
    have h7 := s7 _ _ h6
    clear h6 s7 s6 h4
    have e12 : (10 : Int) ^ Int.toNat 12 = 1000000000000 := by decide +kernel
    have e20 : (10 : Int) ^ Int.toNat 20 = 100000000000000000000 := by decide +kernel
    have pw12 : CPowI 10 12 := powI (n := 4) (by decide) (by decide) (by decide) (by decide)
    have pw20 : CPowI 10 20 := powI (n := 4) (by decide) (by decide) (by decide) (by decide)
    have hB2 : (1000000000000000000000000 : Int) < BIG := by decide +kernel
    refine seq_cut (fun σ H => ∃ s5 s7, σ = [some (.ref a0), some (.ref st), some (.int d), some (.int (k0 : Int)), s4, s5, none, s7] ∧ Same H7 H) (fun R hR => ?_) ?_
    · walk_at "rs"
      rw [e12, e20]
      refine ⟨pw12, pw12, pw12, pw20, mulL (by decide), by decide, fun p1 n1 => ?_⟩
      have hp1 : (upd H7 p1 (HO.tup [V.int (1000000000000 + 1), V.int (1000000000000 + 4), V.int (-1000000000000 - 3), V.int (-4 * 100000000000000000000)])) p1 = some (.tup [V.int (1000000000000 + 1), V.int (1000000000000 + 4), V.int (-1000000000000 - 3), V.int (-4 * 100000000000000000000)]) := upd_same
      have u1 := same_upd (o := HO.tup [V.int (1000000000000 + 1), V.int (1000000000000 + 4), V.int (-1000000000000 - 3), V.int (-4 * 100000000000000000000)]) n1
      generalize upd H7 p1 (HO.tup [V.int (1000000000000 + 1), V.int (1000000000000 + 4), V.int (-1000000000000 - 3), V.int (-4 * 100000000000000000000)]) = H8 at *
      refine ⟨⟨_, SqT.of hp1⟩, ForT.w (xs := [V.int (1000000000000 + 1), V.int (1000000000000 + 4), V.int (-1000000000000 - 3), V.int (-4 * 100000000000000000000)]) (fun i σ H => ∃ s5 s7, σ = [some (.ref a0), some (.ref st), some (.int d), some (.int (k0 : Int)), s4, s5, none, s7] ∧ Same H8 H) ⟨_, _, rfl, Same.refl _⟩ ?_ ?_ ?_⟩
      · rintro i σ H _ ⟨_, _, _, s8⟩
        exact SqT.of (s8 _ _ hp1)
      · rintro i v σ H hv ⟨s5, s7', rfl, s8⟩ N hN
        have hi : i < 4 := (List.getElem?_eq_some_iff.mp hv).1
        have pick : ∃ n : Int, v = .int n ∧ discB n = true ∧ 1000000000000 < n.natAbs ∧ n < BIG := by
          have c : i = 0 ∨ i = 1 ∨ i = 2 ∨ i = 3 := by omega
          rcases c with rfl | rfl | rfl | rfl <;> cases hv
          · exact ⟨_, rfl, by decide +kernel, by decide +kernel, by decide +kernel⟩
          · exact ⟨_, rfl, by decide +kernel, by decide +kernel, by decide +kernel⟩
          · exact ⟨_, rfl, by decide +kernel, by decide +kernel, by decide +kernel⟩
          · exact ⟨_, rfl, by decide +kernel, by decide +kernel, by decide +kernel⟩
        obtain ⟨n, rfl, nd, nl, nb⟩ := pick
        walk_at "rd"
        refine ⟨by decide, fun t1 m1 => ?_⟩
        have v1 := same_upd (o := HO.tup [V.int 0, V.int 1]) m1
        have ht1 : upd H t1 (HO.tup [V.int 0, V.int 1]) t1 = some (HO.tup [V.int 0, V.int 1]) := upd_same
        generalize upd H t1 (HO.tup [V.int 0, V.int 1]) = H9 at *
        refine ⟨⟨_, SqT.of ht1⟩, LcT.w (xs := [V.int 0, V.int 1]) (fun i D zs H4 => zs = List.replicate i (V.str "large") ∧ Same H9 H4 ∧ H4 D = some (.lst zs) ∧ H9 D = none) (fun D nD => ⟨rfl, same_upd nD, upd_same, nD⟩) ?_ ?_ ?_⟩
        · rintro D i zs H4 _ ⟨_, sm, _, _⟩
          exact SqT.of (sm _ _ ht1)
        · rintro D j v zs H4 hv ⟨rfl, sm, hD, nD⟩ Nx hNx
          have hj : j < 2 := (List.getElem?_eq_some_iff.mp hv).1
          have pick : ∃ z : Int, v = .int z ∧ (z = 0 ∨ z = 1) := by
            have c : j = 0 ∨ j = 1 := by omega
            rcases c with rfl | rfl <;> cases hv
            · exact ⟨0, rfl, .inl rfl⟩
            · exact ⟨1, rfl, .inr rfl⟩
          obtain ⟨z, rfl, hz⟩ := pick
          walk_at "rs"
          refine ⟨z, _, rfl, hz, .inr ⟨n, rfl, nb, nd, .inl ⟨nl, fun H8 s8 => ⟨_, s8 _ _ hD, ?_, hNx _ _ ⟨?_, same_at (sm.trans s8) nD, upd_same, nD⟩⟩⟩⟩⟩
          · rw [List.length_replicate]
            exact small_size (by omega)
          · rw [List.replicate_succ']
        · rintro D zs H4 nD ⟨rfl, s4', hD, _⟩
          refine ⟨by decide, fun l2 n2 => ?_⟩
          refine ⟨[V.str "large"], upd_same, by decide, by decide, by decide +kernel, fun l3 n3 => ?_⟩
          refine ⟨_, _, dp_rep (x := "large") (n := 2) (same_upd n3 _ _ (same_upd n2 _ _ hD)), dp_rep (x := "large") (n := 2) upd_same, by decide +kernel, by decide +kernel, false, by decide +kernel, ?_⟩
          rw [if_neg (by decide)]
          exact hN _ _ ⟨_, _, rfl, s8.trans (((v1.trans s4').trans (same_upd n2)).trans (same_upd n3))⟩
      · rintro σ H ⟨s5, s7', rfl, s8⟩
        exact hR _ _ ⟨_, _, rfl, u1.trans s8⟩
    rintro σ H8 ⟨s5, s7', rfl, s8⟩
    have h8 := s8 _ _ h7
    rw [CB.rd_seq]
    walk_at "rs"
    refine ⟨by decide, fun p np => ⟨pw12, by decide, fun p1 np1 => ?_⟩⟩
    rw [e12]
    have sp : st ≠ p := ne_of_none h8 np
    have sp1 : st ≠ p1 := ne_of_none (by rw [upd_ne sp]; exact h8) np1
    have pp1 : p ≠ p1 := ne_of_none upd_same np1
    refine ⟨st, x4, y4, 13, rfl, by rw [upd_ne sp1, upd_ne sp]; exact h8, by decide, by decide +kernel, fun v x5 y5 v0 v1 => ?_⟩
    generalize e10 : upd (upd (upd H8 p (HO.tup [V.int 5])) p1 _) st _ = H10
    have hp : H10 p = some (.tup [V.int 5]) := by rw [← e10, upd_ne sp.symm, upd_ne pp1, upd_same]
    have hp1 : H10 p1 = some (.lst [V.non, V.bl true, V.str (Str.ofString "5"), V.ref p, V.int 0, V.int 1, V.int 2, V.int 3, V.int 4, V.int (-1), V.int (-2), V.int 9, V.int 1000000000000]) := by rw [← e10, upd_ne sp1.symm, upd_same]
    clear e10
    have kd : ∀ {H' : Hp} {w : V} {T : String}, TyX K H' w (.type T) → T ∈ kinds → (T == "int") = false → NotD K H' w := fun a b c => .inl ⟨_, a, b, c⟩
    have ng : ∀ {H' : Hp} {n : Int}, n < 1000000000000000000 → discB n = false → NotD K H' (.int n) := fun {H' n} a b => .inr ⟨n, rfl, by omega, b⟩
    have pick : ∃ w, atI [V.non, V.bl true, V.str (Str.ofString "5"), V.ref p, V.int 0, V.int 1, V.int 2, V.int 3, V.int 4, V.int (-1), V.int (-2), V.int 9, V.int 1000000000000] v = some w ∧ ∀ H', Same H10 H' → NotD K H' w := by
      have c : v = 0 ∨ v = 1 ∨ v = 2 ∨ v = 3 ∨ v = 4 ∨ v = 5 ∨ v = 6 ∨ v = 7 ∨ v = 8 ∨ v = 9 ∨ v = 10 ∨ v = 11 ∨ v = 12 := by omega
      rcases c with rfl | rfl | rfl | rfl | rfl | rfl | rfl | rfl | rfl | rfl | rfl | rfl | rfl
      · exact ⟨_, rfl, fun H' _ => kd (T := "NoneType") (.base .non) (by decide) (by decide)⟩
      · exact ⟨_, rfl, fun H' _ => kd (T := "bool") (.base (.bl true)) (by decide) (by decide)⟩
      · exact ⟨_, rfl, fun H' _ => kd (T := "str") (.base (.str _)) (by decide) (by decide)⟩
      · exact ⟨_, rfl, fun H' sm => kd (T := "tuple") (.base (.tup (sm _ _ hp))) (by decide) (by decide)⟩
      · exact ⟨_, rfl, fun H' _ => ng (by decide) (by decide +kernel)⟩
      · exact ⟨_, rfl, fun H' _ => ng (by decide) (by decide +kernel)⟩
      · exact ⟨_, rfl, fun H' _ => ng (by decide) (by decide +kernel)⟩
      · exact ⟨_, rfl, fun H' _ => ng (by decide) (by decide +kernel)⟩
      · exact ⟨_, rfl, fun H' _ => ng (by decide) (by decide +kernel)⟩
      · exact ⟨_, rfl, fun H' _ => ng (by decide) (by decide +kernel)⟩
      · exact ⟨_, rfl, fun H' _ => ng (by decide) (by decide +kernel)⟩
      · exact ⟨_, rfl, fun H' _ => ng (by decide) (by decide +kernel)⟩
      · exact ⟨_, rfl, fun H' _ => ng (by decide) (by decide +kernel)⟩
    obtain ⟨bad, ebad, hbad⟩ := pick
    refine ⟨_, v, rfl, SqL.of hp1, bad, ebad, by decide, fun t1 m1 => ?_⟩
    have v1 := same_upd (o := HO.tup [V.int 0, V.int 1]) m1
    have ht1 : upd H10 t1 (HO.tup [V.int 0, V.int 1]) t1 = some (HO.tup [V.int 0, V.int 1]) := upd_same
    generalize upd H10 t1 (HO.tup [V.int 0, V.int 1]) = H11 at *
    refine ⟨⟨_, SqT.of ht1⟩, LcT.w (xs := [V.int 0, V.int 1]) (fun i D zs H4 => zs = List.replicate i (V.str "malformed") ∧ Same H11 H4 ∧ H4 D = some (.lst zs) ∧ H11 D = none) (fun D nD => ⟨rfl, same_upd nD, upd_same, nD⟩) ?_ ?_ ?_⟩
    · rintro D i zs H4 _ ⟨_, sm, _, _⟩
      exact SqT.of (sm _ _ ht1)
    · rintro D j v zs H4 hv ⟨rfl, sm, hD, nD⟩ Nx hNx
      have hj : j < 2 := (List.getElem?_eq_some_iff.mp hv).1
      have pick : ∃ z : Int, v = .int z ∧ (z = 0 ∨ z = 1) := by
        have c : j = 0 ∨ j = 1 := by omega
        rcases c with rfl | rfl <;> cases hv
        · exact ⟨0, rfl, .inl rfl⟩
        · exact ⟨1, rfl, .inr rfl⟩
      obtain ⟨z, rfl, hz⟩ := pick
      walk_at "rs"
      refine ⟨z, _, rfl, hz, .inl ⟨hbad _ (v1.trans sm), fun H8 s8 => ⟨_, s8 _ _ hD, ?_, hNx _ _ ⟨?_, same_at (sm.trans s8) nD, upd_same, nD⟩⟩⟩⟩
      · rw [List.length_replicate]
        exact small_size (by omega)
      · rw [List.replicate_succ']
    · rintro D zs H4 nD ⟨rfl, s4', hD, _⟩
      refine ⟨by decide, fun l2 n2 => ?_⟩
      refine ⟨[V.str "malformed"], upd_same, by decide, by decide, by decide +kernel, fun l3 n3 => ?_⟩
      refine ⟨_, _, dp_rep (x := "malformed") (n := 2) (same_upd n3 _ _ (same_upd n2 _ _ hD)), dp_rep (x := "malformed") (n := 2) upd_same, by decide +kernel, by decide +kernel, ?_⟩
      rw [show PyData.eqv (PyData.list (List.replicate 2 (PyData.str "malformed"))) (PyData.list (List.replicate 2 (PyData.str "malformed"))) = true from by decide +kernel]
      exact q _
end

abbrev s_RI : Stmt := inClass (top 4) 0
theorem sc_RI : FnScope ["self", "reason"] ["self", "reason"] (defScope s_RI) := ⟨rfl, rfl, rfl, by decide +kernel, rfl, by decide +kernel, by decide +kernel⟩
theorem ri_fn {P : Program} {w : World} {K : PySem.W.Frag} {mg : Str → Option Value} {base : Heap} {f : Addr} {fd : FuncData} (F : Fun K "__init__" "Refused.__init__" s_RI f fd) : FnOk P w K mg base CX0 1 f fd ["self", "reason"] (spRI K) := by
  refine F.ok sc_RI (fun vs H Q E h => by obtain ⟨a, C, v, rfl, _⟩ := h; rfl) (fun cdv A outer s H vs Q E hr h => ?_)
  obtain ⟨a, C, v, rfl, ox, n, ha, q⟩ := h
  refine ⟨_, pss_one (ps_ost (pv 0) (pv 1)), ?_⟩
  exact ⟨_, rfl, _, rfl, a, C, rfl, ox, n, .inl ⟨ha, fun dx hd ne => q dx hd ne⟩⟩
theorem all_mk {l : PySem.W.OpenLaw} {w : World} {K : PySem.W.Frag} {h : Heap} {mg : Str → Option Value} {fa f__law_take f__law_state f_is_integer f__law_whole f__law_root f_is_square f_is_discriminant f_check_discriminant f_raised f_least_divisor f_is_prime f__prime_list f_factors f_split_discriminant f__law_is_told_disc f__law_says f__law_no_word f_fundamental f_is_fundamental f__law_plain f__law_told f__law_drawn_disc f__law_made f_law CM CR fI NR : Addr} (X : K.In h) (G : h.Ns mainGlobals mg) (hfa : mg "law" = some (.ref fa))
    {od__law_take an__law_take od__law_state an__law_state od_is_integer an_is_integer od__law_whole an__law_whole od__law_root an__law_root od_is_square an_is_square od_is_discriminant an_is_discriminant od_check_discriminant an_check_discriminant od_raised an_raised od_least_divisor an_least_divisor od_is_prime an_is_prime od__prime_list an__prime_list od_factors an_factors od_split_discriminant an_split_discriminant od__law_is_told_disc an__law_is_told_disc od__law_says an__law_says od__law_no_word an__law_no_word od_fundamental an_fundamental od_is_fundamental an_is_fundamental od__law_plain an__law_plain od__law_told an__law_told od__law_drawn_disc an__law_drawn_disc od__law_made an__law_made od_law an_law od_I an_I dd_R : Option Addr} {sl__law_take sl__law_state sl_is_integer sl__law_whole sl__law_root sl_is_square sl_is_discriminant sl_check_discriminant sl_raised sl_least_divisor sl_is_prime sl__prime_list sl_factors sl_split_discriminant sl__law_is_told_disc sl__law_says sl__law_no_word sl_fundamental sl_is_fundamental sl__law_plain sl__law_told sl__law_drawn_disc sl__law_made sl_law sl_I : Array (Option Value)} {oc__law_take kV__law_take dc__law_take pm__law_take cd__law_take ct__law_take oc__law_state kV__law_state dc__law_state pm__law_state cd__law_state ct__law_state oc_is_integer kV_is_integer dc_is_integer pm_is_integer cd_is_integer ct_is_integer oc__law_whole kV__law_whole dc__law_whole pm__law_whole cd__law_whole ct__law_whole oc__law_root kV__law_root dc__law_root pm__law_root cd__law_root ct__law_root oc_is_square kV_is_square dc_is_square pm_is_square cd_is_square ct_is_square oc_is_discriminant kV_is_discriminant dc_is_discriminant pm_is_discriminant cd_is_discriminant ct_is_discriminant oc_check_discriminant kV_check_discriminant dc_check_discriminant pm_check_discriminant cd_check_discriminant ct_check_discriminant oc_raised kV_raised dc_raised pm_raised cd_raised ct_raised oc_least_divisor kV_least_divisor dc_least_divisor pm_least_divisor cd_least_divisor ct_least_divisor oc_is_prime kV_is_prime dc_is_prime pm_is_prime cd_is_prime ct_is_prime oc__prime_list kV__prime_list dc__prime_list pm__prime_list cd__prime_list ct__prime_list oc_factors kV_factors dc_factors pm_factors cd_factors ct_factors oc_split_discriminant kV_split_discriminant dc_split_discriminant pm_split_discriminant cd_split_discriminant ct_split_discriminant oc__law_is_told_disc kV__law_is_told_disc dc__law_is_told_disc pm__law_is_told_disc cd__law_is_told_disc ct__law_is_told_disc oc__law_says kV__law_says dc__law_says pm__law_says cd__law_says ct__law_says oc__law_no_word kV__law_no_word dc__law_no_word pm__law_no_word cd__law_no_word ct__law_no_word oc_fundamental kV_fundamental dc_fundamental pm_fundamental cd_fundamental ct_fundamental oc_is_fundamental kV_is_fundamental dc_is_fundamental pm_is_fundamental cd_is_fundamental ct_is_fundamental oc__law_plain kV__law_plain dc__law_plain pm__law_plain cd__law_plain ct__law_plain oc__law_told kV__law_told dc__law_told pm__law_told cd__law_told ct__law_told oc__law_drawn_disc kV__law_drawn_disc dc__law_drawn_disc pm__law_drawn_disc cd__law_drawn_disc ct__law_drawn_disc oc__law_made kV__law_made dc__law_made pm__law_made cd__law_made ct__law_made oc_law kV_law dc_law pm_law cd_law ct_law oc_I kV_I dc_I pm_I cd_I ct_I : Value} {t_BATCH t_BOUND t_LARGEST_primes t_LARGEST_signs t_TRIED_TO : Tok} {nm_R q_R : Str} {bs_R bm_R sub_R : List Value} {sn_R : List Str} {ab_R : Bool} {col_R : Option Bool} {m0_R m1_R m2_R m3_R m5_R : Option Value}
    (a__law_take : PySem.W.nsIn K mainGlobals "_law_take" = some (some (.ref f__law_take)))
    (l__law_take : K.lookup f__law_take = some ⟨oc__law_take, od__law_take, .func (PySem.W.fnOf "_law_take" "_law_take" (defArgs s__law_take) (defBody s__law_take) (defScope s__law_take) .none kV__law_take dc__law_take pm__law_take an__law_take cd__law_take ct__law_take), sl__law_take⟩)
    (c__law_take : PySem.W.codeIn K cd__law_take "_law_take" = true)
    (k__law_take : PySem.W.keepIn K (.ref f__law_take) = true)
    (a__law_state : PySem.W.nsIn K mainGlobals "_law_state" = some (some (.ref f__law_state)))
    (l__law_state : K.lookup f__law_state = some ⟨oc__law_state, od__law_state, .func (PySem.W.fnOf "_law_state" "_law_state" (defArgs s__law_state) (defBody s__law_state) (defScope s__law_state) .none kV__law_state dc__law_state pm__law_state an__law_state cd__law_state ct__law_state), sl__law_state⟩)
    (c__law_state : PySem.W.codeIn K cd__law_state "_law_state" = true)
    (k__law_state : PySem.W.keepIn K (.ref f__law_state) = true)
    (a_is_integer : PySem.W.nsIn K mainGlobals "is_integer" = some (some (.ref f_is_integer)))
    (l_is_integer : K.lookup f_is_integer = some ⟨oc_is_integer, od_is_integer, .func (PySem.W.fnOf "is_integer" "is_integer" (defArgs s_is_integer) (defBody s_is_integer) (defScope s_is_integer) .none kV_is_integer dc_is_integer pm_is_integer an_is_integer cd_is_integer ct_is_integer), sl_is_integer⟩)
    (c_is_integer : PySem.W.codeIn K cd_is_integer "is_integer" = true)
    (k_is_integer : PySem.W.keepIn K (.ref f_is_integer) = true)
    (a__law_whole : PySem.W.nsIn K mainGlobals "_law_whole" = some (some (.ref f__law_whole)))
    (l__law_whole : K.lookup f__law_whole = some ⟨oc__law_whole, od__law_whole, .func (PySem.W.fnOf "_law_whole" "_law_whole" (defArgs s__law_whole) (defBody s__law_whole) (defScope s__law_whole) .none kV__law_whole dc__law_whole pm__law_whole an__law_whole cd__law_whole ct__law_whole), sl__law_whole⟩)
    (c__law_whole : PySem.W.codeIn K cd__law_whole "_law_whole" = true)
    (k__law_whole : PySem.W.keepIn K (.ref f__law_whole) = true)
    (a__law_root : PySem.W.nsIn K mainGlobals "_law_root" = some (some (.ref f__law_root)))
    (l__law_root : K.lookup f__law_root = some ⟨oc__law_root, od__law_root, .func (PySem.W.fnOf "_law_root" "_law_root" (defArgs s__law_root) (defBody s__law_root) (defScope s__law_root) .none kV__law_root dc__law_root pm__law_root an__law_root cd__law_root ct__law_root), sl__law_root⟩)
    (c__law_root : PySem.W.codeIn K cd__law_root "_law_root" = true)
    (k__law_root : PySem.W.keepIn K (.ref f__law_root) = true)
    (a_is_square : PySem.W.nsIn K mainGlobals "is_square" = some (some (.ref f_is_square)))
    (l_is_square : K.lookup f_is_square = some ⟨oc_is_square, od_is_square, .func (PySem.W.fnOf "is_square" "is_square" (defArgs s_is_square) (defBody s_is_square) (defScope s_is_square) .none kV_is_square dc_is_square pm_is_square an_is_square cd_is_square ct_is_square), sl_is_square⟩)
    (c_is_square : PySem.W.codeIn K cd_is_square "is_square" = true)
    (k_is_square : PySem.W.keepIn K (.ref f_is_square) = true)
    (a_is_discriminant : PySem.W.nsIn K mainGlobals "is_discriminant" = some (some (.ref f_is_discriminant)))
    (l_is_discriminant : K.lookup f_is_discriminant = some ⟨oc_is_discriminant, od_is_discriminant, .func (PySem.W.fnOf "is_discriminant" "is_discriminant" (defArgs s_is_discriminant) (defBody s_is_discriminant) (defScope s_is_discriminant) .none kV_is_discriminant dc_is_discriminant pm_is_discriminant an_is_discriminant cd_is_discriminant ct_is_discriminant), sl_is_discriminant⟩)
    (c_is_discriminant : PySem.W.codeIn K cd_is_discriminant "is_discriminant" = true)
    (k_is_discriminant : PySem.W.keepIn K (.ref f_is_discriminant) = true)
    (a_check_discriminant : PySem.W.nsIn K mainGlobals "check_discriminant" = some (some (.ref f_check_discriminant)))
    (l_check_discriminant : K.lookup f_check_discriminant = some ⟨oc_check_discriminant, od_check_discriminant, .func (PySem.W.fnOf "check_discriminant" "check_discriminant" (defArgs s_check_discriminant) (defBody s_check_discriminant) (defScope s_check_discriminant) .none kV_check_discriminant dc_check_discriminant pm_check_discriminant an_check_discriminant cd_check_discriminant ct_check_discriminant), sl_check_discriminant⟩)
    (c_check_discriminant : PySem.W.codeIn K cd_check_discriminant "check_discriminant" = true)
    (k_check_discriminant : PySem.W.keepIn K (.ref f_check_discriminant) = true)
    (a_raised : PySem.W.nsIn K mainGlobals "raised" = some (some (.ref f_raised)))
    (l_raised : K.lookup f_raised = some ⟨oc_raised, od_raised, .func (PySem.W.fnOf "raised" "raised" (defArgs s_raised) (defBody s_raised) (defScope s_raised) .none kV_raised dc_raised pm_raised an_raised cd_raised ct_raised), sl_raised⟩)
    (c_raised : PySem.W.codeIn K cd_raised "raised" = true)
    (k_raised : PySem.W.keepIn K (.ref f_raised) = true)
    (a_least_divisor : PySem.W.nsIn K mainGlobals "least_divisor" = some (some (.ref f_least_divisor)))
    (l_least_divisor : K.lookup f_least_divisor = some ⟨oc_least_divisor, od_least_divisor, .func (PySem.W.fnOf "least_divisor" "least_divisor" (defArgs s_least_divisor) (defBody s_least_divisor) (defScope s_least_divisor) .none kV_least_divisor dc_least_divisor pm_least_divisor an_least_divisor cd_least_divisor ct_least_divisor), sl_least_divisor⟩)
    (c_least_divisor : PySem.W.codeIn K cd_least_divisor "least_divisor" = true)
    (k_least_divisor : PySem.W.keepIn K (.ref f_least_divisor) = true)
    (a_is_prime : PySem.W.nsIn K mainGlobals "is_prime" = some (some (.ref f_is_prime)))
    (l_is_prime : K.lookup f_is_prime = some ⟨oc_is_prime, od_is_prime, .func (PySem.W.fnOf "is_prime" "is_prime" (defArgs s_is_prime) (defBody s_is_prime) (defScope s_is_prime) .none kV_is_prime dc_is_prime pm_is_prime an_is_prime cd_is_prime ct_is_prime), sl_is_prime⟩)
    (c_is_prime : PySem.W.codeIn K cd_is_prime "is_prime" = true)
    (k_is_prime : PySem.W.keepIn K (.ref f_is_prime) = true)
    (a__prime_list : PySem.W.nsIn K mainGlobals "_prime_list" = some (some (.ref f__prime_list)))
    (l__prime_list : K.lookup f__prime_list = some ⟨oc__prime_list, od__prime_list, .func (PySem.W.fnOf "_prime_list" "_prime_list" (defArgs s__prime_list) (defBody s__prime_list) (defScope s__prime_list) .none kV__prime_list dc__prime_list pm__prime_list an__prime_list cd__prime_list ct__prime_list), sl__prime_list⟩)
    (c__prime_list : PySem.W.codeIn K cd__prime_list "_prime_list" = true)
    (k__prime_list : PySem.W.keepIn K (.ref f__prime_list) = true)
    (a_factors : PySem.W.nsIn K mainGlobals "factors" = some (some (.ref f_factors)))
    (l_factors : K.lookup f_factors = some ⟨oc_factors, od_factors, .func (PySem.W.fnOf "factors" "factors" (defArgs s_factors) (defBody s_factors) (defScope s_factors) .none kV_factors dc_factors pm_factors an_factors cd_factors ct_factors), sl_factors⟩)
    (c_factors : PySem.W.codeIn K cd_factors "factors" = true)
    (k_factors : PySem.W.keepIn K (.ref f_factors) = true)
    (a_split_discriminant : PySem.W.nsIn K mainGlobals "split_discriminant" = some (some (.ref f_split_discriminant)))
    (l_split_discriminant : K.lookup f_split_discriminant = some ⟨oc_split_discriminant, od_split_discriminant, .func (PySem.W.fnOf "split_discriminant" "split_discriminant" (defArgs s_split_discriminant) (defBody s_split_discriminant) (defScope s_split_discriminant) .none kV_split_discriminant dc_split_discriminant pm_split_discriminant an_split_discriminant cd_split_discriminant ct_split_discriminant), sl_split_discriminant⟩)
    (c_split_discriminant : PySem.W.codeIn K cd_split_discriminant "split_discriminant" = true)
    (k_split_discriminant : PySem.W.keepIn K (.ref f_split_discriminant) = true)
    (a__law_is_told_disc : PySem.W.nsIn K mainGlobals "_law_is_told_disc" = some (some (.ref f__law_is_told_disc)))
    (l__law_is_told_disc : K.lookup f__law_is_told_disc = some ⟨oc__law_is_told_disc, od__law_is_told_disc, .func (PySem.W.fnOf "_law_is_told_disc" "_law_is_told_disc" (defArgs s__law_is_told_disc) (defBody s__law_is_told_disc) (defScope s__law_is_told_disc) .none kV__law_is_told_disc dc__law_is_told_disc pm__law_is_told_disc an__law_is_told_disc cd__law_is_told_disc ct__law_is_told_disc), sl__law_is_told_disc⟩)
    (c__law_is_told_disc : PySem.W.codeIn K cd__law_is_told_disc "_law_is_told_disc" = true)
    (k__law_is_told_disc : PySem.W.keepIn K (.ref f__law_is_told_disc) = true)
    (a__law_says : PySem.W.nsIn K mainGlobals "_law_says" = some (some (.ref f__law_says)))
    (l__law_says : K.lookup f__law_says = some ⟨oc__law_says, od__law_says, .func (PySem.W.fnOf "_law_says" "_law_says" (defArgs s__law_says) (defBody s__law_says) (defScope s__law_says) .none kV__law_says dc__law_says pm__law_says an__law_says cd__law_says ct__law_says), sl__law_says⟩)
    (c__law_says : PySem.W.codeIn K cd__law_says "_law_says" = true)
    (k__law_says : PySem.W.keepIn K (.ref f__law_says) = true)
    (a__law_no_word : PySem.W.nsIn K mainGlobals "_law_no_word" = some (some (.ref f__law_no_word)))
    (l__law_no_word : K.lookup f__law_no_word = some ⟨oc__law_no_word, od__law_no_word, .func (PySem.W.fnOf "_law_no_word" "_law_no_word" (defArgs s__law_no_word) (defBody s__law_no_word) (defScope s__law_no_word) .none kV__law_no_word dc__law_no_word pm__law_no_word an__law_no_word cd__law_no_word ct__law_no_word), sl__law_no_word⟩)
    (c__law_no_word : PySem.W.codeIn K cd__law_no_word "_law_no_word" = true)
    (k__law_no_word : PySem.W.keepIn K (.ref f__law_no_word) = true)
    (a_fundamental : PySem.W.nsIn K mainGlobals "fundamental" = some (some (.ref f_fundamental)))
    (l_fundamental : K.lookup f_fundamental = some ⟨oc_fundamental, od_fundamental, .func (PySem.W.fnOf "fundamental" "fundamental" (defArgs s_fundamental) (defBody s_fundamental) (defScope s_fundamental) .none kV_fundamental dc_fundamental pm_fundamental an_fundamental cd_fundamental ct_fundamental), sl_fundamental⟩)
    (c_fundamental : PySem.W.codeIn K cd_fundamental "fundamental" = true)
    (k_fundamental : PySem.W.keepIn K (.ref f_fundamental) = true)
    (a_is_fundamental : PySem.W.nsIn K mainGlobals "is_fundamental" = some (some (.ref f_is_fundamental)))
    (l_is_fundamental : K.lookup f_is_fundamental = some ⟨oc_is_fundamental, od_is_fundamental, .func (PySem.W.fnOf "is_fundamental" "is_fundamental" (defArgs s_is_fundamental) (defBody s_is_fundamental) (defScope s_is_fundamental) .none kV_is_fundamental dc_is_fundamental pm_is_fundamental an_is_fundamental cd_is_fundamental ct_is_fundamental), sl_is_fundamental⟩)
    (c_is_fundamental : PySem.W.codeIn K cd_is_fundamental "is_fundamental" = true)
    (k_is_fundamental : PySem.W.keepIn K (.ref f_is_fundamental) = true)
    (a__law_plain : PySem.W.nsIn K mainGlobals "_law_plain" = some (some (.ref f__law_plain)))
    (l__law_plain : K.lookup f__law_plain = some ⟨oc__law_plain, od__law_plain, .func (PySem.W.fnOf "_law_plain" "_law_plain" (defArgs s__law_plain) (defBody s__law_plain) (defScope s__law_plain) .none kV__law_plain dc__law_plain pm__law_plain an__law_plain cd__law_plain ct__law_plain), sl__law_plain⟩)
    (c__law_plain : PySem.W.codeIn K cd__law_plain "_law_plain" = true)
    (k__law_plain : PySem.W.keepIn K (.ref f__law_plain) = true)
    (a__law_told : PySem.W.nsIn K mainGlobals "_law_told" = some (some (.ref f__law_told)))
    (l__law_told : K.lookup f__law_told = some ⟨oc__law_told, od__law_told, .func (PySem.W.fnOf "_law_told" "_law_told" (defArgs s__law_told) (defBody s__law_told) (defScope s__law_told) .none kV__law_told dc__law_told pm__law_told an__law_told cd__law_told ct__law_told), sl__law_told⟩)
    (c__law_told : PySem.W.codeIn K cd__law_told "_law_told" = true)
    (k__law_told : PySem.W.keepIn K (.ref f__law_told) = true)
    (a__law_drawn_disc : PySem.W.nsIn K mainGlobals "_law_drawn_disc" = some (some (.ref f__law_drawn_disc)))
    (l__law_drawn_disc : K.lookup f__law_drawn_disc = some ⟨oc__law_drawn_disc, od__law_drawn_disc, .func (PySem.W.fnOf "_law_drawn_disc" "_law_drawn_disc" (defArgs s__law_drawn_disc) (defBody s__law_drawn_disc) (defScope s__law_drawn_disc) .none kV__law_drawn_disc dc__law_drawn_disc pm__law_drawn_disc an__law_drawn_disc cd__law_drawn_disc ct__law_drawn_disc), sl__law_drawn_disc⟩)
    (c__law_drawn_disc : PySem.W.codeIn K cd__law_drawn_disc "_law_drawn_disc" = true)
    (k__law_drawn_disc : PySem.W.keepIn K (.ref f__law_drawn_disc) = true)
    (a__law_made : PySem.W.nsIn K mainGlobals "_law_made" = some (some (.ref f__law_made)))
    (l__law_made : K.lookup f__law_made = some ⟨oc__law_made, od__law_made, .func (PySem.W.fnOf "_law_made" "_law_made" (defArgs s__law_made) (defBody s__law_made) (defScope s__law_made) .none kV__law_made dc__law_made pm__law_made an__law_made cd__law_made ct__law_made), sl__law_made⟩)
    (c__law_made : PySem.W.codeIn K cd__law_made "_law_made" = true)
    (k__law_made : PySem.W.keepIn K (.ref f__law_made) = true)
    (a_law : PySem.W.nsIn K mainGlobals "law" = some (some (.ref f_law)))
    (l_law : K.lookup f_law = some ⟨oc_law, od_law, .func (PySem.W.fnOf "law" "law" (defArgs s_law) (defBody s_law) (defScope s_law) .none kV_law dc_law pm_law an_law cd_law ct_law), sl_law⟩)
    (c_law : PySem.W.codeIn K cd_law "law" = true)
    (k_law : PySem.W.keepIn K (.ref f_law) = true)
    (z_abs : PySem.W.nsIn K mainGlobals "abs" = some none)
    (z_int : PySem.W.nsIn K mainGlobals "int" = some none)
    (z_bool : PySem.W.nsIn K mainGlobals "bool" = some none)
    (z_str : PySem.W.nsIn K mainGlobals "str" = some none)
    (z_tuple : PySem.W.nsIn K mainGlobals "tuple" = some none)
    (z_min : PySem.W.nsIn K mainGlobals "min" = some none)
    (z_range : PySem.W.nsIn K mainGlobals "range" = some none)
    (z_sorted : PySem.W.nsIn K mainGlobals "sorted" = some none)
    (z_isinstance : PySem.W.nsIn K mainGlobals "isinstance" = some none)
    (z_gcd : PySem.W.nsIn K mainGlobals "gcd" = some (some (.builtin "math.gcd")))
    (z_isqrt : PySem.W.nsIn K mainGlobals "isqrt" = some (some (.builtin "math.isqrt")))
    (v_BATCH : PySem.W.nsIn K mainGlobals "BATCH" = some (some (.int 128 t_BATCH)))
    (v_BOUND : PySem.W.nsIn K mainGlobals "BOUND" = some (some (.int 3317044064679887385961981 t_BOUND)))
    (v_LARGEST_primes : PySem.W.nsIn K mainGlobals "LARGEST_primes" = some (some (.int 100000000000000000000 t_LARGEST_primes)))
    (v_LARGEST_signs : PySem.W.nsIn K mainGlobals "LARGEST_signs" = some (some (.int 1000000000000 t_LARGEST_signs)))
    (v_TRIED_TO : PySem.W.nsIn K mainGlobals "TRIED_TO" = some (some (.int 1000 t_TRIED_TO)))
    (aM : PySem.W.nsIn K mainGlobals "Malformed" = some (some (.ref CM)))
    (xM : PySem.W.excIn K CM veB "ValueError.__new__" = true)
    (kM : PySem.W.keepIn K (.ref CM) = true)
    (bM : PySem.W.subIn K (.ref CM) (.type "BaseException") = some true)
    (tM : PySem.W.typeIn K (.ref CM) = some (.type "type"))
    (iM : PySem.W.isClsIn K CM = true)
    (mM : PySem.W.subIn K (.ref CM) (.ref CM) = some true)
    (aR : PySem.W.nsIn K mainGlobals "Refused" = some (some (.ref CR)))
    (xR : K.lookup CR = some (excClassObj nm_R q_R CR NR bs_R bm_R true sn_R sub_R ab_R col_R dd_R m0_R m1_R m2_R m3_R m5_R "ValueError.__new__"))
    (vR : PySem.HandSPX.refsVE bm_R = true)
    (sR : PySem.W.findIn K (.ref CR) "__setattr__" = some (some (.builtin "object.__setattr__")))
    (gR : PySem.W.findIn K (.ref CR) "__getattribute__" = some (some (.builtin "BaseException.__getattribute__")))
    (hR : PySem.W.findIn K (.ref CR) "__getattr__" = some none)
    (nR : PySem.W.findIn K (.ref CR) "reason" = some none)
    (iR : PySem.W.findIn K (.ref CR) "__init__" = some (some (.ref fI)))
    (tI : PySem.W.typeIn K (.ref fI) = some (.type "function"))
    (lI : K.lookup fI = some ⟨oc_I, od_I, .func (PySem.W.fnOf "__init__" "Refused.__init__" (defArgs s_RI) (defBody s_RI) (defScope s_RI) .none kV_I dc_I pm_I an_I cd_I ct_I), sl_I⟩)
    (cI : PySem.W.codeIn K cd_I "Refused.__init__" = true)
    (kI : PySem.W.keepIn K (.ref fI) = true)
    (kR : PySem.W.keepIn K (.ref CR) = true)
    (bR : PySem.W.subIn K (.ref CR) (.type "BaseException") = some true)
    (tR : PySem.W.typeIn K (.ref CR) = some (.type "type"))
    (dR : PySem.W.hasDictIn K CR = true)
    (cR : PySem.W.isClsIn K CR = true)
    (rm : PySem.W.subIn K (.ref CR) (.ref CM) = some false)
    (rr : PySem.W.subIn K (.ref CR) (.ref CR) = some true) :
    ∃ fd : FuncData, (∀ (s : Shared) (v : Value), BindsTo s fd ⟨[v], []⟩ [("script", v)]) ∧ ∀ base : Heap, K.In base → base.Ns mainGlobals mg → FnOk l.prog w K mg base CX0 9 fa fd ["script"] (spLaw K) := by
  have e := hfa.symm.trans (PySem.W.mg_of X G a_law)
  cases e
  have B : Bl mg := { abs := PySem.W.mg_none_of X G z_abs, int := PySem.W.mg_none_of X G z_int, bool := PySem.W.mg_none_of X G z_bool, str := PySem.W.mg_none_of X G z_str, tuple := PySem.W.mg_none_of X G z_tuple, min := PySem.W.mg_none_of X G z_min, range := PySem.W.mg_none_of X G z_range, sorted := PySem.W.mg_none_of X G z_sorted, isinstance := PySem.W.mg_none_of X G z_isinstance, gcd := PySem.W.mg_of X G z_gcd, isqrt := PySem.W.mg_of X G z_isqrt, c_BATCH := ⟨_, PySem.W.mg_of X G v_BATCH⟩, c_BOUND := ⟨_, PySem.W.mg_of X G v_BOUND⟩, c_LARGEST_primes := ⟨_, PySem.W.mg_of X G v_LARGEST_primes⟩, c_LARGEST_signs := ⟨_, PySem.W.mg_of X G v_LARGEST_signs⟩, c_TRIED_TO := ⟨_, PySem.W.mg_of X G v_TRIED_TO⟩ }
  have d__law_take : Dn K mg "_law_take" s__law_take ["state", "m"] := dn_mk X G a__law_take l__law_take c__law_take k__law_take fun _ _ _ _ _ _ us hl => match us, hl with | [_, _], _ => rfl
  have d__law_state : Dn K mg "_law_state" s__law_state ["script"] := dn_mk X G a__law_state l__law_state c__law_state k__law_state fun _ _ _ _ _ _ us hl => match us, hl with | [_], _ => rfl
  have d_is_integer : Dn K mg "is_integer" s_is_integer ["value"] := dn_mk X G a_is_integer l_is_integer c_is_integer k_is_integer fun _ _ _ _ _ _ us hl => match us, hl with | [_], _ => rfl
  have d__law_whole : Dn K mg "_law_whole" s__law_whole ["value"] := dn_mk X G a__law_whole l__law_whole c__law_whole k__law_whole fun _ _ _ _ _ _ us hl => match us, hl with | [_], _ => rfl
  have d__law_root : Dn K mg "_law_root" s__law_root ["n"] := dn_mk X G a__law_root l__law_root c__law_root k__law_root fun _ _ _ _ _ _ us hl => match us, hl with | [_], _ => rfl
  have d_is_square : Dn K mg "is_square" s_is_square ["n"] := dn_mk X G a_is_square l_is_square c_is_square k_is_square fun _ _ _ _ _ _ us hl => match us, hl with | [_], _ => rfl
  have d_is_discriminant : Dn K mg "is_discriminant" s_is_discriminant ["value"] := dn_mk X G a_is_discriminant l_is_discriminant c_is_discriminant k_is_discriminant fun _ _ _ _ _ _ us hl => match us, hl with | [_], _ => rfl
  have d_check_discriminant : Dn K mg "check_discriminant" s_check_discriminant ["D"] := dn_mk X G a_check_discriminant l_check_discriminant c_check_discriminant k_check_discriminant fun _ _ _ _ _ _ us hl => match us, hl with | [_], _ => rfl
  have d_raised : Dn K mg "raised" s_raised ["b", "e"] := dn_mk X G a_raised l_raised c_raised k_raised fun _ _ _ _ _ _ us hl => match us, hl with | [_, _], _ => rfl
  have d_least_divisor : Dn K mg "least_divisor" s_least_divisor ["n", "most"] := dn_mk X G a_least_divisor l_least_divisor c_least_divisor k_least_divisor fun _ _ _ _ _ _ us hl => match us, hl with | [_, _], _ => rfl
  have d_is_prime : Dn K mg "is_prime" s_is_prime ["n"] := dn_mk X G a_is_prime l_is_prime c_is_prime k_is_prime fun _ _ _ _ _ _ us hl => match us, hl with | [_], _ => rfl
  have d__prime_list : Dn K mg "_prime_list" s__prime_list ["n"] := dn_mk X G a__prime_list l__prime_list c__prime_list k__prime_list fun _ _ _ _ _ _ us hl => match us, hl with | [_], _ => rfl
  have d_factors : Dn K mg "factors" s_factors ["n"] := dn_mk X G a_factors l_factors c_factors k_factors fun _ _ _ _ _ _ us hl => match us, hl with | [_], _ => rfl
  have d_split_discriminant : Dn K mg "split_discriminant" s_split_discriminant ["D"] := dn_mk X G a_split_discriminant l_split_discriminant c_split_discriminant k_split_discriminant fun _ _ _ _ _ _ us hl => match us, hl with | [_], _ => rfl
  have d__law_is_told_disc : Dn K mg "_law_is_told_disc" s__law_is_told_disc ["d"] := dn_mk X G a__law_is_told_disc l__law_is_told_disc c__law_is_told_disc k__law_is_told_disc fun _ _ _ _ _ _ us hl => match us, hl with | [_], _ => rfl
  have d__law_says : Dn K mg "_law_says" s__law_says ["value", "due"] := dn_mk X G a__law_says l__law_says c__law_says k__law_says fun _ _ _ _ _ _ us hl => match us, hl with | [_, _], _ => rfl
  have d__law_no_word : Dn K mg "_law_no_word" s__law_no_word ["value"] := dn_mk X G a__law_no_word l__law_no_word c__law_no_word k__law_no_word fun _ _ _ _ _ _ us hl => match us, hl with | [_], _ => rfl
  have d_fundamental : Dn K mg "fundamental" s_fundamental ["D"] := dn_mk X G a_fundamental l_fundamental c_fundamental k_fundamental fun _ _ _ _ _ _ us hl => match us, hl with | [_], _ => rfl
  have d_is_fundamental : Dn K mg "is_fundamental" s_is_fundamental ["D"] := dn_mk X G a_is_fundamental l_is_fundamental c_is_fundamental k_is_fundamental fun _ _ _ _ _ _ us hl => match us, hl with | [_], _ => rfl
  have d__law_plain : Dn K mg "_law_plain" s__law_plain ["value"] := dn_mk X G a__law_plain l__law_plain c__law_plain k__law_plain fun _ _ _ _ _ _ us hl => match us, hl with | [_], _ => rfl
  have d__law_told : Dn K mg "_law_told" s__law_told ["which", "d"] := dn_mk X G a__law_told l__law_told c__law_told k__law_told fun _ _ _ _ _ _ us hl => match us, hl with | [_, _], _ => rfl
  have d__law_drawn_disc : Dn K mg "_law_drawn_disc" s__law_drawn_disc ["state", "most", "sign"] := dn_mk X G a__law_drawn_disc l__law_drawn_disc c__law_drawn_disc k__law_drawn_disc fun _ _ _ _ _ _ us hl => match us, hl with | [_, _, _], _ => rfl
  have d__law_made : Dn K mg "_law_made" s__law_made ["state"] := dn_mk X G a__law_made l__law_made c__law_made k__law_made fun _ _ _ _ _ _ us hl => match us, hl with | [_], _ => rfl
  have d_law : Dn K mg "law" s_law ["script"] := dn_mk X G a_law l_law c_law k_law fun _ _ _ _ _ _ us hl => match us, hl with | [_], _ => rfl
  have hM : PySem.W.exmOne K (.ref CM) (.ref CM) = some true := exm_b bM iM tM mM
  have mr : PySem.W.exmOne K (.ref CR) (.ref CM) = some false := exm_b bM iM tM rm
  have hR2 : PySem.W.exmOne K (.ref CR) (.ref CR) = some true := exm_b bR cR tR rr
  refine ⟨PySem.W.fnOf "law" "law" (defArgs s_law) (defBody s_law) (defScope s_law) .none kV_law dc_law pm_law an_law cd_law ct_law, fun s v => .of_eq rfl, fun base _ _ => ?_⟩
  have FI := fun_mk (st := s_RI) lI cI kI
  have bI := FI.binds (ps := ["self", "reason"]) fun _ _ _ _ _ _ us hl => match us, hl with | [_, _], _ => rfl
  have e_E : ErrI l.prog w K mg base CM CR := ⟨⟨PySem.W.mg_of X G aM, xM, kM, bM, tM, hM⟩, fI, _, ⟨PySem.W.mg_of X G aR, ⟨⟨nm_R, q_R, NR, bs_R, bm_R, sn_R, sub_R, ab_R, col_R, dd_R, m0_R, m1_R, m2_R, m3_R, m5_R, xR, vR⟩, sR, bR, tR, kR⟩, iR, tI, nR, ⟨gR, hR, bR, dR⟩, mr, hR2⟩,
    ri_fn FI, bI⟩
  have r_take := cal_take (P := l.prog) (w := w) (base := base) d__law_take B
  have r_state := cal_state (P := l.prog) (w := w) (base := base) d__law_state B
  have r_is_integer := cal_is_integer (P := l.prog) (w := w) (base := base) d_is_integer B
  have r_whole := cal_whole (P := l.prog) (w := w) (base := base) d__law_whole B
  have r_law_root := cal_law_root (P := l.prog) (w := w) (base := base) d__law_root B
  have r_is_square := cal_is_square (P := l.prog) (w := w) (base := base) d_is_square B
  have r_is_disc := cal_is_disc (P := l.prog) (w := w) (base := base) d_is_discriminant B r_is_integer r_is_square
  have r_check := cal_check (P := l.prog) (w := w) (base := base) d_check_discriminant B r_is_disc e_E
  have r_raised := cal_raised (P := l.prog) (w := w) (base := base) d_raised B
  have r_least := cal_least (P := l.prog) (w := w) (base := base) d_least_divisor B
  have r_prime := cal_prime (P := l.prog) (w := w) (base := base) d_is_prime B r_least
  have r_plist := cal_plist (P := l.prog) (w := w) (base := base) d__prime_list B r_least r_prime
  have r_fac := cal_fac (P := l.prog) (w := w) (base := base) d_factors B r_plist
  have r_split := cal_split (P := l.prog) (w := w) (base := base) d_split_discriminant B r_fac r_raised
  have r_td := cal_td (P := l.prog) (w := w) (base := base) d__law_is_told_disc B r_whole r_law_root
  have r_says := cal_says (P := l.prog) (w := w) (base := base) d__law_says B
  have r_no_word := cal_no_word (P := l.prog) (w := w) (base := base) d__law_no_word B
  have r_fun := cal_fun (P := l.prog) (w := w) (base := base) d_fundamental B r_check r_split e_E
  have r_isf := cal_isf (P := l.prog) (w := w) (base := base) d_is_fundamental B r_fun
  have r_plain := cal_plain (P := l.prog) (w := w) (base := base) d__law_plain B r_whole
  have r_plainN := cal_plainN (P := l.prog) (w := w) (base := base) d__law_plain B r_plain r_whole
  have r_told := cal_told (P := l.prog) (w := w) (base := base) d__law_told B r_fun r_isf r_plainN r_no_word e_E
  have r_dd := cal_dd (P := l.prog) (w := w) (base := base) d__law_drawn_disc B r_take r_td
  have r_made := cal_made (P := l.prog) (w := w) (base := base) d__law_made B r_take
  exact ok_law (P := l.prog) (w := w) (base := base) (fun_mk (st := s_law) l_law c_law k_law) B r_state r_take r_made r_told r_says r_dd r_td
theorem walk {l : PySem.W.OpenLaw} {q : Program} {loose : List Str} {XP : (Str → Option Value) → Heap → Prop} {YP : World → Heap → Prop} {d : DefRec} {K : Params → PySem.W.Frag} (hn : l.most = some 63) (hdf : d.params.defaults = []) (hY : ∀ (w : World) (h : Heap), YP w h → (K w.params).In h)
    (F : ∀ (w : World) (mg : Str → Option Value) (fa : Addr) (h : Heap), (K w.params).In h → h.Ns mainGlobals mg → mg d.name = some (.ref fa) → ∃ fd : FuncData, (∀ (s : Shared) (u : Value), BindsTo s fd ⟨[u], []⟩ [("script", u)]) ∧ ∀ base : Heap, (K w.params).In base → base.Ns mainGlobals mg → FnOk l.prog w (K w.params) mg base CX0 9 fa fd ["script"] (spLaw (K w.params))) :
    PySem.W.WalkO q loose XP YP l.row.toRowW d [] (fun f vs => PySem.call f vs) :=
  L2.walk_of (n := 63) (k := 9) (x := "script") (CX := fun _ => CX0) (sp := fun w => spLaw (K w.params)) hn (by decide) hdf ⟨rfl, by decide, by decide⟩ hY F (fun _ _ a ns hl _ hS => ⟨a, ns, rfl, hS, hl, fun _ => rfl⟩) fun _ _ _ _ _ z => z

end L31
open PySem PySem.W PyProof.Rows
set_option maxRecDepth 100000 in
set_option maxHeartbeats 0 in
theorem PySem.Challenge.cw_classledger_k31_whole_fundamental_discri_holds : PySem.Challenge.rw_classledger_k31_whole_fundamental_discri.Holds := by
  w_on; o_law; k_head; (case hw => w_witness2)
  k_fill
  refine L31.walk (l := PySem.Challenge.rw_classledger_k31_whole_fundamental_discri) rfl rfl (fun w h Y => PySem.W.kIn_of Y) ?F
  case F =>
    intro w mg fa h KX G hmg
    refine' L31.all_mk KX G hmg ?a__law_take ?l__law_take ?c__law_take ?k__law_take ?a__law_state ?l__law_state ?c__law_state ?k__law_state ?a_is_integer ?l_is_integer ?c_is_integer ?k_is_integer ?a__law_whole ?l__law_whole ?c__law_whole ?k__law_whole ?a__law_root ?l__law_root ?c__law_root ?k__law_root ?a_is_square ?l_is_square ?c_is_square ?k_is_square ?a_is_discriminant ?l_is_discriminant ?c_is_discriminant ?k_is_discriminant ?a_check_discriminant ?l_check_discriminant ?c_check_discriminant ?k_check_discriminant ?a_raised ?l_raised ?c_raised ?k_raised ?a_least_divisor ?l_least_divisor ?c_least_divisor ?k_least_divisor ?a_is_prime ?l_is_prime ?c_is_prime ?k_is_prime ?a__prime_list ?l__prime_list ?c__prime_list ?k__prime_list ?a_factors ?l_factors ?c_factors ?k_factors ?a_split_discriminant ?l_split_discriminant ?c_split_discriminant ?k_split_discriminant ?a__law_is_told_disc ?l__law_is_told_disc ?c__law_is_told_disc ?k__law_is_told_disc ?a__law_says ?l__law_says ?c__law_says ?k__law_says ?a__law_no_word ?l__law_no_word ?c__law_no_word ?k__law_no_word ?a_fundamental ?l_fundamental ?c_fundamental ?k_fundamental ?a_is_fundamental ?l_is_fundamental ?c_is_fundamental ?k_is_fundamental ?a__law_plain ?l__law_plain ?c__law_plain ?k__law_plain ?a__law_told ?l__law_told ?c__law_told ?k__law_told ?a__law_drawn_disc ?l__law_drawn_disc ?c__law_drawn_disc ?k__law_drawn_disc ?a__law_made ?l__law_made ?c__law_made ?k__law_made ?a_law ?l_law ?c_law ?k_law ?z_abs ?z_int ?z_bool ?z_str ?z_tuple ?z_min ?z_range ?z_sorted ?z_isinstance ?z_gcd ?z_isqrt ?v_BATCH ?v_BOUND ?v_LARGEST_primes ?v_LARGEST_signs ?v_TRIED_TO ?aM ?xM ?kM ?bM ?tM ?iM ?mM ?aR ?xR ?vR ?sR ?gR ?hR ?nR ?iR ?tI ?lI ?cI ?kI ?kR ?bR ?tR ?dR ?cR ?rm ?rr
    (case a__law_take => k_is); (case l__law_take => k_is); (case c__law_take => k_is); (case k__law_take => k_is)
    (case a__law_state => k_is); (case l__law_state => k_is); (case c__law_state => k_is); (case k__law_state => k_is)
    (case a_is_integer => k_is); (case l_is_integer => k_is); (case c_is_integer => k_is); (case k_is_integer => k_is)
    (case a__law_whole => k_is); (case l__law_whole => k_is); (case c__law_whole => k_is); (case k__law_whole => k_is)
    (case a__law_root => k_is); (case l__law_root => k_is); (case c__law_root => k_is); (case k__law_root => k_is)
    (case a_is_square => k_is); (case l_is_square => k_is); (case c_is_square => k_is); (case k_is_square => k_is)
    (case a_is_discriminant => k_is); (case l_is_discriminant => k_is); (case c_is_discriminant => k_is); (case k_is_discriminant => k_is)
    (case a_check_discriminant => k_is); (case l_check_discriminant => k_is); (case c_check_discriminant => k_is); (case k_check_discriminant => k_is)
    (case a_raised => k_is); (case l_raised => k_is); (case c_raised => k_is); (case k_raised => k_is)
    (case a_least_divisor => k_is); (case l_least_divisor => k_is); (case c_least_divisor => k_is); (case k_least_divisor => k_is)
    (case a_is_prime => k_is); (case l_is_prime => k_is); (case c_is_prime => k_is); (case k_is_prime => k_is)
    (case a__prime_list => k_is); (case l__prime_list => k_is); (case c__prime_list => k_is); (case k__prime_list => k_is)
    (case a_factors => k_is); (case l_factors => k_is); (case c_factors => k_is); (case k_factors => k_is)
    (case a_split_discriminant => k_is); (case l_split_discriminant => k_is); (case c_split_discriminant => k_is); (case k_split_discriminant => k_is)
    (case a__law_is_told_disc => k_is); (case l__law_is_told_disc => k_is); (case c__law_is_told_disc => k_is); (case k__law_is_told_disc => k_is)
    (case a__law_says => k_is); (case l__law_says => k_is); (case c__law_says => k_is); (case k__law_says => k_is)
    (case a__law_no_word => k_is); (case l__law_no_word => k_is); (case c__law_no_word => k_is); (case k__law_no_word => k_is)
    (case a_fundamental => k_is); (case l_fundamental => k_is); (case c_fundamental => k_is); (case k_fundamental => k_is)
    (case a_is_fundamental => k_is); (case l_is_fundamental => k_is); (case c_is_fundamental => k_is); (case k_is_fundamental => k_is)
    (case a__law_plain => k_is); (case l__law_plain => k_is); (case c__law_plain => k_is); (case k__law_plain => k_is)
    (case a__law_told => k_is); (case l__law_told => k_is); (case c__law_told => k_is); (case k__law_told => k_is)
    (case a__law_drawn_disc => k_is); (case l__law_drawn_disc => k_is); (case c__law_drawn_disc => k_is); (case k__law_drawn_disc => k_is)
    (case a__law_made => k_is); (case l__law_made => k_is); (case c__law_made => k_is); (case k__law_made => k_is)
    (case a_law => k_is); (case l_law => k_is); (case c_law => k_is); (case k_law => k_is)
    (case z_abs => k_is); (case z_int => k_is); (case z_bool => k_is); (case z_str => k_is)
    (case z_tuple => k_is); (case z_min => k_is); (case z_range => k_is); (case z_sorted => k_is)
    (case z_isinstance => k_is); (case z_gcd => k_is); (case z_isqrt => k_is); (case v_BATCH => k_is)
    (case v_BOUND => k_is); (case v_LARGEST_primes => k_is); (case v_LARGEST_signs => k_is); (case v_TRIED_TO => k_is)
    (case aM => k_is); (case xM => k_exc); (case kM => k_is); (case bM => k_is)
    (case tM => k_is); (case iM => k_is); (case mM => k_is); (case aR => k_is)
    (case xR => k_is); (case vR => first | rfl | decide +kernel); (case sR => k_is); (case gR => k_is)
    (case hR => k_is); (case nR => k_is); (case iR => k_is); (case tI => k_is)
    (case lI => k_is); (case cI => k_is); (case kI => k_is); (case kR => k_is)
    (case bR => k_is); (case tR => k_is); (case dR => k_is); (case cR => k_is)
    (case rm => k_is); (case rr => k_is)
