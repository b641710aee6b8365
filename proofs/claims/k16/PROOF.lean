import PyProof.Rows.All
import Wide.All
import OpenK.AllK
import Wide.FinOn
import HandS.ForMost
import HandS.Exc
import HandS.ExcOwn
import HandS.ExcInit
import HandS.TryOnly
import HandS.TryMany
import HandS.WordsExc
import HandS.Gcd
import HandS.Wide
import HandS.WideMore
import HandS.WideBits
import HandS.IsInst
import HandS.Style
import HandS.Flow
import HandS.SortRule
import HandS.SortInts
import HandS.Conv
import HandS.ExcField
import KE.SortData
import PySem.Challenge.RW_classledger_k16_whole_definite_forms_red
set_option Elab.async false
set_option linter.all false
set_option maxRecDepth 100000
set_option maxHeartbeats 4000000
namespace CB
open PySem PySem.Spec PyProof.Rows L2
/-! ### operators of any size -/
section
variable {X : Cx}
theorem op_mulI : OpR X (binaryOp .Mult) (rI IntMulOk fun i j => .int (i * j)) := opI fun _ _ _ _ _ _ _ hc q => mul_int q hc
theorem iop_mulI : OpR X (inplaceOp .Mult) (rI IntMulOk fun i j => .int (i * j)) := opI fun _ _ _ _ _ _ _ hc q => imul_int q hc
/-- math.isqrt of an int below 2 ^ 13000 -/
def rIsqrt : List V → Hp → VK → Prop := fun vs H Q => ∃ a : Int, vs = [.int a] ∧ 0 ≤ a ∧ a < 2 ^ 13000 ∧ Q (.int ((Float64.isqrt a.toNat : Nat) : Int)) H
theorem log_lt {n k : Nat} (h : n < 2 ^ (k + 1)) : n.log2 ≤ k := PySem.W.mg_log h
theorem cr_isqrt : CallR X (.builtin "math.isqrt") rIsqrt := by
  intro pins s σ H vs us Q I r h
  obtain ⟨a, rfl, h0, h1, q⟩ := h
  obtain ⟨u, rfl, ru⟩ := vals1 r
  obtain ⟨t, rfl⟩ := ru
  have hl : a.toNat.log2 ≤ 12999 := log_lt (by
    have e : ((2 : Int) ^ 13000) = ((2 ^ 13000 : Nat) : Int) := by rw [Int.natCast_pow]; rfl
    rw [e] at h1
    show a.toNat < 2 ^ 13000
    omega)
  exact call_function_meets PySem.W.MGF.kind_isqrt PySem.W.MGF.plain_isqrt PySem.W.MGF.entry_isqrt (PySem.W.MGF.args_isqrt _) (PySem.W.mg_run_isqrt a t (by omega) (by omega) (by omega)).meets
    ⟨.int _, H, I.tok _, ⟨_, rfl⟩, q⟩
theorem isqrt_spec (n : Nat) : Float64.isqrt n * Float64.isqrt n ≤ n ∧ n < (Float64.isqrt n + 1) * (Float64.isqrt n + 1) := PySem.Float64.isqrt_spec n
/-! ### a < b < c < d -/
def tChain3 (r r' r'' : R2) (ta tb tc td : TE) : TE := fun σ H Q => ta σ H fun x H1 => tb σ H1 fun y H2 => r x y H2 fun z H3 => ∃ k, z = .bl k ∧
  (if k = true then tc σ H3 fun y' H4 => r' y y' H4 fun z' H5 => ∃ k', z' = .bl k' ∧ (if k' = true then td σ H5 fun w' H6 => r'' y' w' H6 Q else Q (.bl false) H5) else Q (.bl false) H3)
variable {a b c d : Expr} {ta tb tc td : TE} {pos : Pos}
theorem pt_chain3 {o1 o2 o3 : CmpOp} {r r' r'' : R2} (ho : OpR X (compareOp o1) r) (ho' : OpR X (compareOp o2) r') (ho'' : OpR X (compareOp o3) r'') (ha : PE X a ta) (hb : PE X b tb) (hc : PE X c tc) (hd : PE X d td)
    (hm : lastMarks [o1, o2, o3] [b, c, d] = false := by with_unfolding_all rfl) : PT X (.Compare a [o1, o2, o3] [b, c, d] pos) (tTest (tChain3 r r' r'' ta tb tc td)) := by
  refine ⟨fun pins s σ H Q I h => ?_⟩
  refine isTrue_chain (thn (ha.run pins s σ H _ I h) fun v s1 ⟨x, H1, I1, r1, q1⟩ => test_link (thn (hb.run pins s1 σ H1 _ I1 q1) fun u s2 ⟨y, H2, I2, r2, q2⟩ =>
    thn (ho pins s2 σ H2 x y v u _ I2 r1 r2 q2) fun d1 s3 ⟨z, H3, I3, r3, k, e, q3⟩ => ?_)) hm
  subst e
  cases r3
  refine wpAny_truthy_bool ?_
  cases k with
  | false =>
    obtain ⟨k', e', q'⟩ := q3
    cases e'
    exact ite_ff ⟨H3, I3, q'⟩
  | true =>
    refine ite_tt (test_link (thn (hc.run pins s3 σ H3 _ I3 q3) fun u' s4 ⟨y', H4, I4, r4, q4⟩ => thn (ho' pins s4 σ H4 y y' u u' _ I4 r2 r4 q4) fun d2 s5 ⟨z2, H5, I5, r5, k2, e2, q5⟩ => ?_))
    subst e2
    cases r5
    refine wpAny_truthy_bool ?_
    cases k2 with
    | false =>
      obtain ⟨k', e', q'⟩ := q5
      cases e'
      exact ite_ff ⟨H5, I5, q'⟩
    | true =>
      refine ite_tt (test_last (thn (hd.run pins s5 σ H5 _ I5 q5) fun w' s6 ⟨z3, H6, I6, r6, q6⟩ => thn (ho'' pins s6 σ H6 y' z3 u' w' _ I6 r4 r6 q6) fun d3 s7 ⟨z4, H7, I7, r7, k4, e4, q7⟩ => ?_))
      subst e4
      cases r7
      exact wpAny_truthy_bool ⟨H7, I7, q7⟩
end
/-! ### a def that a caller calls by its name -/
structure Cal (P : Program) (w : World) (K : PySem.W.Frag) (mg : Str → Option Value) (base : Heap) (x : Str) (k : Nat) (ps : List Str) (sp : Sp) : Prop where
  ok : ∃ f fd, FnOk P w K mg base CX0 k f fd ps sp ∧ mg x = some (.ref f) ∧ PySem.W.keepIn K (.ref f) = true ∧ Binds K fd ps []
section
variable {X : Cx} {k : Nat} {ps : List Str} {sp : Sp} {x : Str} {p pos : Pos} {e : Expr} {es : List Expr} {t : TA}
theorem pe_cal (C : Cal X.prog X.w X.K X.mg X.base x k ps sp) (hr : Room k X.A) (hg : Gl X x) (ha : PA X (e :: es) t) (hdb : (x == ("__debug__" : Str)) = false := by decide)
    (he : starEach (e :: es) X.env = (false, eval e X.env) :: starEach es X.env := by rfl) (hpl : (backTo pos (starEach es X.env)).any (·.1) = false := by rfl) : PE X (.Call (.Name x p) (e :: es) [] pos) (tCall sp [] E0 t) := by
  obtain ⟨f, fd, F, hm, hk, hb⟩ := C.ok
  exact pe_call F hr hg hm hk hb .nil pass0 ha hdb he hpl
end
/-! ### readings, unfolded -/
section
variable {σ : L2.St} {H : Hp} {Q : VK} {QT : Bool → Hp → Prop} {QA : List V → Hp → Prop} {D : Ends} {i j : Nat} {v x y : V} {ta tb tc td : TE} {tA tB' : TT} {t u : TS} {tr : TA} {K : PySem.W.Frag}
theorem rd_var : tVar i σ H Q = ∃ v, σ[i]? = some (some v) ∧ Q v H := rfl
theorem rd_C : tC v σ H Q = Q v H := rfl
theorem rd_op {r : R2} : tOp r ta tb σ H Q = ta σ H fun x H1 => tb σ H1 fun y H2 => r x y H2 Q := rfl
theorem rd_un {r : V → Hp → VK → Prop} : tUn r ta σ H Q = ta σ H fun x H1 => r x H1 Q := rfl
theorem rd_I {C : Int → Int → Prop} {g : Int → Int → V} : rI C g x y H Q = ∃ i j, x = .int i ∧ y = .int j ∧ C i j ∧ Q (g i j) H := rfl
theorem rd_I0 {g : Int → Int → V} : rI0 g x y H Q = ∃ i j, x = .int i ∧ y = .int j ∧ Q (g i j) H := rfl
theorem rd_U {g : Int → V} : rU g x H Q = ∃ i, x = .int i ∧ Q (g i) H := rfl
theorem rd_Eq : rEq x y H Q = (scal x y = true ∧ Q (.bl (decide (x = y))) H) := rfl
theorem rd_Ne : rNe x y H Q = (scal x y = true ∧ Q (.bl (!decide (x = y))) H) := rfl
theorem rd_test : tTest ta σ H QT = ta σ H fun x H' => ∃ k, x = .bl k ∧ QT k H' := rfl
theorem rd_B : L2.tB ta σ H QT = ta σ H fun x H' => ∃ k, x = .bl k ∧ QT k H' := rfl
theorem rd_and {s t : TT} : tAnd s t σ H QT = s σ H fun c H1 => if c = true then t σ H1 QT else QT false H1 := rfl
theorem rd_or {s t : TT} : tOr s t σ H QT = s σ H fun c H1 => if c = true then QT true H1 else t σ H1 QT := rfl
theorem rd_not {s : TT} : tNot s σ H QT = s σ H fun c H1 => QT (!c) H1 := rfl
theorem rd_andV : tAndV ta tb σ H Q = ta σ H fun x H1 => ∃ c, x = .bl c ∧ if c = true then tb σ H1 Q else Q (.bl false) H1 := rfl
theorem rd_orV : tOrV ta tb σ H Q = ta σ H fun x H1 => ∃ c, x = .bl c ∧ if c = true then Q (.bl true) H1 else tb σ H1 Q := rfl
theorem rd_notV : tNotV ta σ H Q = ta σ H fun x H1 => ∃ c, x = .bl c ∧ Q (.bl (!c)) H1 := rfl
theorem rd_if {c : TT} : tIf c ta tb σ H Q = c σ H fun b H1 => if b = true then ta σ H1 Q else tb σ H1 Q := rfl
theorem rd_chain {r r' : R2} : tChain r r' ta tb tc σ H Q = ta σ H fun x H1 => tb σ H1 fun y H2 => r x y H2 fun z H3 => ∃ k, z = .bl k ∧ (if k = true then tc σ H3 fun w' H4 => r' y w' H4 Q else Q (.bl false) H3) := rfl
theorem rd_chain3 {r r' r'' : R2} : tChain3 r r' r'' ta tb tc td σ H Q = ta σ H fun x H1 => tb σ H1 fun y H2 => r x y H2 fun z H3 => ∃ k, z = .bl k ∧
  (if k = true then tc σ H3 fun y' H4 => r' y y' H4 fun z' H5 => ∃ k', z' = .bl k' ∧ (if k' = true then td σ H5 fun w' H6 => r'' y' w' H6 Q else Q (.bl false) H5) else Q (.bl false) H3) := rfl
theorem rd_next : tNext D σ H = D.nx σ H := rfl
theorem rd_seq : tSeq t u D σ H = t { D with nx := u D } σ H := rfl
theorem rd_drop : tDrop ta D σ H = ta σ H fun _ H1 => D.nx σ H1 := rfl
theorem rd_ret : tRet ta D σ H = ta σ H D.rt := rfl
theorem rd_retN : tRetN D σ H = D.rt .non H := rfl
theorem rd_break : tBreak D σ H = D.bk σ H := rfl
theorem rd_cont : tCont D σ H = D.ct σ H := rfl
theorem rd_ifS {c : TT} : tIfS c t u D σ H = c σ H fun b H1 => if b = true then t D σ H1 else u D σ H1 := rfl
theorem rd_asg {g : TG} : tAsg ta g D σ H = ta σ H fun x H1 => g x σ H1 D.nx := rfl
theorem rd_name {QS : L2.St → Hp → Prop} : gName i v σ H QS = QS (σ.set i (some v)) H := rfl
theorem rd_gsub {to ti : TE} {s : TSet} {QS : L2.St → Hp → Prop} : gSub to ti s v σ H QS = to σ H fun o H1 => ti σ H1 fun i H2 => s o i v H2 fun H3 => QS σ H3 := rfl
theorem rd_gtup {n : Nat} {g : TGs} {QS : L2.St → Hp → Prop} : gTup K n g v σ H QS = ∃ a xs, v = .ref a ∧ SqT K H a xs ∧ xs.length = n ∧ g xs σ H QS := rfl
theorem rd_gcons {g : TG} {gs : TGs} {vs : List V} {QS : L2.St → Hp → Prop} : gCons g gs vs σ H QS = ∃ v r, vs = v :: r ∧ g v σ H fun σ' H' => gs r σ' H' QS := rfl
theorem rd_gnil {vs : List V} {QS : L2.St → Hp → Prop} : gNil vs σ H QS = (vs = [] ∧ QS σ H) := rfl
theorem rd_par : tPar i j tr D σ H = tr σ H fun vs H1 => ∃ v w, vs = [v, w] ∧ D.nx ((σ.set i (some v)).set j (some w)) H1 := rfl
theorem rd_aug {te : TE} {ti : TIp} : tAug i te ti D σ H = ∃ x, σ[i]? = some (some x) ∧ te σ H fun y H1 => ti x y H1 fun z H2 => D.nx (σ.set i (some z)) H2 := rfl
theorem rd_ipI {f : Int → Int → Int} : ipI f x y H Q = ∃ i j, x = .int i ∧ y = .int j ∧ Q (.int (f i j)) H := rfl
theorem rd_nil : tNil σ H QA = QA [] H := rfl
theorem rd_cons : tCons ta tr σ H QA = ta σ H fun x H1 => tr σ H1 fun xs H2 => QA (x :: xs) H2 := rfl
theorem rd_tup : tTup tr σ H Q = tr σ H fun xs H1 => xs.length ≤ sizeLine ∧ ∀ p, H1 p = none → Q (.ref p) (upd H1 p (.tup xs)) := rfl
theorem rd_lst : tLst tr σ H Q = tr σ H fun xs H1 => xs.length ≤ sizeLine ∧ ∀ p, H1 p = none → Q (.ref p) (upd H1 p (.lst xs)) := rfl
theorem rd_CB {r : List V → Hp → VK → Prop} : tCB r tr σ H Q = tr σ H fun vs H1 => r vs H1 Q := rfl
theorem rd_call {sp : Sp} {dvs : List V} {E : XK} : tCall sp dvs E tr σ H Q = tr σ H fun vs H1 => sp (vs ++ dvs) H1 Q E := rfl
theorem rd_callS {sp : Sp} {E : L2.St → XK} : tCallS sp E tr σ H Q = tr σ H fun vs H1 => sp vs H1 Q (E σ) := rfl
theorem rd_ixL : rIxL K x y H Q = ∃ p xs i v, x = .ref p ∧ y = .int i ∧ SqL K H p xs ∧ atI xs i = some v ∧ Q v H := rfl
theorem rd_ixT : rIxT K x y H Q = ∃ p xs i v, x = .ref p ∧ y = .int i ∧ SqT K H p xs ∧ atI xs i = some v ∧ Q v H := rfl
theorem rd_isqrt {vs : List V} : rIsqrt vs H Q = ∃ a : Int, vs = [.int a] ∧ 0 ≤ a ∧ a < 2 ^ 13000 ∧ Q (.int ((Float64.isqrt a.toNat : Nat) : Int)) H := rfl
theorem rd_sum {vs : List V} : rSum K vs H Q = ∃ (a : Addr) (ns : List Int), vs = [V.ref a] ∧ SqL K H a (ns.map V.int) ∧ Q (.int ns.sum) H := rfl
end

/-! ### a def of the text: it stands, its name, its parameters -/
structure Dn (K : PySem.W.Frag) (mg : Str → Option Value) (x : Str) (st : Stmt) (ps : List Str) : Prop where
  ok : ∃ f fd, Fun K x x st f fd ∧ mg x = some (.ref f) ∧ Binds K fd ps []
section
variable {P : Program} {w : World} {K : PySem.W.Frag} {mg : Str → Option Value} {base : Heap}
theorem Dn.cal {x : Str} {st : Stmt} {N ps : List Str} {k : Nat} {sp : Sp} (D : Dn K mg x st ps) (S : FnScope N ps (defScope st)) (len : ∀ vs H Q E, sp vs H Q E → vs.length = ps.length)
    (hbody : ∀ (f : Addr) (cdv : Value) (A : Around) (outer : List Env) (s : Shared) (H : Hp) (vs : List V) (Q : VK) (E : XK), Room k (A.deeper (envOfC x (defScope st) s.heap.objs.size f cdv)) → sp vs H Q E →
      ∃ t, PSs (cxOf CX0 P w K mg base N x (defScope st) f cdv A outer s H E).nox (defBody st) t ∧ t { nx := fun _ H' => Q .non H', rt := Q } (start N vs) H) : Cal P w K mg base x (k + 1) ps sp := by
  obtain ⟨f, fd, F, hm, hb⟩ := D.ok
  exact ⟨f, fd, F.ok S len fun cdv A outer s H vs Q E hr h => hbody f cdv A outer s H vs Q E hr h, hm, F.kp, hb⟩
end
/-- a weaker wish -/
theorem same_upd {H : Hp} {p : Addr} {o : HO} (h : H p = none) : Same H (upd H p o) := fun b x e => by
  rw [upd_ne (ne_of_none e h)]
  exact e
theorem ex_int {p : Int → Prop} {i : Int} : (∃ j, V.int i = V.int j ∧ p j) = p i := by simp
theorem ex_bl {p : Bool → Prop} {i : Bool} : (∃ j, V.bl i = V.bl j ∧ p j) = p i := by simp
theorem ex_ref {p : Addr → Prop} {i : Addr} : (∃ j, V.ref i = V.ref j ∧ p j) = p i := by simp
theorem ex_str {p : Str → Prop} {i : Str} : (∃ j, V.str i = V.str j ∧ p j) = p i := by simp
theorem ex_some {p : V → Prop} {x : V} : (∃ v, some (some x) = some (some v) ∧ p v) = p x := by simp
theorem ex_2i {p : Int → Int → Prop} {i j : Int} : (∃ a b, V.int i = V.int a ∧ V.int j = V.int b ∧ p a b) = p i j := by simp
theorem ex_l1 {p : Int → Prop} {i : Int} : (∃ j, [V.int i] = [V.int j] ∧ p j) = p i := by simp
theorem ex_l2 {p : Int → Int → Prop} {i j : Int} : (∃ a b, [V.int i, V.int j] = [V.int a, V.int b] ∧ p a b) = p i j := propext ⟨fun ⟨_, _, e, h⟩ => by cases e; exact h, fun h => ⟨_, _, rfl, h⟩⟩
theorem ex_v2 {p : V → V → Prop} {i j : V} : (∃ a b, [i, j] = [a, b] ∧ p a b) = p i j := propext ⟨fun ⟨_, _, e, h⟩ => by cases e; exact h, fun h => ⟨_, _, rfl, h⟩⟩
theorem int1_eq {p : Int → Prop} {q : Bool → Prop} {i : Int} : ((∃ j, [V.int i] = [V.int j] ∧ p j) ∨ ∃ k, [V.int i] = [V.bl k] ∧ q k) = p i := by simp
theorem scal_int {i j : Int} : (scal (V.int i) (V.int j) = true) = True := by simp [scal]
theorem scal_str {i j : Str} : (scal (V.str i) (V.str j) = true) = True := by simp [scal]
theorem dec_ii {i j : Int} : decide (V.int i = V.int j) = decide (i = j) := by simp
theorem ite_dec {p : Prop} [Decidable p] {A B : Prop} : (if decide p = true then A else B) = (if p then A else B) := by simp
theorem ite_ndec {p : Prop} [Decidable p] {A B : Prop} : (if (!decide p) = true then A else B) = (if p then B else A) := by
  by_cases h : p <;> simp [h]
section
variable {H : Hp} {Q : VK} {x y v : V}
theorem rd_setL {R : Hp → Prop} : rSetL x y v H R = ∃ p xs k j, x = .ref p ∧ y = .int k ∧ H p = some (.lst xs) ∧ ixN xs.length k = some j ∧ R (upd H p (.lst (xs.set j v))) := rfl
theorem rd_append {K : PySem.W.Frag} {to : TE} {t : TA} {σ : L2.St} : tBM K "list" rAppend to t σ H Q = to σ H fun x H1 => tyV K "list" x H1 ∧ t σ H1 fun xs H2 => ∃ l ys y, x = .ref l ∧ xs = [y] ∧ H2 l = some (.lst ys) ∧ ys.length < sizeLine ∧ Q .non (upd H2 l (.lst (ys ++ [y]))) := rfl
theorem K_nox {X : Cx} : X.nox.K = X.K := rfl
theorem K_cxOf {CX : CXT} {P : Program} {w : World} {K : PySem.W.Frag} {mg : Str → Option Value} {base : Heap} {N : List Str} {qual : Str} {scope : Scope} {f : Addr} {cd : Value} {A : Around} {outer : List Env} {s : Shared} {H : Hp} {E : XK} :
  (cxOf CX P w K mg base N qual scope f cd A outer s H E).K = K := rfl
end
/-- int * int with a small side -/
theorem mulL {i j : Int} (h : -(2 ^ 64) < i ∧ i < 2 ^ 64) : IntMulOk i j := CMul.ok (.inl h)
theorem mulR {i j : Int} (h : -(2 ^ 64) < j ∧ j < 2 ^ 64) : IntMulOk i j := CMul.ok (.inr h)
theorem tyL {K : PySem.W.Frag} {l : Addr} {xs : List V} {H : Hp} (h : H l = some (.lst xs)) : tyV K "list" (.ref l) H := .inl ⟨rfl, _, SqL.of h⟩
/-! ### loops, by a word: the reading stops at ForL .. -/
def ForJ (J : It) (g : TG) (tb : TS) (D : Ends) (σ : L2.St) (H1 : Hp) : Prop := ∃ W : Nat → Nat → L2.St → Hp → Prop, (∃ m, W 0 m σ H1) ∧ ∀ i m σ H, W i m σ H →
  (J.stop i H ∧ D.nx σ H) ∨ (J.go i H ∧ ∃ N : L2.St → Hp → Prop, (∀ σ' H', N σ' H' → ∃ m', m' < m ∧ W (i + 1) m' σ' H') ∧ ∀ x H', J.yld i H x H' → g x σ H' fun σ2 H2 => tb { D with nx := N, ct := N, bk := D.nx } σ2 H2)
def ForL (K : PySem.W.Frag) (a : Addr) := ForJ (Itl K a)
def ForT (K : PySem.W.Frag) (a : Addr) := ForJ (Itt K a)
def ForR (lo : Int) (n : Nat) := ForJ (Itr lo n)
def ForC (lo c : Int) (n : Nat) := ForJ (Itc lo c n)
section
variable {K : PySem.W.Frag} {a : Addr} {xs : List V} {g : TG} {tb : TS} {D : Ends} {σ : L2.St} {H : Hp} {te : TE} {ta : TA}
theorem rd_forL : tFor (iList K te) g tb D σ H = te σ H fun x H1 => ∃ a, x = .ref a ∧ (∃ xs, SqL K H1 a xs) ∧ ForL K a g tb D σ H1 := rfl
theorem rd_forT : tFor (iTup K te) g tb D σ H = te σ H fun x H1 => ∃ a, x = .ref a ∧ (∃ xs, SqT K H1 a xs) ∧ ForT K a g tb D σ H1 := rfl
theorem rd_forR1 : tFor (iRng1 ta) g tb D σ H = ta σ H fun vs H1 => ∃ j : Int, vs = [.int j] ∧ -(2 ^ 62) ≤ j ∧ j < 2 ^ 62 ∧ ForR 0 j.toNat g tb D σ H1 := rfl
theorem rd_forR2 : tFor (iRng2 ta) g tb D σ H = ta σ H fun vs H1 => ∃ i j : Int, vs = [.int i, .int j] ∧ (-(2 ^ 62) ≤ i ∧ i < 2 ^ 62 ∧ -(2 ^ 62) ≤ j ∧ j < 2 ^ 62) ∧ ForR i (j - i).toNat g tb D σ H1 := rfl
theorem rd_forR3 : tFor (iRng3 ta) g tb D σ H = ta σ H fun vs H1 => ∃ (i j c : Int) (n : Nat), vs = [.int i, .int j, .int c] ∧ RgC i j c n ∧ ForC i c n g tb D σ H1 := rfl
theorem ForL.mk (Pv : Nat → L2.St → Hp → Prop) (h0 : Pv 0 σ H) (hl : ∀ i σ H, i ≤ xs.length → Pv i σ H → SqL K H a xs)
    (hs : ∀ i x σ H, xs[i]? = some x → Pv i σ H → g x σ H fun σ2 H2 => tb { D with nx := Pv (i + 1), ct := Pv (i + 1), bk := D.nx } σ2 H2) (hd : ∀ σ H, Pv xs.length σ H → D.nx σ H) : ForL K a g tb D σ H := for_list Pv h0 hl hs hd
theorem ForT.mk (Pv : Nat → L2.St → Hp → Prop) (h0 : Pv 0 σ H) (hl : ∀ i σ H, i ≤ xs.length → Pv i σ H → SqT K H a xs)
    (hs : ∀ i x σ H, xs[i]? = some x → Pv i σ H → g x σ H fun σ2 H2 => tb { D with nx := Pv (i + 1), ct := Pv (i + 1), bk := D.nx } σ2 H2) (hd : ∀ σ H, Pv xs.length σ H → D.nx σ H) : ForT K a g tb D σ H := for_tup Pv h0 hl hs hd
theorem ForR.mk {lo : Int} {n : Nat} (Pv : Nat → L2.St → Hp → Prop) (h0 : Pv 0 σ H)
    (hs : ∀ i σ H, i < n → Pv i σ H → g (.int (lo + i)) σ H fun σ2 H2 => tb { D with nx := Pv (i + 1), ct := Pv (i + 1), bk := D.nx } σ2 H2) (hd : ∀ σ H, Pv n σ H → D.nx σ H) : ForR lo n g tb D σ H := for_range Pv h0 hs hd
theorem ForC.mk {lo c : Int} {n : Nat} (Pv : Nat → L2.St → Hp → Prop) (h0 : Pv 0 σ H)
    (hs : ∀ i σ H, i < n → Pv i σ H → g (.int (lo + (i : Nat) * c)) σ H fun σ2 H2 => tb { D with nx := Pv (i + 1), ct := Pv (i + 1), bk := D.nx } σ2 H2) (hd : ∀ σ H, Pv n σ H → D.nx σ H) : ForC lo c n g tb D σ H := for_rangeC Pv h0 hs hd
/-- while, the test's answer told (it lays nothing) -/
theorem while_mk {c : TT} (Pv : L2.St → Hp → Prop) (μ : L2.St → Hp → Nat) (h0 : Pv σ H)
    (hs : ∀ σ H, Pv σ H → ∃ b : Bool, (∀ Q : Bool → Hp → Prop, Q b H → c σ H Q) ∧ (b = true → tb { D with nx := fun σ' H' => Pv σ' H' ∧ μ σ' H' < μ σ H, ct := fun σ' H' => Pv σ' H' ∧ μ σ' H' < μ σ H, bk := D.nx } σ H) ∧ (b = false → D.nx σ H)) : tWhile c tb D σ H := by
  refine ⟨fun m σ H => m = μ σ H ∧ Pv σ H, ⟨_, rfl, h0⟩, ?_⟩
  rintro m σ H ⟨rfl, p⟩
  obtain ⟨b, hc, h1, h2⟩ := hs σ H p
  refine hc _ ?_
  cases b with
  | true => rw [if_pos rfl]; exact ⟨_, fun σ' H' ⟨p', l⟩ => ⟨_, l, rfl, p'⟩, h1 rfl⟩
  | false => rw [if_neg Bool.false_ne_true]; exact h2 rfl
end
/-! ### comprehensions -/
def LcJ (J : It) (g : TG) (tt : TT) (te : TE) (vs : List Nat) (σ : L2.St) (H1 : Hp) (Q : VK) : Prop := ∀ D, H1 D = none → ∃ W : Nat → Nat → Hp → Prop, (∃ m, W 0 m (upd H1 D (.lst []))) ∧ ∀ i m H, W i m H →
  (J.stop i H ∧ Q (.ref D) H) ∨ (J.go i H ∧ ∃ Nx : Hp → Prop, (∀ H', Nx H' → ∃ m', m' < m ∧ W (i + 1) m' H') ∧ ∀ x H', J.yld i H x H' → g x (wipe σ vs) H' fun σ2 H2 => wipe σ2 vs = wipe σ vs ∧ tt σ2 H2 fun b H3 =>
    if b = true then te σ2 H3 fun y H4 => ∃ acc, H4 D = some (.lst acc) ∧ acc.length < sizeLine ∧ Nx (upd H4 D (.lst (acc ++ [y]))) else Nx H3)
def LcL (K : PySem.W.Frag) (a : Addr) := LcJ (Itl K a)
def LcT (K : PySem.W.Frag) (a : Addr) := LcJ (Itt K a)
def LcR (lo : Int) (n : Nat) := LcJ (Itr lo n)
section
variable {K : PySem.W.Frag} {a : Addr} {xs : List V} {g : TG} {tt : TT} {te tl : TE} {ta : TA} {vs : List Nat} {σ : L2.St} {H : Hp} {Q : VK}
theorem rd_lcL : tLc (iList K tl) g tt te vs σ H Q = tl σ H fun x H1 => ∃ a, x = .ref a ∧ (∃ xs, SqL K H1 a xs) ∧ LcL K a g tt te vs σ H1 Q := rfl
theorem rd_lcT : tLc (iTup K tl) g tt te vs σ H Q = tl σ H fun x H1 => ∃ a, x = .ref a ∧ (∃ xs, SqT K H1 a xs) ∧ LcT K a g tt te vs σ H1 Q := rfl
theorem rd_lcR1 : tLc (iRng1 ta) g tt te vs σ H Q = ta σ H fun us H1 => ∃ j : Int, us = [.int j] ∧ -(2 ^ 62) ≤ j ∧ j < 2 ^ 62 ∧ LcR 0 j.toNat g tt te vs σ H1 Q := rfl
theorem rd_lcR2 : tLc (iRng2 ta) g tt te vs σ H Q = ta σ H fun us H1 => ∃ i j : Int, us = [.int i, .int j] ∧ (-(2 ^ 62) ≤ i ∧ i < 2 ^ 62 ∧ -(2 ^ 62) ≤ j ∧ j < 2 ^ 62) ∧ LcR i (j - i).toNat g tt te vs σ H1 Q := rfl
/-- the word of a comprehension at D: what is made so far, the heap -/
theorem LcL.mk (Pv : Nat → Addr → Hp → Prop) (h0 : ∀ D, H D = none → Pv 0 D (upd H D (.lst []))) (hl : ∀ D i H, i ≤ xs.length → Pv i D H → SqL K H a xs)
    (hs : ∀ D i x H, xs[i]? = some x → Pv i D H → g x (wipe σ vs) H fun σ2 H2 => wipe σ2 vs = wipe σ vs ∧ tt σ2 H2 fun b H3 =>
      if b = true then te σ2 H3 fun y H4 => ∃ acc, H4 D = some (.lst acc) ∧ acc.length < sizeLine ∧ Pv (i + 1) D (upd H4 D (.lst (acc ++ [y]))) else Pv (i + 1) D H3) (hd : ∀ D H', H D = none → Pv xs.length D H' → Q (.ref D) H') : LcL K a g tt te vs σ H Q :=
  fun D hD => lc_list (Qd := fun H' => Q (.ref D) H') (fun i H => Pv i D H) (h0 D hD) (hl D) (hs D) (fun H' p => hd D H' hD p)
theorem LcT.mk (Pv : Nat → Addr → Hp → Prop) (h0 : ∀ D, H D = none → Pv 0 D (upd H D (.lst []))) (hl : ∀ D i H, i ≤ xs.length → Pv i D H → SqT K H a xs)
    (hs : ∀ D i x H, xs[i]? = some x → Pv i D H → g x (wipe σ vs) H fun σ2 H2 => wipe σ2 vs = wipe σ vs ∧ tt σ2 H2 fun b H3 =>
      if b = true then te σ2 H3 fun y H4 => ∃ acc, H4 D = some (.lst acc) ∧ acc.length < sizeLine ∧ Pv (i + 1) D (upd H4 D (.lst (acc ++ [y]))) else Pv (i + 1) D H3) (hd : ∀ D H', H D = none → Pv xs.length D H' → Q (.ref D) H') : LcT K a g tt te vs σ H Q :=
  fun D hD => lc_tup (Qd := fun H' => Q (.ref D) H') (fun i H => Pv i D H) (h0 D hD) (hl D) (hs D) (fun H' p => hd D H' hD p)
theorem LcR.mk {lo : Int} {n : Nat} (Pv : Nat → Addr → Hp → Prop) (h0 : ∀ D, H D = none → Pv 0 D (upd H D (.lst [])))
    (hs : ∀ D i H, i < n → Pv i D H → g (.int (lo + i)) (wipe σ vs) H fun σ2 H2 => wipe σ2 vs = wipe σ vs ∧ tt σ2 H2 fun b H3 =>
      if b = true then te σ2 H3 fun y H4 => ∃ acc, H4 D = some (.lst acc) ∧ acc.length < sizeLine ∧ Pv (i + 1) D (upd H4 D (.lst (acc ++ [y]))) else Pv (i + 1) D H3) (hd : ∀ D H', H D = none → Pv n D H' → Q (.ref D) H') : LcR lo n g tt te vs σ H Q :=
  fun D hD => lc_range (Qd := fun H' => Q (.ref D) H') (fun i H => Pv i D H) (h0 D hD) (hs D) (fun H' p => hd D H' hD p)
theorem rd_yes {QT : Bool → Hp → Prop} : tYes σ H QT = QT true H := rfl
theorem rd_sl {r : V → Option Int → Option Int → Hp → VK → Prop} {tlo thi : L2.St → Hp → (Option Int → Hp → Prop) → Prop} : tSl r te tlo thi σ H Q = te σ H fun x H1 => tlo σ H1 fun l H2 => thi σ H2 fun u H3 => r x l u H3 Q := rfl
theorem rd_noPart {QO : Option Int → Hp → Prop} : tNoPart σ H QO = QO none H := rfl
theorem rd_part {QO : Option Int → Hp → Prop} : tPart te σ H QO = te σ H fun x H1 => ∃ i, x = .int i ∧ QO (some i) H1 := rfl
theorem rd_slL {x : V} {lo hi : Option Int} : rSlL K x lo hi H Q = ∃ a xs, x = .ref a ∧ SqL K H a xs ∧ ∀ p, H p = none → Q (.ref p) (upd H p (.lst (cutV xs lo hi))) := rfl
end
/-! ### isinstance of a built-in class -/
theorem isi_mk {K : PySem.W.Frag} {x : V} {T t : String} {b : Bool} {H : Hp} {Q : VK} (ty : TyX K H x (.type t)) (e : kitB t T = some b) (q : Q (.bl b) H) : rIsi K [x, .ty T] H Q := ⟨x, .ty T, _, _, b, rfl, .ty T, ty, kit_ty e, q⟩
/-! ### the same with the next turn's word a letter (simp doesn't read it) -/
section
variable {K : PySem.W.Frag} {a : Addr} {xs : List V} {g : TG} {tb : TS} {D : Ends} {σ : L2.St} {H : Hp} {te : TE} {ta : TA} {tt : TT} {vs : List Nat} {Q : VK}
theorem while_w {c : TT} (Pw : L2.St → Hp → Prop) (μ : L2.St → Hp → Nat) (h0 : Pw σ H)
    (hs : ∀ σ H, Pw σ H → ∀ N : L2.St → Hp → Prop, (∀ σ' H', Pw σ' H' → μ σ' H' < μ σ H → N σ' H') →
      ∃ b : Bool, (∀ Q : Bool → Hp → Prop, Q b H → c σ H Q) ∧ (b = true → tb { D with nx := N, ct := N, bk := D.nx } σ H) ∧ (b = false → D.nx σ H)) : tWhile c tb D σ H :=
  while_mk Pw μ h0 fun σ H p => hs σ H p _ fun _ _ h1 h2 => ⟨h1, h2⟩
theorem ForL.w (Pw : Nat → L2.St → Hp → Prop) (h0 : Pw 0 σ H) (hl : ∀ i σ H, i ≤ xs.length → Pw i σ H → SqL K H a xs)
    (hs : ∀ i x σ H, xs[i]? = some x → Pw i σ H → ∀ N : L2.St → Hp → Prop, (∀ σ' H', Pw (i + 1) σ' H' → N σ' H') → g x σ H fun σ2 H2 => tb { D with nx := N, ct := N, bk := D.nx } σ2 H2) (hd : ∀ σ H, Pw xs.length σ H → D.nx σ H) : ForL K a g tb D σ H :=
  ForL.mk Pw h0 hl (fun i x σ H e p => hs i x σ H e p _ fun _ _ h => h) hd
theorem ForT.w (Pw : Nat → L2.St → Hp → Prop) (h0 : Pw 0 σ H) (hl : ∀ i σ H, i ≤ xs.length → Pw i σ H → SqT K H a xs)
    (hs : ∀ i x σ H, xs[i]? = some x → Pw i σ H → ∀ N : L2.St → Hp → Prop, (∀ σ' H', Pw (i + 1) σ' H' → N σ' H') → g x σ H fun σ2 H2 => tb { D with nx := N, ct := N, bk := D.nx } σ2 H2) (hd : ∀ σ H, Pw xs.length σ H → D.nx σ H) : ForT K a g tb D σ H :=
  ForT.mk Pw h0 hl (fun i x σ H e p => hs i x σ H e p _ fun _ _ h => h) hd
theorem ForR.w {lo : Int} {n : Nat} (Pw : Nat → L2.St → Hp → Prop) (h0 : Pw 0 σ H)
    (hs : ∀ i σ H, i < n → Pw i σ H → ∀ N : L2.St → Hp → Prop, (∀ σ' H', Pw (i + 1) σ' H' → N σ' H') → g (.int (lo + i)) σ H fun σ2 H2 => tb { D with nx := N, ct := N, bk := D.nx } σ2 H2) (hd : ∀ σ H, Pw n σ H → D.nx σ H) : ForR lo n g tb D σ H :=
  ForR.mk Pw h0 (fun i σ H e p => hs i σ H e p _ fun _ _ h => h) hd
theorem ForC.w {lo c : Int} {n : Nat} (Pw : Nat → L2.St → Hp → Prop) (h0 : Pw 0 σ H)
    (hs : ∀ i σ H, i < n → Pw i σ H → ∀ N : L2.St → Hp → Prop, (∀ σ' H', Pw (i + 1) σ' H' → N σ' H') → g (.int (lo + (i : Nat) * c)) σ H fun σ2 H2 => tb { D with nx := N, ct := N, bk := D.nx } σ2 H2) (hd : ∀ σ H, Pw n σ H → D.nx σ H) : ForC lo c n g tb D σ H :=
  ForC.mk Pw h0 (fun i σ H e p => hs i σ H e p _ fun _ _ h => h) hd
/-- a comprehension: Pw turn D made heap: the list at D holds made -/
theorem LcL.w (Pw : Nat → Addr → List V → Hp → Prop) (h0 : ∀ D, H D = none → Pw 0 D [] (upd H D (.lst []))) (hl : ∀ D i ys H, i ≤ xs.length → Pw i D ys H → SqL K H a xs)
    (hs : ∀ D i x ys H, xs[i]? = some x → Pw i D ys H → ∀ N : Hp → Prop, (∀ ys' H', Pw (i + 1) D ys' H' → N H') → g x (wipe σ vs) H fun σ2 H2 => wipe σ2 vs = wipe σ vs ∧ tt σ2 H2 fun b H3 =>
      if b = true then te σ2 H3 fun y H4 => ∃ acc, H4 D = some (.lst acc) ∧ acc.length < sizeLine ∧ N (upd H4 D (.lst (acc ++ [y]))) else N H3) (hd : ∀ D ys H', H D = none → Pw xs.length D ys H' → Q (.ref D) H') : LcL K a g tt te vs σ H Q :=
  LcL.mk (xs := xs) (fun i D H => ∃ ys, Pw i D ys H) (fun D n => ⟨[], h0 D n⟩) (fun D i H hi ⟨ys, p⟩ => hl D i ys H hi p) (fun D i x H e ⟨ys, p⟩ => hs D i x ys H e p _ fun ys' H' h => ⟨ys', h⟩) (fun D H' n ⟨ys, p⟩ => hd D ys H' n p)
theorem LcT.w (Pw : Nat → Addr → List V → Hp → Prop) (h0 : ∀ D, H D = none → Pw 0 D [] (upd H D (.lst []))) (hl : ∀ D i ys H, i ≤ xs.length → Pw i D ys H → SqT K H a xs)
    (hs : ∀ D i x ys H, xs[i]? = some x → Pw i D ys H → ∀ N : Hp → Prop, (∀ ys' H', Pw (i + 1) D ys' H' → N H') → g x (wipe σ vs) H fun σ2 H2 => wipe σ2 vs = wipe σ vs ∧ tt σ2 H2 fun b H3 =>
      if b = true then te σ2 H3 fun y H4 => ∃ acc, H4 D = some (.lst acc) ∧ acc.length < sizeLine ∧ N (upd H4 D (.lst (acc ++ [y]))) else N H3) (hd : ∀ D ys H', H D = none → Pw xs.length D ys H' → Q (.ref D) H') : LcT K a g tt te vs σ H Q :=
  LcT.mk (xs := xs) (fun i D H => ∃ ys, Pw i D ys H) (fun D n => ⟨[], h0 D n⟩) (fun D i H hi ⟨ys, p⟩ => hl D i ys H hi p) (fun D i x H e ⟨ys, p⟩ => hs D i x ys H e p _ fun ys' H' h => ⟨ys', h⟩) (fun D H' n ⟨ys, p⟩ => hd D ys H' n p)
theorem LcR.w {lo : Int} {n : Nat} (Pw : Nat → Addr → List V → Hp → Prop) (h0 : ∀ D, H D = none → Pw 0 D [] (upd H D (.lst [])))
    (hs : ∀ D i ys H, i < n → Pw i D ys H → ∀ N : Hp → Prop, (∀ ys' H', Pw (i + 1) D ys' H' → N H') → g (.int (lo + i)) (wipe σ vs) H fun σ2 H2 => wipe σ2 vs = wipe σ vs ∧ tt σ2 H2 fun b H3 =>
      if b = true then te σ2 H3 fun y H4 => ∃ acc, H4 D = some (.lst acc) ∧ acc.length < sizeLine ∧ N (upd H4 D (.lst (acc ++ [y]))) else N H3) (hd : ∀ D ys H', H D = none → Pw n D ys H' → Q (.ref D) H') : LcR lo n g tt te vs σ H Q :=
  LcR.mk (fun i D H => ∃ ys, Pw i D ys H) (fun D n => ⟨[], h0 D n⟩) (fun D i H e ⟨ys, p⟩ => hs D i ys H e p _ fun ys' H' h => ⟨ys', h⟩) (fun D H' n ⟨ys, p⟩ => hd D ys H' n p)
end
theorem rd_max2 {xs : List V} {H : Hp} {Q : VK} : (fun (xs : List V) (H : Hp) (Q : VK) => ∃ i j : Int, xs = [.int i, .int j] ∧ Q (.int (if j > i then j else i)) H) xs H Q = ∃ i j : Int, xs = [.int i, .int j] ∧ Q (.int (if j > i then j else i)) H := rfl
theorem rd_wipe0 {σ : L2.St} : wipe σ [] = σ := rfl
theorem rd_wipe1 {σ : L2.St} {v : Nat} {vs : List Nat} : wipe σ (v :: vs) = (wipe σ vs).set v none := rfl
theorem rd_eqD {K : PySem.W.Frag} {x y : V} {H : Hp} {Q : VK} : rEqD K x y H Q = ∃ d e, Dp K H x d ∧ Dp K H y e ∧ SeqAt.shaped d = true ∧ SeqAt.shaped e = true ∧ Q (.bl (PyData.eqv d e)) H := rfl
theorem rd_neD {K : PySem.W.Frag} {x y : V} {H : Hp} {Q : VK} : rNeD K x y H Q = ∃ d e, Dp K H x d ∧ Dp K H y e ∧ SeqAt.shaped d = true ∧ SeqAt.shaped e = true ∧ Q (.bl (!PyData.eqv d e)) H := rfl
theorem rd_rep {x y : V} {H : Hp} {Q : VK} : rRep x y H Q = ∃ l k xs, x = .ref l ∧ y = .int k ∧ H l = some (.lst xs) ∧ -(2 ^ 63) ≤ k ∧ k < 2 ^ 63 ∧ xs.length * k.toNat ≤ sizeLine ∧ ∀ p, H p = none → Q (.ref p) (upd H p (.lst (List.replicate k.toNat xs).flatten)) := rfl
theorem dp_ints {K : PySem.W.Frag} {H : Hp} : ∀ l : List Int, DpAll K H (l.map V.int) (l.map PyData.int)
  | [] => .nil
  | i :: l => .cons (.int i) (dp_ints l)
theorem dp_strs {K : PySem.W.Frag} {H : Hp} : ∀ l : List Str, DpAll K H (l.map V.str) (l.map PyData.str)
  | [] => .nil
  | i :: l => .cons (.str i) (dp_strs l)
/-! ### powers of any size; tuples made of lists; data -/
def CPowI (i j : Int) : Prop := 0 ≤ j ∧ (Builtin.Int.intBits i : Int) * j ≤ 2 ^ 27
theorem op_powI {X : Cx} : OpR X (binaryOp .Pow) (rI CPowI fun i j => .int (i ^ j.toNat)) := opI fun _ _ _ _ _ _ _ hc q => pow_int hc.1 hc.2 q
theorem bits_le {i : Int} {n : Nat} (h : i.natAbs < 2 ^ n) (h0 : 0 < n) : Builtin.Int.intBits i ≤ n := by
  have a := PySem.Flt.log2_lt_of h0 h
  unfold Builtin.Int.intBits
  split <;> omega
theorem powI {i j : Int} {n : Nat} (h : i.natAbs < 2 ^ n) (h0 : 0 < n) (hj : 0 ≤ j) (hz : (n : Int) * j ≤ 2 ^ 27) : CPowI i j := by
  refine ⟨hj, Int.le_trans (Int.mul_le_mul_of_nonneg_right ?_ hj) hz⟩
  exact Int.ofNat_le.mpr (bits_le h h0)
def rTupOf (K : PySem.W.Frag) : List V → Hp → VK → Prop := fun xs H Q => ∃ p ys, xs = [.ref p] ∧ ((SqL K H p ys ∧ ∀ l, H l = none → Q (.ref l) (upd H l (.tup ys))) ∨ (SqT K H p ys ∧ Q (.ref p) H))
theorem cr_tupOf {X : Cx} : CallR X (.type "tuple") (rTupOf X.K) := call_tuple_of
theorem rd_tupOf {K : PySem.W.Frag} {xs : List V} {H : Hp} {Q : VK} : rTupOf K xs H Q = ∃ p ys, xs = [.ref p] ∧ ((SqL K H p ys ∧ ∀ l, H l = none → Q (.ref l) (upd H l (.tup ys))) ∨ (SqT K H p ys ∧ Q (.ref p) H)) := rfl
def rLenS (K : PySem.W.Frag) : List V → Hp → VK → Prop := fun xs H Q => ∃ x n, xs = [x] ∧ LenV K x H n ∧ Q (.int n) H
theorem cr_lenS {X : Cx} : CallR X (.builtin "len") (rLenS X.K) := call_len
theorem rd_lenS {K : PySem.W.Frag} {xs : List V} {H : Hp} {Q : VK} : rLenS K xs H Q = ∃ x n, xs = [x] ∧ LenV K x H n ∧ Q (.int n) H := rfl
theorem rd_gcd {vs : List V} {H : Hp} {Q : VK} : rGcd vs H Q = ∃ a b : Int, vs = [.int a, .int b] ∧ Q (.int ((Nat.gcd a.natAbs b.natAbs : Nat) : Int)) H := rfl
/-- what holds between two statements -/
theorem seq_cut {t u : TS} {D : Ends} {σ : L2.St} {H : Hp} (Pw : L2.St → Hp → Prop) (h1 : ∀ R : L2.St → Hp → Prop, (∀ σ H, Pw σ H → R σ H) → t { D with nx := R } σ H) (h2 : ∀ σ H, Pw σ H → u D σ H) : tSeq t u D σ H := h1 (u D) h2
theorem rd_any {K : PySem.W.Frag} {vs : List V} {H : Hp} {Q : VK} : rAny K vs H Q = ∃ (a : Addr) (bs : List Bool), vs = [V.ref a] ∧ SqL K H a (bs.map V.bl) ∧ Q (.bl (bs.any id)) H := rfl
theorem rd_all {K : PySem.W.Frag} {vs : List V} {H : Hp} {Q : VK} : rAll K vs H Q = ∃ (a : Addr) (bs : List Bool), vs = [V.ref a] ∧ SqL K H a (bs.map V.bl) ∧ Q (.bl (bs.all id)) H := rfl
theorem rd_ext {K : PySem.W.Frag} {to : TE} {t : TA} {σ : L2.St} {H : Hp} {Q : VK} : tBM K "list" rExtend to t σ H Q = to σ H fun x H1 => tyV K "list" x H1 ∧ t σ H1 fun xs H2 => ∃ l b ys zs, x = .ref l ∧ xs = [.ref b] ∧ H2 l = some (.lst ys) ∧ H2 b = some (.lst zs) ∧ ys.length + zs.length ≤ sizeLine ∧ Q .non (upd H2 l (.lst (ys ++ zs))) := rfl
theorem rd_glst {K : PySem.W.Frag} {n : Nat} {g : TGs} {v : V} {σ : L2.St} {H : Hp} {QS : L2.St → Hp → Prop} : gLst K n g v σ H QS = ∃ a xs, v = .ref a ∧ SqL K H a xs ∧ xs.length = n ∧ g xs σ H QS := rfl
theorem ix_listK {X : Cx} {K : PySem.W.Frag} (h : X.K = K) : IxR X (rIxL K) := by
  subst h
  exact ix_list
theorem ix_tupK {X : Cx} {K : PySem.W.Frag} (h : X.K = K) : IxR X (rIxT K) := by
  subst h
  exact ix_tup
end CB/-! sorted of a list of triples of ints, any number of them -/
namespace CB
open PySem PyProof.Rows Srt SrtO L2
abbrev T3 := Int × Int × Int
def lexT (p q : T3) : Bool := if p.1 = q.1 then lexB p.2 q.2 else decide (p.1 < q.1)
theorem lexT_iff {p q : T3} : lexT p q = true ↔ p.1 < q.1 ∨ (p.1 = q.1 ∧ (p.2.1 < q.2.1 ∨ (p.2.1 = q.2.1 ∧ p.2.2 < q.2.2))) := by
  unfold lexT
  by_cases e : p.1 = q.1
  · rw [if_pos e, lexB_iff]
    omega
  · rw [if_neg e, decide_eq_true_eq]
    omega
theorem lexT_no {p q : T3} : lexT p q = false ↔ ¬ (p.1 < q.1 ∨ (p.1 = q.1 ∧ (p.2.1 < q.2.1 ∨ (p.2.1 = q.2.1 ∧ p.2.2 < q.2.2)))) := by
  rw [← lexT_iff]
  cases lexT p q <;> simp
theorem swo_T {α : Type} (k : α → T3) : Swo fun v u => lexT (k v) (k u) := by
  refine ⟨fun x y h => ?_, fun x y z h1 h2 => ?_⟩
  · have a := lexT_iff.mp h
    refine lexT_no.mpr ?_
    omega
  · have a := lexT_no.mp h1
    have b := lexT_no.mp h2
    refine lexT_no.mpr ?_
    omega
theorem lexT_eq {p q : T3} (h1 : lexT p q = false) (h2 : lexT q p = false) : p = q := by
  have a := lexT_no.mp h1
  have b := lexT_no.mp h2
  obtain ⟨p1, p2, p3⟩ := p
  obtain ⟨q1, q2, q3⟩ := q
  simp only at a b
  have e1 : p1 = q1 := by omega
  have e2 : p2 = q2 := by omega
  have e3 : p3 = q3 := by omega
  rw [e1, e2, e3]
/-- two sorted rearrangements of triples are one -/
theorem srtT_uniq : ∀ {l m : List T3}, l.Pairwise (fun p q => lexT q p = false) → m.Pairwise (fun p q => lexT q p = false) → l.Perm m → l = m := fun {l m} h1 h2 h => by
  refine List.Perm.eq_of_pairwise (le := fun p q => lexT q p = false) (fun a b _ _ x y => lexT_eq y x) h1 h2 h
section
variable {prog : Program} {w : World} {A : Around} {E : Value → Shared → Prop} {s : Shared}
def IsTrip (h : Heap) (v : Value) (k : T3) : Prop := ∃ a o t u r n, v = .ref a ∧ h.get? a = some o ∧ o.cls = .type "tuple" ∧ o.data = .seq #[.int k.1 t, .int k.2.1 u, .int k.2.2 r] n
theorem IsTrip.keeps {h h' : Heap} {v : Value} {k : T3} (p : IsTrip h v k) (kk : ∀ b o, h.get? b = some o → o.cls = .type "tuple" → h'.get? b = some o) : IsTrip h' v k := by
  obtain ⟨a, o, t, u, r, n, e, ho, hc, hd⟩ := p
  exact ⟨a, o, t, u, r, n, e, kk _ _ ho hc, hc, hd⟩
theorem firstsT {h : Heap} : ∀ {vs : List Value}, (∀ v ∈ vs, ∃ k, IsTrip h v k) → ∃ fs : List Value, PySem.W.KatTups h vs fs ∧ fs.length = vs.length ∧ ∀ f ∈ fs, ∃ x t, f = Value.int x t
  | [], _ => ⟨[], PySem.W.KatTups.nil, rfl, fun _ hm => by simp at hm⟩
  | v :: vs, hp => by
    obtain ⟨fs, h1, h2, h3⟩ := firstsT (vs := vs) fun v' hm => hp v' (List.mem_cons_of_mem _ hm)
    obtain ⟨k, a, o, t, u, r, n, e, ho, hc, hd⟩ := hp v (List.mem_cons_self ..)
    subst e
    refine ⟨.int k.1 t :: fs, PySem.W.KatTups.cons ho hc hd rfl h1, by rw [List.length_cons, List.length_cons, h2], fun f hm => ?_⟩
    rcases List.mem_cons.mp hm with rfl | hm
    · exact ⟨k.1, t, rfl⟩
    · exact h3 f hm
theorem trip_cmp {vs : List Value} {k : Value → T3} (hp : ∀ v ∈ vs, IsTrip s.heap v (k v)) : SrtO.Cmp prog w A s (tuples' true) (fun p => p.1 ∈ vs) (lt2 fun v u => lexT (k v) (k u)) := by
  intro p q hm hm'
  have h1 := hp _ hm
  have h2 := hp _ hm'
  show wpAny (model prog w) A (keyLt' (tuples' true) p.1 q.1) (fun r s' => s' = s ∧ r = lexT (k p.1) (k q.1)) (fun _ _ => False) s
  generalize k p.1 = kp at h1 ⊢
  generalize k q.1 = kq at h2 ⊢
  obtain ⟨x, y, z⟩ := kp
  obtain ⟨x', y', z'⟩ := kq
  obtain ⟨a, o, t, u, r, n, e, ho, hc, hd⟩ := h1
  obtain ⟨a', o', t', u', r', n', e', ho', hc', hd'⟩ := h2
  rw [e, e']
  simp only at hd hd'
  refine PySem.W.kat_lt ho hd ho' hd' ?_
  show PySem.W.KatLex prog w A true (decide (3 < 3)) _ [(.int x t, .int x' t'), (.int y u, .int y' u'), (.int z r, .int z' r')] 0 s
  refine PySem.W.kat_cons (SeqAt.EqAt.int_int x t x' t' prog w _ _ ?_)
  refine PySem.W.kat_go (fun e1 => ?_) (fun e1 => ?_)
  · have ex : x = x' := by simpa using e1
    refine PySem.W.kat_yes (PySem.W.kat_cons (SeqAt.EqAt.int_int y u y' u' prog w _ _ ?_))
    refine PySem.W.kat_go (fun e2 => ?_) (fun e2 => ?_)
    · have ey : y = y' := by simpa using e2
      refine PySem.W.kat_yes (PySem.W.kat_cons (SeqAt.EqAt.int_int z r z' r' prog w _ _ ?_))
      refine PySem.W.kat_go (fun e3 => ?_) (fun e3 => ?_)
      · have ez : z = z' := by simpa using e3
        have e4 : lexT (x, y, z) (x', y', z') = false := lexT_no.mpr (by simp only; omega)
        exact PySem.W.kat_yes (PySem.W.kat_nil ⟨rfl, e4.symm⟩)
      · have e4 : lexT (x, y, z) (x', y', z') = decide (z < z') := by
          unfold lexT lexB
          simp only
          rw [if_pos ex, if_pos ey]
        refine PySem.W.kat_no (PySem.W.kat_one _ _ (PyProof.Rows.lt_int ?_))
        exact (show s = s ∧ decide (z < z') = lexT (x, y, z) (x', y', z') from ⟨rfl, e4.symm⟩)
    · have ey : ¬ y = y' := by simpa using e2
      have e4 : lexT (x, y, z) (x', y', z') = decide (y < y') := by
        unfold lexT lexB
        simp only
        rw [if_pos ex, if_neg ey]
      refine PySem.W.kat_no (PySem.W.kat_one _ _ (PyProof.Rows.lt_int ?_))
      exact (show s = s ∧ decide (y < y') = lexT (x, y, z) (x', y', z') from ⟨rfl, e4.symm⟩)
  · have ex : ¬ x = x' := by simpa using e1
    have e3 : lexT (x, y, z) (x', y', z') = decide (x < x') := by
      unfold lexT
      simp only
      rw [if_neg ex]
    exact PySem.W.kat_no (oneLt_int ⟨rfl, e3.symm⟩)
theorem trips_sortableO {a : Addr} {vs : List Value} {k : Value → T3} (h0 : 0 < vs.length) (hp : ∀ v ∈ vs, IsTrip s.heap v (k v)) (ha : ∀ o, s.heap.get? a = some o → o.cls ≠ .type "tuple") : SortableO prog w A s a vs fun v u => lexT (k v) (k u) := by
  intro h' keep
  have hp' : ∀ v ∈ vs, IsTrip h' v (k v) := fun v hm => (hp v hm).keeps fun b o e c => keep b o (fun z => by subst z; exact ha o e c) e
  obtain ⟨fs, h1, h2, h3⟩ := firstsT fun v hm => ⟨_, hp' v hm⟩
  refine ⟨tuples' true, fun Q E hq => ?_, trip_cmp hp'⟩
  refine PySem.W.kat_kind (T := .type "int") h1 (by omega) (fun f hm => ?_) (by rfl) ?_
  · obtain ⟨x, t, rfl⟩ := h3 f hm
    exact PySem.W.Looks.now
  · have e : (Value.type "int" != Value.type "tuple") = true := by first | decide +kernel | rfl | decide
    rw [e]
    exact hq
theorem sorted_tripsO {l : Addr} {vs : List Value} {k : Value → T3} {Q : Value → Shared → Prop} (hl : s.heap.IsList l vs.toArray) (hz : vs.length ≤ sizeLine) (hp : ∀ v ∈ vs, IsTrip s.heap v (k v))
    (h : ∀ (h' : Heap) (d : Addr) (out : List Value), Srtd (fun v u => lexT (k v) (k u)) out → Stb (fun v u => lexT (k v) (k u)) out vs → (∀ b o, s.heap.get? b = some o → h'.get? b = some o) → s.heap.objs.size ≤ d → (∃ n, h'.get? d = some (seqObj "list" out.toArray n)) → Q (.ref d) { s with heap := h' }) :
    wpAny (model prog w) A (call (.builtin "sorted") [.ref l]) Q E s := by
  refine sorted_ord (swo_T k) hl hz (fun h2 h₁ a ha kk => ?_) fun out hs hb => ?_
  · refine trips_sortableO (s := { s with heap := h₁ }) (by omega) (fun v hm => (hp v hm).keeps fun b o e _ => (kk b o e).2) fun o e => ?_
    have e' : some o = some (seqObj "list" vs.toArray 0) := e.symm.trans ha
    cases e'
    intro c
    exact absurd (Value.type.inj c) (by decide)
  · exact h _ _ out hs hb (fun b o e => sortedAll_old e) (Nat.le_succ _) (sortedAll_at s.heap vs out.toArray)
end
end CB
namespace CB
open PySem PySem.Spec PyProof.Rows L2
/-- the triple that stands at x -/
def kT (H : Hp) : V → T3
  | .ref r => match H r with
    | some (.tup [.int a, .int b, .int c]) => (a, b, c)
    | _ => (0, 0, 0)
  | _ => (0, 0, 0)
def IsT3 (H : Hp) (x : V) : Prop := ∃ r a b c, x = V.ref r ∧ H r = some (.tup [.int a, .int b, .int c])
theorem IsT3.at {H : Hp} {x : V} (h : IsT3 H x) : ∃ r, x = V.ref r ∧ H r = some (.tup [.int (kT H x).1, .int (kT H x).2.1, .int (kT H x).2.2]) := by
  obtain ⟨r, a, b, c, rfl, e⟩ := h
  refine ⟨r, rfl, ?_⟩
  have q : kT H (V.ref r) = (a, b, c) := by
    show (match H r with
      | some (.tup [.int a, .int b, .int c]) => (a, b, c)
      | _ => (0, 0, 0)) = _
    rw [e]
  rw [q, e]
/-- the list of triples that stand at the xs -/
def Trs (H : Hp) (xs : List V) (ts : List T3) : Prop := (∀ x ∈ xs, IsT3 H x) ∧ ts = xs.map (kT H)
theorem kT_same {H H' : Hp} (s : Same H H') {x : V} (h : IsT3 H x) : kT H' x = kT H x ∧ IsT3 H' x := by
  obtain ⟨r, a, b, c, rfl, e⟩ := h
  have e' := s _ _ e
  refine ⟨?_, r, a, b, c, rfl, e'⟩
  show (match H' r with
      | some (.tup [.int a, .int b, .int c]) => (a, b, c)
      | _ => (0, 0, 0)) = (match H r with
      | some (.tup [.int a, .int b, .int c]) => (a, b, c)
      | _ => (0, 0, 0))
  rw [e, e']
theorem Trs.same {H H' : Hp} {xs : List V} {ts : List T3} (s : Same H H') (h : Trs H xs ts) : Trs H' xs ts := by
  obtain ⟨h1, rfl⟩ := h
  exact ⟨fun x m => (kT_same s (h1 x m)).2, List.map_congr_left fun x m => (kT_same s (h1 x m)).1.symm⟩
theorem Trs.keep {H H' : Hp} {xs : List V} {ts : List T3} (s : ∀ r a b c, H r = some (.tup [.int a, .int b, .int c]) → H' r = some (.tup [.int a, .int b, .int c])) (h : Trs H xs ts) : Trs H' xs ts := by
  obtain ⟨h1, rfl⟩ := h
  refine ⟨fun x m => ?_, List.map_congr_left fun x m => ?_⟩
  · obtain ⟨r, a, b, c, e, q⟩ := h1 x m
    exact ⟨r, a, b, c, e, s _ _ _ _ q⟩
  · obtain ⟨r, a, b, c, rfl, q⟩ := h1 x m
    show (match H r with
      | some (.tup [.int a, .int b, .int c]) => (a, b, c)
      | _ => (0, 0, 0)) = (match H' r with
      | some (.tup [.int a, .int b, .int c]) => (a, b, c)
      | _ => (0, 0, 0))
    rw [q, s _ _ _ _ q]
theorem same_at {H H1 : Hp} {f : Addr} {o : HO} (s : Same H H1) (n : H f = none) : Same H (upd H1 f o) := fun b x e => by
  rw [upd_ne (ne_of_none e n)]
  exact s b x e
theorem Trs.updL {H : Hp} {f : Addr} {l : List V} {o : HO} {xs : List V} {ts : List T3} (h : Trs H xs ts) (e : H f = some (.lst l)) : Trs (upd H f o) xs ts :=
  h.keep fun r a b c q => by rw [upd_ne (ne_of q e (by intro z; cases z))]; exact q
theorem Trs.updN {H : Hp} {f : Addr} {o : HO} {xs : List V} {ts : List T3} (h : Trs H xs ts) (e : H f = none) : Trs (upd H f o) xs ts := h.same (same_upd e)
theorem Trs.nil {H : Hp} : Trs H [] [] := ⟨fun x m => by simp at m, rfl⟩
theorem Trs.snoc {H : Hp} {xs : List V} {ts : List T3} {r : Addr} {a b c : Int} (h : Trs H xs ts) (e : H r = some (.tup [.int a, .int b, .int c])) : Trs H (xs ++ [.ref r]) (ts ++ [(a, b, c)]) := by
  obtain ⟨h1, rfl⟩ := h
  refine ⟨fun x m => ?_, ?_⟩
  · rcases List.mem_append.mp m with m | m
    · exact h1 x m
    · rw [List.mem_singleton.mp m]
      exact ⟨r, a, b, c, rfl, e⟩
  · rw [List.map_append]
    show _ = _ ++ [kT H (.ref r)]
    have q : kT H (V.ref r) = (a, b, c) := by
      show (match H r with
        | some (.tup [.int a, .int b, .int c]) => (a, b, c)
        | _ => (0, 0, 0)) = _
      rw [e]
    rw [q]
theorem Trs.get {H : Hp} {xs : List V} {ts : List T3} {i : Nat} {x : V} (h : Trs H xs ts) (e : xs[i]? = some x) : ∃ r a b c, x = .ref r ∧ H r = some (.tup [.int a, .int b, .int c]) ∧ ts[i]? = some (a, b, c) := by
  obtain ⟨h1, rfl⟩ := h
  obtain ⟨r, e1, e2⟩ := (h1 x (List.mem_of_getElem? e)).at
  exact ⟨r, _, _, _, e1, e2, by rw [List.getElem?_map, e]; rfl⟩
theorem Trs.len {H : Hp} {xs : List V} {ts : List T3} (h : Trs H xs ts) : ts.length = xs.length := by
  rw [h.2, List.length_map]
/-- sorted(xs), xs a list of triples of ints -/
def rSorted3 (K : PySem.W.Frag) : List V → Hp → VK → Prop := fun vs H Q => ∃ (a : Addr) (xs : List V) (ts : List T3), vs = [V.ref a] ∧ SqL K H a xs ∧ Trs H xs ts ∧
  ∀ ys us p, Trs H ys us → us.Pairwise (fun p q => lexT q p = false) → us.Perm ts → H p = none → Q (.ref p) (upd H p (.lst ys))
section
variable {X : Cx}
theorem cr_sorted3 : CallR X (.builtin "sorted") (rSorted3 X.K) := by
  intro pins s σ H vs us Q I r h
  obtain ⟨a, xs, ts, rfl, hs, ⟨hx, rfl⟩, q⟩ := h
  obtain ⟨its, rv, hl, hz⟩ := I.list hs
  obtain ⟨u, rfl, ru⟩ := vals1 r
  obtain rfl : u = Value.ref a := ru
  obtain ⟨e1, e2⟩ := refs_back rv fun x m => by
    obtain ⟨t, e, _⟩ := (hx x m).at
    exact ⟨t, e⟩
  refine sorted_tripsO (k := fun u => kT H (backV u)) hl.isList (by rw [← rv.length]; exact hz) (fun v hv => ?_) fun h' d out h1 h2 kp hd hn => ?_
  · obtain ⟨t, rfl⟩ := e2 v hv
    have hm : V.ref t ∈ xs := by rw [e1]; exact List.mem_map.mpr ⟨_, hv, rfl⟩
    obtain ⟨t', e, ht⟩ := (hx _ hm).at
    cases e
    obtain ⟨_, its2, r2, o, ho, hc, n, hd⟩ := I.hok _ _ ht
    cases r2 with
    | cons ra r2 =>
      cases r2 with
      | cons rb r2 =>
        cases r2 with
        | cons rc r2 =>
          cases r2
          obtain ⟨t1, rfl⟩ := ra
          obtain ⟨t2, rfl⟩ := rb
          obtain ⟨t3, rfl⟩ := rc
          exact ⟨t, o, t1, t2, t3, n, rfl, ho, hc, hd⟩
  · have h3 : ∀ u ∈ out, ∃ a, u = Value.ref a := fun u hu => e2 u (h2.perm.mem_iff.mp hu)
    obtain ⟨n, hn⟩ := hn
    have hp : (out.map backV).Perm xs := by
      rw [e1]
      exact h2.perm.map backV
    have hT : ∀ x ∈ out.map backV, IsT3 H x := fun x m => hx x (hp.mem_iff.mp m)
    have hS : ((out.map backV).map (kT H)).Pairwise (fun p q => lexT q p = false) := by
      rw [List.pairwise_map, List.pairwise_map]
      exact h1
    refine ⟨.ref d, upd H d (.lst (out.map backV)), I.laid (t' := s.toks) kp hd ⟨?_, out, n, vals_back h3, hn⟩, rfl, q _ _ d ⟨hT, rfl⟩ hS (hp.map (kT H)) (I.hok.fresh hd)⟩
    rw [hp.length_eq]
    exact hz
end
section
variable {H : Hp} {Q : VK} {K : PySem.W.Frag} {vs : List V}
theorem rd_sorted3 : rSorted3 K vs H Q = ∃ (a : Addr) (xs : List V) (ts : List T3), vs = [V.ref a] ∧ SqL K H a xs ∧ Trs H xs ts ∧
  ∀ ys us p, Trs H ys us → us.Pairwise (fun p q => lexT q p = false) → us.Perm ts → H p = none → Q (.ref p) (upd H p (.lst ys)) := rfl
end
/-! ### triples as data -/
def dT3 (t : T3) : PyData := .tuple [.int t.1, .int t.2.1, .int t.2.2]
theorem dp_t3 {K : PySem.W.Frag} {H : Hp} {x : V} (h : IsT3 H x) : Dp K H x (dT3 (kT H x)) := by
  obtain ⟨r, rfl, e⟩ := h.at
  exact .tup (SqT.of e) (.cons (.int _) (.cons (.int _) (.cons (.int _) .nil)))
theorem dp_trs {K : PySem.W.Frag} {H : Hp} : ∀ {xs : List V} {ts : List T3}, Trs H xs ts → DpAll K H xs (ts.map dT3) := fun {xs ts} h => by
  obtain ⟨h1, rfl⟩ := h
  induction xs with
  | nil => exact .nil
  | cons x xs ih => exact .cons (dp_t3 (h1 x List.mem_cons_self)) (ih fun y m => h1 y (List.mem_cons_of_mem _ m))
theorem lay_t3 : ∀ ts : List T3, PyData.canLayAll0 (ts.map dT3) = true
  | [] => rfl
  | t :: ts => by
    show (PyData.canLay0 (dT3 t) && PyData.canLayAll0 (ts.map dT3)) = true
    rw [lay_t3 ts]
    rfl
theorem depth_t3 : ∀ ts : List T3, PyData.depthAll (ts.map dT3) ≤ 3
  | [] => by decide
  | t :: ts => by
    have := depth_t3 ts
    show max (PyData.depth (dT3 t)) (PyData.depthAll (ts.map dT3)) ≤ 3
    have e : PyData.depth (dT3 t) = 1 := rfl
    omega
theorem shaped_t3 (ts : List T3) : SeqAt.shaped (.tuple (ts.map dT3)) = true := by
  unfold SeqAt.shaped
  have a : PyData.canLay0 (.tuple (ts.map dT3)) = true := lay_t3 ts
  have b : PyData.depth (.tuple (ts.map dT3)) ≤ 64 := by
    have := depth_t3 ts
    show PyData.depthAll (ts.map dT3) + 1 ≤ 64
    omega
  rw [a, decide_eq_true b]
  rfl
end CB
/-! try with several clauses, each with a name or without -/
namespace CB
open PySem PySem.Spec PyProof.Rows L2
abbrev Cl := Value × Option Nat × (Addr → Value → Option Addr → TS)
def endA (i : Option Nat) (D : Ends) : Ends := match i with
  | none => D
  | some i => { nx := fun p q => D.nx (p.set i none) q, rt := D.rt, bk := fun p q => D.bk (p.set i none) q, ct := fun p q => D.ct (p.set i none) q }
def setA (i : Option Nat) (p : L2.St) (a : Addr) : L2.St := match i with
  | none => p
  | some i => p.set i (some (.ref a))
def wA (K : PySem.W.Frag) (Wo : WX) (D : Ends) : List Cl → WX
  | [] => Wo
  | (c, i, ts) :: r => fun cls d p H => ∃ b, PySem.W.exmOne K cls c = some b ∧ (b = true → ∀ a, H a = none → ts a cls d (endA i D) (setA i p a) H) ∧ (b = false → wA K Wo D r cls d p H)
/-- the clauses of the text -/
inductive HdA (X : Cx) : List ExceptHandler → List Cl → Prop
  | nil : HdA X [] []
  | bare {x : Str} {c : Value} {ts : Addr → Value → Option Addr → TS} {b1 : Stmt} {su : List Stmt} {np pp : Pos} {hs : List ExceptHandler} {l : List Cl} (hc : Names X x c)
      (hw : ∀ (a : Addr) (o : Obj) (cls : Value) (d : Option Addr) (pn : List (Addr × Obj)), Zc cls d o → (∃ vs, o.data = .fields vs) → PSs (X.suite a ((a, o) :: pn)) (b1 :: su) (ts a cls d)) (r : HdA X hs l) :
      HdA X (.ExceptHandler (some (.Name x np)) none (b1 :: su) pp :: hs) ((c, none, ts) :: l)
  | named {x n : Str} {c : Value} {i : Nat} {ts : Addr → Value → Option Addr → TS} {b1 : Stmt} {su : List Stmt} {np pp : Pos} {hs : List ExceptHandler} {l : List Cl} (hc : Names X x c) (hi : X.N[i]? = some n) (hn : X.env.kindOf n = some .local)
      (hw : ∀ (a : Addr) (o : Obj) (cls : Value) (d : Option Addr) (pn : List (Addr × Obj)), Zc cls d o → (∃ vs, o.data = .fields vs) → PSs (X.suite a ((a, o) :: pn)) (b1 :: su) (ts a cls d)) (r : HdA X hs l) :
      HdA X (.ExceptHandler (some (.Name x np)) (some n) (b1 :: su) pp :: hs) ((c, some i, ts) :: l)
section
variable {X : Cx} {body : List Stmt} {h1 : ExceptHandler} {hs : List ExceptHandler} {l : List Cl} {pos : Pos} {tb : WX → TS} {Wo : WX}
theorem ps_tryA (hst : X.stack = X.env :: X.outer) (hf : X.env.frame = some X.env.locals) (hN : X.N.Nodup) (tk : Takes X Wo)
    (hb : ∀ (W : WX) (pn : List (Addr × Obj)) (xe : Value → Shared → Prop), Takes (X.tr pn xe) W → PassesOwn (model X.prog X.w) X.A X.env xe → PSs (X.tr pn xe) body (tb W))
    (hh : HdA X (h1 :: hs) l) : PS X (.Try body (h1 :: hs) [] [] pos) (fun D p H => tb (wA X.K Wo D l) D p H) := by
  refine ⟨fun pins s p H D I hgo => ?_⟩
  have ok := I.ok
  have frm : X.A.frames = some (X.env :: X.outer) := by rw [ok.frames, hst]
  refine wpAny_Try_except (wpAny_mono ((hb (wA X.K Wo D l) (X.pn ++ pins) (fun e s₁ => wpAny (model X.prog X.w) X.A (noteFrame e X.env) (fun _ s₂ => wpAny (model X.prog X.w) X.A (setFlight e none) (fun _ s₃ => wpAny (model X.prog X.w) X.A (handleBy e X.env (h1 :: hs)) (SP X pins D) X.xe s₃) X.xe s₂) X.xe s₁)
    (fun u s' xx => ?_) PassesOwn.looking).run [] s p H D (I.toTry _) hgo) (fun f s1 hsp => ?_) (fun e s1 he => he))
  · obtain ⟨a, B, sI, pins', p', H', cls, d, rfl, Jt, nb, up, sky, na, os, ag, wish⟩ := xx
    have J : Inv X pins p' H' sI := Jt.ofTry ok
    have skyB : Sky B (X.env :: X.outer) a (Zc cls d) X.env.locals s'.heap := by rw [← hst]; exact sky
    show wpAny (model X.prog X.w) X.A (noteFrame (.ref a) X.env) _ _ _
    refine Sky.land Zc.steady frm hf skyB fun hp3 fl3 up3 => ?_
    have J3 : Inv X pins p' H' { s' with heap := hp3 } := J.landed nb fl3.1 (up.trans up3) os ag
    obtain ⟨o3, v3, g3, z3, d3⟩ := fl3.there
    have out : ∀ {hp : Heap} {o : Obj} {vs : Array Value}, hp.FunFrames B (X.env :: X.outer) → hp.get? a = some o → o.data = .fields vs → a ∉ frs (X.env :: X.outer) := fun {hp o vs} ff e dd hm => by
      obtain ⟨_, o', e', hnf⟩ := ff.mem hm; rw [e] at e'; cases e'; exact hnf _ dd
    have nfr := out fl3.2.2.1 g3 d3
    have nL : a ≠ X.env.locals := fun z => nfr (List.mem_filterMap.mpr ⟨X.env, List.mem_cons_self, by rw [hf, z]⟩)
    have nF : a ∉ X.fs := fun hm => by obtain ⟨e, he, q⟩ := List.mem_filterMap.mp hm; exact nfr (List.mem_filterMap.mpr ⟨e, List.mem_cons_of_mem _ he, q⟩)
    have S3 := J3.suite g3 d3 na nL nF
    have LT : PySem.W.Looks (model X.prog X.w) hp3 (typeOf (.ref a)) cls := fun A Q E s k q => wpAny_typeOf_ref (k _ _ g3) (by rw [z3.1]; exact q)
    have test : ∀ {x : Str} {np : Pos} {c : Value} (hc : Names X x c) {Q : Value → Shared → Prop} {E : Value → Shared → Prop}, Q c { s' with heap := hp3 } → wpAny (model X.prog X.w) (X.A.mark (some (.ref a))) (eval (.Name x np) X.env) Q E { s' with heap := hp3 } := fun {x np c} hc {Q E} q => by
      obtain ⟨hg, hdb, hm | ⟨hm, hv, hnn⟩⟩ := hc
      · exact ld_glob (X := X.suite a ((a, o3) :: (X.pn ++ pins))) S3 hg hm q hdb
      · exact ld_blt (X := X.suite a ((a, o3) :: (X.pn ++ pins))) S3 hg hm hv q hnn hdb
    have go : ∀ {hs' : List ExceptHandler} {l' : List Cl}, HdA X hs' l' → wA X.K Wo D l' cls d p' H' → wpAny (model X.prog X.w) X.A (handleBy (.ref a) X.env hs') (SP X pins D) X.xe { s' with heap := hp3 } := by
      intro hs' l' hk
      induction hk with
      | nil =>
        intro w
        refine wpAny_handleBy_nil ?_
        obtain ⟨k1, k2, k3, oe, vs, T, oT, ts', he, hz, hd, h1', hr⟩ := id fl3
        unfold PySem.passOn
        refine wpAny_bind (wpAny_field he hd h1' ?_)
        rw [if_neg (show ¬ ((Value.ref T == Value.none) = true) from by simp)]
        have fin : wpAny (model X.prog X.w) X.A (setFlight (.ref a) X.env.frame) (fun _ s4 => wpAny (model X.prog X.w) X.A (throw (.ref a) : Sem Flow) (SP X pins D) X.xe s4) X.xe { s' with heap := hp3 } := by
          rw [hf]
          refine HandSPX.setFlight_upZ fl3 fun h4 hh4 up4 => wpAny_throw (tk _ _ ?_)
          exact ⟨a, B, sI, pins, p', H', cls, d, rfl, J, nb, (up.trans up3).trans up4, .inr (.inr (by rw [hst]; exact hh4)), na, os, ag, w⟩
        first | exact wpAny_bind (wpAny_pure (wpAny_bind fin)) | exact wpAny_bind fin
      | @bare x c ts b1 su np pp hs2 l2 hc hw r ih =>
        intro w
        obtain ⟨b, hb1, hyes, hno⟩ := w
        refine wpAny_handleBy_cons (codeAny_handlers_test ?_) (by intro q; cases q)
        have LM := PySem.W.exm_one (M := model X.prog X.w) (J3.kIn) LT hb1
        refine test hc (LM.here ?_)
        cases b with
        | true =>
          refine codeAny_handlers_suite (HandSPX.lands_againZ fl3 fun h4 fl4 up4 => ?_)
          have J4 : Inv X pins p' H' { s' with heap := h4 } := J.landed nb fl4.1 ((up.trans up3).trans up4) os ag
          obtain ⟨o4, v4, g4, z4, d4⟩ := fl4.there
          have S4 := J4.suite g4 d4 na nL nF
          refine wpAny_mono ((hw a o4 cls d (X.pn ++ pins) z4 ⟨_, d4⟩).run [] _ _ H' _ S4 (hyes rfl a na)) (fun f s6 hsp => ?_) (fun _ _ z => False.elim z)
          cases f with
          | ret u => obtain ⟨v6, p6, H6, S6, r6, q6⟩ := hsp; exact ⟨_, _, _, S6.unsuite ok, r6, q6⟩
          | _ => obtain ⟨p6, H6, S6, q6⟩ := hsp; exact ⟨_, _, S6.unsuite ok, q6⟩
        | false => exact ih (hno rfl)
      | @named x n c i ts b1 su np pp hs2 l2 hc hi hn hw r ih =>
        intro w
        obtain ⟨b, hb1, hyes, hno⟩ := w
        refine wpAny_handleBy_cons (codeAny_handlers_test ?_) (by intro q; cases q)
        have LM := PySem.W.exm_one (M := model X.prog X.w) (J3.kIn) LT hb1
        refine test hc (LM.here ?_)
        cases b with
        | true =>
          refine codeAny_handlers_suite_as (HandSPX.lands_againZ fl3 fun h4 fl4 up4 => ?_)
          have J4 : Inv X pins p' H' { s' with heap := h4 } := J.landed nb fl4.1 ((up.trans up3).trans up4) os ag
          obtain ⟨o4, v4, g4, z4, d4⟩ := fl4.there
          have S4 := J4.suite g4 d4 na nL nF
          refine store_ok (X := X.suite a ((a, o4) :: (X.pn ++ pins))) (v := .ref a) S4 hN hi (.inl hn) rfl (fun s5 S5 => ?_) (.inr hn)
          refine wpAny_mono ((hw a o4 cls d (X.pn ++ pins) z4 ⟨_, d4⟩).run [] s5 _ H' _ S5 (hyes rfl a na)) (fun f s6 hsp => ?_) (fun _ _ z => False.elim z)
          have gone : ∀ {p6 : L2.St} {H6 : Hp} {Q : Shared → Prop}, Inv (X.suite a ((a, o4) :: (X.pn ++ pins))) [] p6 H6 s6 → (∀ s7, Inv X pins (p6.set i none) H6 s7 → Q s7) →
              wpAny (model X.prog X.w) X.A (do bindName X.env n .none; unbindBehindTheSuite X.env n pp) (fun _ s7 => Q s7) X.xe s6 := fun {p6 H6 Q} S6 hq => gone_ok (S6.unsuite ok) hN hi hn hq
          cases f with
          | ret u => obtain ⟨v6, p6, H6, S6, r6, q6⟩ := hsp; exact gone S6 fun s7 J7 => ⟨_, _, _, J7, r6, q6⟩
          | next => obtain ⟨p6, H6, S6, q6⟩ := hsp; exact gone S6 fun s7 J7 => ⟨_, _, J7, q6⟩
          | brk => obtain ⟨p6, H6, S6, q6⟩ := hsp; exact gone S6 fun s7 J7 => ⟨_, _, J7, q6⟩
          | cont => obtain ⟨p6, H6, S6, q6⟩ := hsp; exact gone S6 fun s7 J7 => ⟨_, _, J7, q6⟩
        | false => exact ih (hno rfl)
    exact go hh wish
  · cases f with
    | ret u => obtain ⟨v, p', H', J', r, q⟩ := hsp; exact ⟨v, p', H', J'.ofTry ok, r, q⟩
    | next => obtain ⟨p', H', J', q⟩ := hsp; exact wpAny_execs_nil ⟨p', H', J'.ofTry ok, q⟩
    | brk => obtain ⟨p', H', J', q⟩ := hsp; exact ⟨p', H', J'.ofTry ok, q⟩
    | cont => obtain ⟨p', H', J', q⟩ := hsp; exact ⟨p', H', J'.ofTry ok, q⟩
end
end CB
/-! the program's errors: Malformed (no own __init__), Refused (with its reason) -/
namespace CB
open PySem PySem.Spec PyProof.Rows L2
structure CalX (P : Program) (w : World) (K : PySem.W.Frag) (mg : Str → Option Value) (base : Heap) (x : Str) (k : Nat) (ps : List Str) (sp : Sp) : Prop where
  ok : ∃ f fd, FnOk P w K mg base (L2.CX P w) k f fd ps sp ∧ mg x = some (.ref f) ∧ PySem.W.keepIn K (.ref f) = true ∧ Binds K fd ps []
section
variable {P : Program} {w : World} {K : PySem.W.Frag} {mg : Str → Option Value} {base : Heap}
theorem Dn.calX {x : Str} {st : Stmt} {N ps : List Str} {k : Nat} {sp : Sp} (D : Dn K mg x st ps) (S : FnScope N ps (defScope st)) (len : ∀ vs H Q E, sp vs H Q E → vs.length = ps.length)
    (hbody : ∀ (f : Addr) (cdv : Value) (A : Around) (outer : List Env) (s : Shared) (H : Hp) (vs : List V) (Q : VK) (E : XK), Room k (A.deeper (envOfC x (defScope st) s.heap.objs.size f cdv)) → sp vs H Q E →
      ∃ t, PSs (cxOf (L2.CX P w) P w K mg base N x (defScope st) f cdv A outer s H E) (defBody st) t ∧ t { nx := fun _ H' => Q .non H', rt := Q } (start N vs) H) : CalX P w K mg base x (k + 1) ps sp := by
  obtain ⟨f, fd, F, hm, hb⟩ := D.ok
  exact ⟨f, fd, F.okX S len fun cdv A outer s H vs Q E hr h => hbody f cdv A outer s H vs Q E hr h, hm, F.kp, hb⟩
end
section
variable {X : Cx} {k : Nat} {ps : List Str} {sp : Sp} {x : Str} {p pos : Pos} {e : Expr} {es : List Expr} {t : TA} {W : WX}
/-- a call that may raise, W what is wished of what it raises -/
theorem pe_calS (C : CalX X.prog X.w X.K X.mg X.base x k ps sp) (tk : Takes X W) (hr : Room k X.A) (hg : Gl X x) (ha : PA X (e :: es) t) (hdb : (x == ("__debug__" : Str)) = false := by decide)
    (he : starEach (e :: es) X.env = (false, eval e X.env) :: starEach es X.env := by rfl) (hpl : (backTo pos (starEach es X.env)).any (·.1) = false := by rfl) : PE X (.Call (.Name x p) (e :: es) [] pos) (tCallS sp (WE W) t) := by
  obtain ⟨f, fd, F, hm, hk, hb⟩ := C.ok
  exact pe_callS F hr hg hm hk hb (fun σ => passAt tk σ) ha hdb he hpl
end
abbrev veB : List Value := [.type "ValueError", .type "Exception", .type "BaseException", .type "object"]
structure ErrM (K : PySem.W.Frag) (mg : Str → Option Value) (C : Addr) : Prop where
  g : mg "Malformed" = some (.ref C)
  x : PySem.W.excIn K C veB "ValueError.__new__" = true
  k : PySem.W.keepIn K (.ref C) = true
  b : PySem.W.subIn K (.ref C) (.type "BaseException") = some true
  t : PySem.W.typeIn K (.ref C) = some (.type "type")
  mm : PySem.W.exmOne K (.ref C) (.ref C) = some true
structure ErrO (K : PySem.W.Frag) (mg : Str → Option Value) (C : Addr) : Prop where
  m : ErrM K mg C
structure ErrR (K : PySem.W.Frag) (mg : Str → Option Value) (M C f : Addr) : Prop where
  g : mg "Refused" = some (.ref C)
  ox : OexC K C
  i : PySem.W.findIn K (.ref C) "__init__" = some (some (.ref f))
  t : PySem.W.typeIn K (.ref f) = some (.type "function")
  n : PySem.W.findIn K (.ref C) "reason" = some none
  xf : XfC K C
  rm : PySem.W.exmOne K (.ref C) (.ref M) = some false
  rr : PySem.W.exmOne K (.ref C) (.ref C) = some true
/-- Refused.__init__(self, reason) -/
def spRI (K : PySem.W.Frag) : Sp := fun vs H Q _ => ∃ (a C : Addr) (v : V), vs = [.ref a, v] ∧ OexC K C ∧ PySem.W.findIn K (.ref C) "reason" = some none ∧ H a = some (exo a C none) ∧
  ∀ dx, H dx = none → dx ≠ a → Q .non (upd (upd H dx (exd dx [("reason", v)])) a (exo a C (some dx)))
structure ErrI (P : Program) (w : World) (K : PySem.W.Frag) (mg : Str → Option Value) (base : Heap) (M C : Addr) : Prop where
  m : ErrM K mg M
  r : ∃ f fd, ErrR K mg M C f ∧ FnOk P w K mg base CX0 1 f fd ["self", "reason"] (spRI K) ∧ Binds K fd ["self", "reason"] []
section
variable {P : Program} {w : World} {K : PySem.W.Frag} {mg : Str → Option Value} {base : Heap} {M C : Addr}
end
/-- raise Malformed('..') -/
theorem ps_mal {X : Cx} {W : WX} {M : Addr} {m : Str} {j : Nat} {p p2 pos pp : Pos} (E : ErrM X.K X.mg M) (hc : X.calm = true) (tk : Takes X W) (hg : Gl X "Malformed") : PS X (.Raise (some (.Call (.Name "Malformed" p) [.Constant (.str m) j p2] [] pos)) none pp) (fun _ σ H => W (.ref M) none σ H) :=
  ps_raise hc tk (pmk_own PySem.F.excBase_ValueError E.x E.g E.k (raises_own E.b E.t) hg)
/-- raise Refused('..') -/
theorem ps_ref {X : Cx} {W : WX} {M C : Addr} {m : Str} {j : Nat} {p p2 pos pp : Pos} (E : ErrI X.prog X.w X.K X.mg X.base M C) (hc : X.calm = true) (tk : Takes X W) (hr : Room 2 X.A) (hg : Gl X "Refused") (hs : starEach [Expr.Constant (.str m) j p2] X.env = (false, eval (Expr.Constant (.str m) j p2) X.env) :: starEach [] X.env := by rfl)
    (hpl : (backTo pos (starEach [] X.env)).any (·.1) = false := by rfl) :
    PS X (.Raise (some (.Call (.Name "Refused" p) [.Constant (.str m) j p2] [] pos)) none pp) (fun _ σ H => ∀ d H', Same H H' → H d = none → H' d = some (.xd [("reason", .str m)]) → W (.ref C) (some d) σ H') := by
  obtain ⟨f, fd, R, F, b⟩ := E.r
  refine ⟨fun pins s σ H D I h => ?_⟩
  refine (ps_raise hc tk (pmk_oex R.ox R.i R.t F hr b .nil pass0 hg R.g (pa_cons pe_str pa_nil hs) rfl hs hpl)).run pins s σ H D I ?_
  show ([V.str m].length ≤ 1000 ∧ _)
  refine ⟨by show 1 ≤ 1000; decide, fun a na => ⟨a, C, .str m, rfl, R.ox, R.n, upd_same, fun dx ndx ne => ⟨rfl, dx, [("reason", .str m)], upd_same, ?_, ?_, ?_⟩⟩⟩
  · rw [upd_ne ne, upd_same]
  · rw [upd_ne ne] at ndx
    exact ndx
  · rw [upd_ne ne] at ndx
    refine h dx _ (fun b o e => ?_) ndx upd_same
    have hbd : b ≠ dx := ne_of_none e ndx
    have hba : b ≠ a := ne_of_none e na
    rw [upd_ne hbd, del_ne hba, upd_ne hba, upd_ne hbd, upd_ne hba]
    exact e
end CB
namespace CB
open PySem PySem.Spec PyProof.Rows L2
theorem exm_b {K : PySem.W.Frag} {S C : Addr} {b : Bool} (h1 : PySem.W.subIn K (.ref C) (.type "BaseException") = some true) (h2 : PySem.W.isClsIn K C = true) (h3 : PySem.W.typeIn K (.ref C) = some (.type "type")) (h4 : PySem.W.subIn K (.ref S) (.ref C) = some b) :
    PySem.W.exmOne K (.ref S) (.ref C) = some b := by
  unfold PySem.W.exmOne
  rw [if_pos (by rw [h1] <;> rfl)]
  show (if ((PySem.W.clsIn K C).isSome && PySem.W.typeIn K (.ref C) == some (.type "type")) = true then PySem.W.subIn K (.ref S) (.ref C) else none) = some b
  have h5 : (PySem.W.clsIn K C).isSome = true := h2
  rw [h5, h3, if_pos (by rfl)]
  exact h4
theorem dn_mk {K : PySem.W.Frag} {h : Heap} {mg : Str → Option Value} {x : Str} {st : Stmt} {ps : List Str} {f : Addr} {oc : Value} {od an : Option Addr} {osl : Array (Option Value)} {kV doc pm cdv ct : Value} (X : K.In h) (G : h.Ns mainGlobals mg)
    (a : PySem.W.nsIn K mainGlobals x = some (some (.ref f))) (l : K.lookup f = some ⟨oc, od, .func (PySem.W.fnOf x x (defArgs st) (defBody st) (defScope st) .none kV doc pm an cdv ct), osl⟩) (c : PySem.W.codeIn K cdv x = true) (k : PySem.W.keepIn K (.ref f) = true)
    (hb : ∀ (kV doc pm : Value) (an : Option Addr) (cdv ct : Value) (us : List Value), us.length = ps.length → bindArgs (PySem.W.fnOf x x (defArgs st) (defBody st) (defScope st) .none kV doc pm an cdv ct) ⟨us, []⟩ = pure (ps.zip us)) : Dn K mg x st ps :=
  ⟨f, _, fun_mk l c k, PySem.W.mg_of X G a, (fun_mk l c k).binds hb⟩
end CB
/-! sorted of a list of pairs of pairs of ints -/
namespace CB
open PySem PySem.Spec PyProof.Rows Srt SrtO L2
abbrev M4 := (Int × Int) × (Int × Int)
def dM (m : M4) : PyData := .tuple [.tuple [.int m.1.1, .int m.1.2], .tuple [.int m.2.1, .int m.2.2]]
def lexM (p q : M4) : Bool := if p.1 = q.1 then lexB p.2 q.2 else lexB p.1 q.1
theorem alike_M (p q : M4) : PySem.W.alike (dM p) (dM q) = true := by
  simp [dM, PySem.W.alike, PySem.W.alikeAll]
theorem eqv_pp (a b c d : Int) : PyData.eqv (.tuple [.int a, .int b]) (.tuple [.int c, .int d]) = decide ((a, b) = (c, d)) := by
  have e : PyData.eqv (.tuple [.int a, .int b]) (.tuple [.int c, .int d]) = ((a == c) && ((b == d) && true)) := rfl
  rw [e]
  by_cases h1 : a = c
  · by_cases h2 : b = d
    · simp [h1, h2]
    · simp [h2]
  · simp [h1]
theorem lt_pp (p q : Int × Int) : PySem.W.dataLt (.tuple [.int p.1, .int p.2]) (.tuple [.int q.1, .int q.2]) = lexB p q := by
  rw [PySem.W.dataLt_ii]
  have h := @lexB_iff p q
  cases hb : lexB p q with
  | true => exact decide_eq_true (h.mp hb)
  | false => exact decide_eq_false fun z => by rw [h.mpr z] at hb; cases hb
theorem lt_M (p q : M4) : PySem.W.dataLt (dM p) (dM q) = lexM p q := by
  unfold dM lexM
  rw [PySem.W.dataLt_pair (by simp [PySem.W.alike, PySem.W.alikeAll]) (by simp [PySem.W.alike, PySem.W.alikeAll]), eqv_pp, eqv_pp, lt_pp, lt_pp]
  by_cases h1 : p.1 = q.1
  · rw [if_pos (decide_eq_true h1), if_pos h1]
    by_cases h2 : p.2 = q.2
    · rw [if_pos (decide_eq_true h2), h2]
      symm
      cases hb : lexB q.2 q.2 with
      | false => rfl
      | true =>
        have := lexB_iff.mp hb
        omega
    · rw [if_neg (fun z => h2 (of_decide_eq_true z))]
  · rw [if_neg (fun z => h1 (of_decide_eq_true z)), if_neg h1]
theorem lexM_iff {p q : M4} : lexM p q = true ↔ (p.1.1 < q.1.1 ∨ (p.1.1 = q.1.1 ∧ (p.1.2 < q.1.2 ∨ (p.1.2 = q.1.2 ∧ (p.2.1 < q.2.1 ∨ (p.2.1 = q.2.1 ∧ p.2.2 < q.2.2)))))) := by
  obtain ⟨⟨a, b⟩, ⟨c, d⟩⟩ := p
  obtain ⟨⟨a', b'⟩, ⟨c', d'⟩⟩ := q
  unfold lexM
  by_cases e : (a, b) = (a', b')
  · rw [if_pos e, lexB_iff]
    have e1 : a = a' := congrArg Prod.fst e
    have e2 : b = b' := congrArg Prod.snd e
    simp only
    omega
  · rw [if_neg e, lexB_iff]
    have : ¬ (a = a' ∧ b = b') := fun z => e (by rw [z.1, z.2])
    simp only
    omega
theorem lexM_no {p q : M4} : lexM p q = false ↔ ¬ (p.1.1 < q.1.1 ∨ (p.1.1 = q.1.1 ∧ (p.1.2 < q.1.2 ∨ (p.1.2 = q.1.2 ∧ (p.2.1 < q.2.1 ∨ (p.2.1 = q.2.1 ∧ p.2.2 < q.2.2)))))) := by
  rw [← lexM_iff]
  cases lexM p q <;> simp
theorem lexM_eq {p q : M4} (h1 : lexM p q = false) (h2 : lexM q p = false) : p = q := by
  have a := lexM_no.mp h1
  have b := lexM_no.mp h2
  obtain ⟨⟨p1, p2⟩, ⟨p3, p4⟩⟩ := p
  obtain ⟨⟨q1, q2⟩, ⟨q3, q4⟩⟩ := q
  simp only at a b
  have e1 : p1 = q1 := by omega
  have e2 : p2 = q2 := by omega
  have e3 : p3 = q3 := by omega
  have e4 : p4 = q4 := by omega
  rw [e1, e2, e3, e4]
theorem srtM_uniq {l m : List M4} (h1 : l.Pairwise (fun p q => lexM q p = false)) (h2 : m.Pairwise (fun p q => lexM q p = false)) (h : l.Perm m) : l = m :=
  List.Perm.eq_of_pairwise (le := fun p q => lexM q p = false) (fun a b _ _ x y => lexM_eq y x) h1 h2 h
/-- x is, in H, the tuple m of tuples -/
def IsM (H : Hp) (x : V) (m : M4) : Prop := ∃ r r1 r2, x = V.ref r ∧ H r = some (.tup [.ref r1, .ref r2]) ∧ H r1 = some (.tup [.int m.1.1, .int m.1.2]) ∧ H r2 = some (.tup [.int m.2.1, .int m.2.2])
theorem IsM.fn {H : Hp} {x : V} {m m' : M4} (h : IsM H x m) (h' : IsM H x m') : m = m' := by
  obtain ⟨r, r1, r2, rfl, e, e1, e2⟩ := h
  obtain ⟨_, _, _, q, f, f1, f2⟩ := h'
  cases q
  rw [e] at f
  cases f
  rw [e1] at f1
  rw [e2] at f2
  obtain ⟨⟨a, b⟩, ⟨c, d⟩⟩ := m
  obtain ⟨⟨a', b'⟩, ⟨c', d'⟩⟩ := m'
  simp only [Option.some.injEq, HO.tup.injEq, List.cons.injEq, V.int.injEq, and_true] at f1 f2
  rw [f1.1, f1.2, f2.1, f2.2]
theorem IsM.same {H H' : Hp} {x : V} {m : M4} (s : Same H H') (h : IsM H x m) : IsM H' x m := by
  obtain ⟨r, r1, r2, q, e, e1, e2⟩ := h
  exact ⟨r, r1, r2, q, s _ _ e, s _ _ e1, s _ _ e2⟩
open Classical in
noncomputable def kM (H : Hp) (x : V) : M4 := if h : ∃ m, IsM H x m then h.choose else ((0, 0), (0, 0))
theorem IsM.k {H : Hp} {x : V} {m : M4} (h : IsM H x m) : kM H x = m := by
  unfold kM
  rw [dif_pos ⟨m, h⟩]
  exact (Exists.choose_spec (⟨m, h⟩ : ∃ m, IsM H x m)).fn h
/-- the list of such tuples at the xs -/
def Mats (H : Hp) (xs : List V) (ms : List M4) : Prop := (∀ x ∈ xs, IsM H x (kM H x)) ∧ ms = xs.map (kM H)
theorem Mats.same {H H' : Hp} {xs : List V} {ms : List M4} (s : Same H H') (h : Mats H xs ms) : Mats H' xs ms := by
  obtain ⟨h1, rfl⟩ := h
  have e : ∀ x ∈ xs, kM H' x = kM H x := fun x m => ((h1 x m).same s).k
  exact ⟨fun x m => by rw [e x m]; exact (h1 x m).same s, List.map_congr_left fun x m => (e x m).symm⟩
theorem Mats.keep {H H' : Hp} {xs : List V} {ms : List M4} (s : ∀ r us, H r = some (.tup us) → H' r = some (.tup us)) (h : Mats H xs ms) : Mats H' xs ms := by
  obtain ⟨h1, rfl⟩ := h
  have g : ∀ x ∈ xs, IsM H' x (kM H x) := fun x m => by
    obtain ⟨r, r1, r2, q, e, e1, e2⟩ := h1 x m
    exact ⟨r, r1, r2, q, s _ _ e, s _ _ e1, s _ _ e2⟩
  exact ⟨fun x m => by rw [(g x m).k]; exact g x m, List.map_congr_left fun x m => ((g x m).k).symm⟩
theorem Mats.updL {H : Hp} {f : Addr} {l : List V} {o : HO} {xs : List V} {ms : List M4} (h : Mats H xs ms) (e : H f = some (.lst l)) : Mats (upd H f o) xs ms :=
  h.keep fun r us q => by rw [upd_ne (ne_of q e (by intro z; cases z))]; exact q
theorem Mats.updN {H : Hp} {f : Addr} {o : HO} {xs : List V} {ms : List M4} (h : Mats H xs ms) (e : H f = none) : Mats (upd H f o) xs ms := h.same (same_upd e)
theorem Mats.nil {H : Hp} : Mats H [] [] := ⟨fun x m => by simp at m, rfl⟩
theorem Mats.snoc {H : Hp} {xs : List V} {ms : List M4} {x : V} {m : M4} (h : Mats H xs ms) (e : IsM H x m) : Mats H (xs ++ [x]) (ms ++ [m]) := by
  obtain ⟨h1, rfl⟩ := h
  refine ⟨fun y hy => ?_, ?_⟩
  · rcases List.mem_append.mp hy with hy | hy
    · exact h1 y hy
    · rw [List.mem_singleton.mp hy, e.k]
      exact e
  · rw [List.map_append, List.map_singleton, e.k]
theorem Mats.get {H : Hp} {xs : List V} {ms : List M4} {i : Nat} {x : V} (h : Mats H xs ms) (e : xs[i]? = some x) : ∃ m, IsM H x m ∧ ms[i]? = some m := by
  obtain ⟨h1, rfl⟩ := h
  exact ⟨_, h1 x (List.mem_of_getElem? e), by rw [List.getElem?_map, e]; rfl⟩
theorem Mats.len {H : Hp} {xs : List V} {ms : List M4} (h : Mats H xs ms) : ms.length = xs.length := by
  rw [h.2, List.length_map]
theorem dp_M {K : PySem.W.Frag} {H : Hp} {x : V} {m : M4} (h : IsM H x m) : Dp K H x (dM m) := by
  obtain ⟨r, r1, r2, rfl, e, e1, e2⟩ := h
  exact .tup (SqT.of e) (.cons (.tup (SqT.of e1) (.cons (.int _) (.cons (.int _) .nil))) (.cons (.tup (SqT.of e2) (.cons (.int _) (.cons (.int _) .nil))) .nil))
theorem dp_Ms {K : PySem.W.Frag} {H : Hp} : ∀ {xs : List V} {ms : List M4}, Mats H xs ms → DpAll K H xs (ms.map dM) := fun {xs ms} h => by
  obtain ⟨h1, rfl⟩ := h
  induction xs with
  | nil => exact .nil
  | cons x xs ih => exact .cons (dp_M (h1 x List.mem_cons_self)) (ih fun y m => h1 y (List.mem_cons_of_mem _ m))
theorem lay_M : ∀ ms : List M4, PyData.canLayAll0 (ms.map dM) = true
  | [] => rfl
  | m :: ms => by
    show (PyData.canLay0 (dM m) && PyData.canLayAll0 (ms.map dM)) = true
    rw [lay_M ms]
    rfl
theorem depth_M : ∀ ms : List M4, PyData.depthAll (ms.map dM) ≤ 3
  | [] => by decide
  | m :: ms => by
    have := depth_M ms
    show max (PyData.depth (dM m)) (PyData.depthAll (ms.map dM)) ≤ 3
    have e : PyData.depth (dM m) = 2 := rfl
    omega
theorem shaped_M (ms : List M4) : SeqAt.shaped (.tuple (ms.map dM)) = true := by
  unfold SeqAt.shaped
  have a : PyData.canLay0 (.tuple (ms.map dM)) = true := lay_M ms
  have b : PyData.depth (.tuple (ms.map dM)) ≤ 64 := by
    have := depth_M ms
    show PyData.depthAll (ms.map dM) + 1 ≤ 64
    omega
  rw [a, decide_eq_true b]
  rfl
/-- sorted(xs), xs a list of pairs of pairs -/
def rSortedM (K : PySem.W.Frag) : List V → Hp → VK → Prop := fun vs H Q => ∃ (a : Addr) (xs : List V) (ms : List M4), vs = [V.ref a] ∧ SqL K H a xs ∧ Mats H xs ms ∧
  ∀ ys us p, Mats H ys us → us.Pairwise (fun p q => lexM q p = false) → us.Perm ms → H p = none → Q (.ref p) (upd H p (.lst ys))
theorem rd_sortedM {K : PySem.W.Frag} {vs : List V} {H : Hp} {Q : VK} : rSortedM K vs H Q = ∃ (a : Addr) (xs : List V) (ms : List M4), vs = [V.ref a] ∧ SqL K H a xs ∧ Mats H xs ms ∧
  ∀ ys us p, Mats H ys us → us.Pairwise (fun p q => lexM q p = false) → us.Perm ms → H p = none → Q (.ref p) (upd H p (.lst ys)) := rfl
section
variable {X : Cx}
theorem each_vals : ∀ {vs : List Value} {xs : List V}, Vals xs vs → PySem.W.EachIs (fun v x => RelV x v) vs xs
  | _, _, .nil => .nil
  | _, _, .cons r h => .cons r (each_vals h)
theorem vals_each : ∀ {vs : List Value} {xs : List V}, PySem.W.EachIs (fun v x => RelV x v) vs xs → Vals xs vs
  | _, _, .nil => .nil
  | _, _, .cons r h => .cons r (vals_each h)
theorem cr_sortedM (hu : X.A.units + 64 < cLine) : CallR X (.builtin "sorted") (rSortedM X.K) := by
  intro pins s σ H vs us Q I r h
  obtain ⟨a, xs, ms, rfl, hs, ⟨hx, rfl⟩, q⟩ := h
  obtain ⟨its, rv, hl, hz⟩ := I.list hs
  obtain ⟨u, rfl, ru⟩ := vals1 r
  obtain rfl : u = Value.ref a := ru
  have hlen := rv.length
  have e0 : PySem.W.EachIs (fun v x => RelV x v) its xs := each_vals rv
  have mem : PySem.W.EachIs (fun v (x : V) => ∃ as, Reads s.heap v (dM (kM H x)) as) its xs := by
    refine PySem.W.EachIs.of_zip (by omega) fun p hp => ?_
    exact Dp.reads I _ _ _ (dp_M (hx p.2 (List.of_mem_zip hp).2)) (e0.zip p hp)
  refine PySem.W.sorted_data (s := s) (β := V) (R := fun v x => RelV x v) (enc := fun x => dM (kM H x)) hl.isList e0 mem (PySem.W.AllAlike.of fun b b' => alike_M _ _) (PySem.W.Sortable.tuples fun b => ⟨_, _, rfl⟩) (by omega) (fun b _ => ?_) fun out ho eo => ?_
  · have : PyData.depth (dM (kM H b)) = 2 := rfl
    omega
  · have ep : (fun b b' : V => PySem.W.dataLe false (fun x => dM (kM H x)) b b') = fun b b' => !lexM (kM H b') (kM H b) := by
      rw [PySem.W.dataLe_eq]
      funext b b'
      show (!PySem.W.dataLt (dM (kM H b')) (dM (kM H b))) = _
      rw [lt_M]
    have hp : (xs.mergeSort (PySem.W.dataLe false (fun x => dM (kM H x)))).Perm xs := List.mergeSort_perm xs _
    have hT : ∀ x ∈ xs.mergeSort (PySem.W.dataLe false (fun x => dM (kM H x))), IsM H x (kM H x) := fun x m => hx x (hp.mem_iff.mp m)
    have hS : ((xs.mergeSort (PySem.W.dataLe false (fun x => dM (kM H x)))).map (kM H)).Pairwise (fun p q => lexM q p = false) := by
      rw [List.pairwise_map]
      have := List.pairwise_mergeSort (le := fun b b' : V => !lexM (kM H b') (kM H b)) (fun x y z h1 h2 => ?_) (fun x y => ?_) xs
      · rw [show PySem.W.dataLe false (fun x => dM (kM H x)) = fun b b' => !lexM (kM H b') (kM H b) from ep]
        exact this.imp fun h => by simpa using h
      · have a1 := lexM_no.mp (by simpa using h1 : lexM (kM H y) (kM H x) = false)
        have a2 := lexM_no.mp (by simpa using h2 : lexM (kM H z) (kM H y) = false)
        have : lexM (kM H z) (kM H x) = false := lexM_no.mpr (by omega)
        simp [this]
      · by_cases c : lexM (kM H y) (kM H x) = true
        · have a1 := lexM_iff.mp c
          have : lexM (kM H x) (kM H y) = false := lexM_no.mpr (by omega)
          simp [this]
        · simp [Bool.not_eq_true _ |>.mp c]
    obtain ⟨n, hn⟩ := sortedAll_at s.heap its (List.toArray out)
    refine ⟨.ref (s.heap.objs.size + 1), upd H (s.heap.objs.size + 1) (.lst (xs.mergeSort (PySem.W.dataLe false (fun x => dM (kM H x))))), I.laid (t' := s.toks) (fun b o e => sortedAll_old e) (Nat.le_succ _) ⟨?_, out, n, vals_each eo, hn⟩, rfl, q _ _ _ ⟨hT, rfl⟩ hS (hp.map (kM H)) (I.hok.fresh (Nat.le_succ _))⟩
    rw [hp.length_eq]
    omega
end
end CB
namespace L16
open PySem PySem.Spec PyProof.Rows L2 CB
def top (i : Nat) : Stmt := PySem.Challenge.pw_classledger_k16_whole_definite_forms_red.main.body.getD i (.Pass ⟨0, 0, 0, 0⟩)
structure Bl (mg : Str → Option Value) : Prop where
  abs : mg "abs" = none
  int : mg "int" = none
  bool : mg "bool" = none
  tuple : mg "tuple" = none
  max : mg "max" = none
  min : mg "min" = none
  range : mg "range" = none
  isinstance : mg "isinstance" = none
  len : mg "len" = none
  all : mg "all" = none
  any : mg "any" = none
  isqrt : mg "isqrt" = some (.builtin "math.isqrt")
  c_HALVED_BITS : ∃ t, mg "HALVED_BITS" = some (.int 32 t)
  c_ITEM_BOUND : ∃ t, mg "ITEM_BOUND" = some (.int 1000000000000000000000000000000000000000000000000000000000000 t)
  c_LARGEST : ∃ t, mg "LARGEST" = some (.int 1000000 t)
local macro_rules | `(tactic| walk_at "rd") => `(tactic| simp (maxSteps := 2000000) only [CB.rd_var, CB.rd_C, CB.rd_op, CB.rd_un, CB.rd_I, CB.rd_I0, CB.rd_U, CB.rd_Eq, CB.rd_Ne, CB.rd_test, CB.rd_B, CB.rd_and, CB.rd_or, CB.rd_not, CB.rd_andV, CB.rd_orV, CB.rd_notV, CB.rd_if, CB.rd_chain, CB.rd_chain3,
  CB.rd_next, CB.rd_seq, CB.rd_drop, CB.rd_ret, CB.rd_retN, CB.rd_break, CB.rd_cont, CB.rd_ifS, CB.rd_asg, CB.rd_name, CB.rd_gsub, CB.rd_gtup, CB.rd_gcons, CB.rd_gnil, CB.rd_par, CB.rd_aug, CB.rd_ipI, CB.rd_nil, CB.rd_cons, CB.rd_tup, CB.rd_lst, CB.rd_CB, CB.rd_call, CB.rd_callS, CB.rd_ixL, CB.rd_ixT, CB.rd_setL, CB.rd_isqrt, CB.rd_sum, CB.rd_append, CB.rd_forL, CB.rd_forT, CB.rd_forR1, CB.rd_forR2, CB.rd_forR3, CB.rd_lcL, CB.rd_lcT, CB.rd_lcR1, CB.rd_lcR2, CB.rd_yes, CB.rd_sl, CB.rd_noPart, CB.rd_part, CB.rd_slL, CB.rd_wipe0, CB.rd_rep, CB.rd_tupOf, CB.rd_lenS, CB.rd_gcd, CB.rd_wipe1, CB.rd_sorted3, CB.rd_any, CB.rd_all, CB.rd_ext, CB.rd_glst, CB.rd_sortedM,
  L2.start, List.map_cons, List.map_nil, List.length_cons, List.length_nil, Nat.reduceAdd, Nat.reduceSub, List.replicate_succ, List.replicate_zero,
  V.int.injEq, V.ref.injEq, V.bl.injEq, V.str.injEq, Option.some.injEq, List.cons.injEq, exists_and_left, exists_eq_left', exists_eq_left, reduceCtorEq, false_and, and_false, or_false, false_or, exists_false, exists_const, and_assoc, true_and, and_true,
  CB.scal_int, CB.scal_str, CB.dec_ii, CB.ite_dec, CB.ite_ndec, List.getElem?_cons_zero, List.getElem?_cons_succ, List.set_cons_zero, List.set_cons_succ, List.append_nil, List.cons_append, List.nil_append, if_true, if_false, Bool.false_eq_true, Bool.not_true, Bool.not_false, CB.K_nox, CB.K_cxOf, eq_self])
local macro_rules | `(tactic| walk_at "rs") => `(tactic| simp (maxSteps := 2000000) only [CB.rd_var, CB.rd_C, CB.rd_op, CB.rd_un, CB.rd_I, CB.rd_I0, CB.rd_U, CB.rd_Eq, CB.rd_Ne, CB.rd_test, CB.rd_B, CB.rd_and, CB.rd_or, CB.rd_not, CB.rd_andV, CB.rd_orV, CB.rd_notV, CB.rd_if, CB.rd_chain, CB.rd_chain3,
  CB.rd_next, CB.rd_drop, CB.rd_ret, CB.rd_retN, CB.rd_break, CB.rd_cont, CB.rd_ifS, CB.rd_asg, CB.rd_name, CB.rd_gsub, CB.rd_gtup, CB.rd_gcons, CB.rd_gnil, CB.rd_par, CB.rd_aug, CB.rd_ipI, CB.rd_nil, CB.rd_cons, CB.rd_tup, CB.rd_lst, CB.rd_CB, CB.rd_call, CB.rd_callS, CB.rd_ixL, CB.rd_ixT, CB.rd_setL, CB.rd_isqrt, CB.rd_sum, CB.rd_append, CB.rd_forL, CB.rd_forT, CB.rd_forR1, CB.rd_forR2, CB.rd_forR3, CB.rd_lcL, CB.rd_lcT, CB.rd_lcR1, CB.rd_lcR2, CB.rd_yes, CB.rd_sl, CB.rd_noPart, CB.rd_part, CB.rd_slL, CB.rd_wipe0, CB.rd_rep, CB.rd_tupOf, CB.rd_lenS, CB.rd_gcd, CB.rd_wipe1, CB.rd_sorted3, CB.rd_any, CB.rd_all, CB.rd_ext, CB.rd_glst, CB.rd_sortedM,
  L2.start, List.map_cons, List.map_nil, List.length_cons, List.length_nil, Nat.reduceAdd, Nat.reduceSub, List.replicate_succ, List.replicate_zero,
  V.int.injEq, V.ref.injEq, V.bl.injEq, V.str.injEq, Option.some.injEq, List.cons.injEq, exists_and_left, exists_eq_left', exists_eq_left, reduceCtorEq, false_and, and_false, or_false, false_or, exists_false, exists_const, and_assoc, true_and, and_true,
  CB.scal_int, CB.scal_str, CB.dec_ii, CB.ite_dec, CB.ite_ndec, List.getElem?_cons_zero, List.getElem?_cons_succ, List.set_cons_zero, List.set_cons_succ, List.append_nil, List.cons_append, List.nil_append, if_true, if_false, Bool.false_eq_true, Bool.not_true, Bool.not_false, CB.K_nox, CB.K_cxOf, eq_self])


section
variable {P : Program} {w : World} {K : PySem.W.Frag} {mg : Str → Option Value} {base : Heap}
/-! ### the draws -/
abbrev s__law_take : Stmt := top 50
theorem sc__law_take : FnScope ["state", "m", "value"] ["state", "m"] (defScope s__law_take) := ⟨rfl, rfl, rfl, by decide +kernel, rfl, by decide +kernel, by decide +kernel⟩

def spTake : Sp := fun vs H Q _ => ∃ (a : Addr) (x y m : Int), vs = [.ref a, .int m] ∧ H a = some (.lst [.int x, .int y]) ∧ 0 < m ∧ m.natAbs.log2 < 9000 ∧
  ∀ v x' y' : Int, 0 ≤ v → v < m → Q (.int v) (upd H a (.lst [.int x', .int y']))
theorem cal_take (D : Dn K mg "_law_take" s__law_take ["state", "m"]) (B : Bl mg) : Cal P w K mg base "_law_take" 1 ["state", "m"] spTake := by
  refine D.cal sc__law_take (fun vs H Q E h => ?_) (fun f cdv A outer s H vs Q E hr h => ?_)
  · obtain ⟨a, x, y, m, rfl, _⟩ := h
    rfl
  · obtain ⟨a, x, y, m, rfl, ha, hm, hz, q⟩ := h
    refine ⟨_, (pss_cons (ps_if (pt_cmpR op_gt (pe_ix ix_list (pv 0) pe_int (fun _ _ => rfl)) pe_int (nomark _)) (pss_cons (ps_set (i := 2) sc__law_take.nd rfl (Or.inl rfl) (pe_op op_mod (pe_callTy call_int1 rfl B.int boot_int (pa_cons (pe_ix ix_list (pv 0) pe_int (fun _ _ => rfl)) pa_nil)) (pv 1)))
  (pss_cons (ps_asg (pe_op op_fdivW (pe_ix ix_list (pv 0) pe_int (fun _ _ => rfl)) (pv 1)) (pg_sub (pv 0) pe_int set_list))
  (pss_one (ps_ret (pv 2))))) pss_nil)
  (pss_cons (ps_asg (pe_op op_mod (pe_callTy call_int1 rfl B.int boot_int (pa_cons (pe_op op_add (pe_op op_mulI (pe_ix ix_list (pv 0) pe_int (fun _ _ => rfl)) pe_int) pe_int) pa_nil)) pe_int) (pg_sub (pv 0) pe_int set_list))
  (pss_one (ps_ret (pe_op op_mod (pe_callTy call_int1 rfl B.int boot_int (pa_cons (pe_op op_fdivW (pe_ix ix_list (pv 0) pe_int (fun _ _ => rfl)) pe_int) pa_nil)) (pv 1)))))), ?_⟩
    walk_at "rd"
    refine ⟨_, SqL.of ha, _, rfl, _, rfl, ite2 (fun h => ?_) (fun h => ?_)⟩
    · refine ⟨_, SqL.of ha, _, rfl, .inl ⟨_, rfl, hm, _, SqL.of ha, _, rfl, _, rfl, ⟨hm, hz⟩, _, ha, _, rfl, ?_⟩⟩
      exact q _ _ _ (Int.emod_nonneg _ (by omega)) (Int.emod_lt_of_pos _ hm)
    · refine ⟨_, SqL.of ha, _, rfl, _, rfl, mulR (by decide), by decide, _, ha, _, rfl, _, SqL.of upd_same, _, rfl, _, rfl, ⟨by decide, by decide +kernel⟩, hm, ?_⟩
      exact q _ _ _ (Int.emod_nonneg _ (by omega)) (Int.emod_lt_of_pos _ hm)
abbrev s__law_state : Stmt := top 49
theorem sc__law_state : FnScope ["script", "seed", "total", "cell"] ["script"] (defScope s__law_state) := ⟨rfl, rfl, rfl, by decide +kernel, rfl, by decide +kernel, by decide +kernel⟩

def spState (K : PySem.W.Frag) : Sp := fun vs H Q _ => ∃ (a : Addr) (ns : List Int), vs = [.ref a] ∧ SqL K H a (ns.map V.int) ∧ ns.length ≤ 63 ∧
  ∀ (p : Addr) (x y : Int) (H' : Hp), Same H H' → H p = none → H' p = some (.lst [.int x, .int y]) → Q (.ref p) H'
theorem cutV63 {ns : List Int} (h : ns.length ≤ 63) : cutV (ns.map V.int) none (some 63) = ns.map V.int := by
  unfold cutV
  rw [HT.sIx_none, show HT.sIx (ns.map V.int).length (ns.map V.int).length (some 63) = min 63 (ns.map V.int).length from HT.sIx_nat _ _ 63, List.length_map, List.drop_zero]
  rw [show min 63 ns.length - 0 = (ns.map V.int).length by rw [List.length_map]; omega, List.take_length]
theorem cal_state (D : Dn K mg "_law_state" s__law_state ["script"]) (B : Bl mg) : Cal P w K mg base "_law_state" 1 ["script"] (spState K) := by
  refine D.cal sc__law_state (fun vs H Q E h => ?_) (fun f cdv A outer s H vs Q E hr h => ?_)
  · obtain ⟨a, ns, rfl, _⟩ := h
    rfl
  · obtain ⟨a, ns, rfl, hS, hl, q⟩ := h
    refine ⟨_, (pss_cons (ps_set (i := 1) sc__law_state.nd rfl (Or.inl rfl) pe_int)
  (pss_cons (ps_set (i := 2) sc__law_state.nd rfl (Or.inl rfl) pe_int)
  (pss_cons (ps_for PassesOwn.never rfl (pi_list (pe_slice sl_list (pv 0) po_none (po_some pe_int))) (pg_name (i := 3) sc__law_state.nd rfl (Or.inl rfl)) (pss_cons (ps_set (i := 1) sc__law_state.nd rfl (Or.inl rfl) (pe_op op_add (pe_op op_mulI (pv 1) pe_int) (pe_callB call_abs rfl B.abs (by decide +kernel) (pa_cons (pv 3) pa_nil))))
  (pss_one (ps_set (i := 2) sc__law_state.nd rfl (Or.inl rfl) (pe_op op_mod (pe_callTy call_int1 rfl B.int boot_int (pa_cons (pe_op op_add (pe_op op_mulI (pv 2) pe_int) (pv 3)) pa_nil)) pe_int)))))
  (pss_one (ps_ret (pe_lst (pa_cons (pv 1) (pa_cons (pv 2) pa_nil)))))))), ?_⟩
    walk_at "rd"
    refine ⟨_, hS, fun c nc => ?_⟩
    rw [cutV63 hl]
    have hc : SqL K (upd H c (.lst (ns.map V.int))) c (ns.map V.int) := SqL.of upd_same
    refine ⟨⟨_, hc⟩, ForL.mk (xs := ns.map V.int) (fun _ σ H' => ∃ x y z, σ = [some (.ref a), some (.int x), some (.int y), z] ∧ H' = upd H c (.lst (ns.map V.int))) ⟨_, _, _, rfl, rfl⟩ ?_ ?_ ?_⟩
    · rintro i σ H' _ ⟨x, y, z, rfl, rfl⟩
      exact hc
    · rintro i v σ H' hv ⟨x, y, z, rfl, rfl⟩
      rw [List.getElem?_map] at hv
      obtain ⟨n, _, rfl⟩ := Option.map_eq_some_iff.mp hv
      walk_at "rd"
      exact ⟨mulR (by decide), mulR (by decide), by decide, _, rfl⟩
    · rintro σ H' ⟨x, y, z, rfl, rfl⟩
      walk_at "rd"
      refine ⟨by decide, fun p np => q p x y _ ((same_upd nc).trans (same_upd np)) ((same_upd nc).free np) upd_same⟩
/-! ### kinds of values -/
def kinds : List String := ["int", "bool", "NoneType", "str", "tuple", "list"]
theorem kit_k {T c : String} (hT : T ∈ kinds) (hc : c ∈ ["int", "bool", "str", "tuple"]) : kitB T c = some (T == c || (T == "bool" && c == "int")) := by
  unfold kinds at hT
  simp only [List.mem_cons, List.not_mem_nil, or_false] at hT hc
  rcases hT with rfl | rfl | rfl | rfl | rfl | rfl <;> rcases hc with rfl | rfl | rfl | rfl <;> decide +kernel
abbrev s_is_integer : Stmt := top 7
theorem sc_is_integer : FnScope ["value"] ["value"] (defScope s_is_integer) := ⟨rfl, rfl, rfl, by decide +kernel, rfl, by decide +kernel, by decide +kernel⟩

def spInt (K : PySem.W.Frag) : Sp := fun vs H Q _ => ∃ (v : V) (T : String), vs = [v] ∧ TyX K H v (.type T) ∧ T ∈ kinds ∧ Q (.bl (T == "int")) H
theorem cal_is_integer (D : Dn K mg "is_integer" s_is_integer ["value"]) (B : Bl mg) : Cal P w K mg base "is_integer" 1 ["value"] (spInt K) := by
  refine D.cal sc_is_integer (fun vs H Q E h => ?_) (fun f cdv A outer s H vs Q E hr h => ?_)
  · obtain ⟨v, T, rfl, _⟩ := h
    rfl
  · obtain ⟨v, T, rfl, ty, hT, q⟩ := h
    refine ⟨_, (pss_one (ps_ret (pe_and (pe_callB call_isi rfl B.isinstance (by decide +kernel) (pa_cons (pv 0) (pa_cons (pe_bltn (v := .ty "int") rfl B.int boot_int rfl) pa_nil))) (pe_one (pe_not (pe_callB call_isi rfl B.isinstance (by decide +kernel) (pa_cons (pv 0) (pa_cons (pe_bltn (v := .ty "bool") rfl B.bool boot_bool rfl) pa_nil)))))))), ?_⟩
    walk_at "rd"
    refine isi_mk ty (kit_k hT (by simp)) ⟨_, rfl, ite2 (fun h => ?_) (fun h => ?_)⟩
    · refine isi_mk ty (kit_k hT (by simp)) ⟨_, rfl, ?_⟩
      rw [show (!(T == "bool" || (T == "bool" && "bool" == "int"))) = (T == "int") from ?_]
      · exact q
      · unfold kinds at hT
        simp only [List.mem_cons, List.not_mem_nil, or_false] at hT
        rcases hT with rfl | rfl | rfl | rfl | rfl | rfl <;> revert h <;> decide +kernel
    · rw [show false = (T == "int") from ?_]
      · exact q
      · unfold kinds at hT
        simp only [List.mem_cons, List.not_mem_nil, or_false] at hT
        rcases hT with rfl | rfl | rfl | rfl | rfl | rfl <;> revert h <;> decide +kernel
abbrev s__law_whole : Stmt := top 53
theorem sc__law_whole : FnScope ["value"] ["value"] (defScope s__law_whole) := ⟨rfl, rfl, rfl, by decide +kernel, rfl, by decide +kernel, by decide +kernel⟩

theorem cal_whole (D : Dn K mg "_law_whole" s__law_whole ["value"]) (B : Bl mg) : Cal P w K mg base "_law_whole" 1 ["value"] (spInt K) := by
  refine D.cal sc__law_whole (fun vs H Q E h => ?_) (fun f cdv A outer s H vs Q E hr h => ?_)
  · obtain ⟨v, T, rfl, _⟩ := h
    rfl
  · obtain ⟨v, T, rfl, ty, hT, q⟩ := h
    refine ⟨_, (pss_one (ps_ret (pe_and (pe_callB call_isi rfl B.isinstance (by decide +kernel) (pa_cons (pv 0) (pa_cons (pe_bltn (v := .ty "int") rfl B.int boot_int rfl) pa_nil))) (pe_one (pe_not (pe_callB call_isi rfl B.isinstance (by decide +kernel) (pa_cons (pv 0) (pa_cons (pe_bltn (v := .ty "bool") rfl B.bool boot_bool rfl) pa_nil)))))))), ?_⟩
    walk_at "rd"
    refine isi_mk ty (kit_k hT (by simp)) ⟨_, rfl, ite2 (fun h => ?_) (fun h => ?_)⟩
    · refine isi_mk ty (kit_k hT (by simp)) ⟨_, rfl, ?_⟩
      rw [show (!(T == "bool" || (T == "bool" && "bool" == "int"))) = (T == "int") from ?_]
      · exact q
      · unfold kinds at hT
        simp only [List.mem_cons, List.not_mem_nil, or_false] at hT
        rcases hT with rfl | rfl | rfl | rfl | rfl | rfl <;> revert h <;> decide +kernel
    · rw [show false = (T == "int") from ?_]
      · exact q
      · unfold kinds at hT
        simp only [List.mem_cons, List.not_mem_nil, or_false] at hT
        rcases hT with rfl | rfl | rfl | rfl | rfl | rfl <;> revert h <;> decide +kernel
end

section
variable {P : Program} {w : World} {K : PySem.W.Frag} {mg : Str → Option Value} {base : Heap} {CM CR : Addr}
/-! ### values of any kind, told by the heap -/
/-- tuples are kept, and all lists but the one at st -/
def Kp (st : Addr) (H H' : Hp) : Prop := (∀ b us, H b = some (.tup us) → H' b = some (.tup us)) ∧ ∀ b us, b ≠ st → H b = some (.lst us) → H' b = some (.lst us)
/-- all but the list at st is kept -/
def But (st : Addr) (H H' : Hp) : Prop := ∀ b o, b ≠ st → H b = some o → H' b = some o
theorem But.refl {st : Addr} {H : Hp} : But st H H := fun _ _ _ e => e
theorem But.trans {st : Addr} {H H1 H2 : Hp} (a : But st H H1) (b : But st H1 H2) : But st H H2 := fun c o n e => b c o n (a c o n e)
theorem But.same {st : Addr} {H H1 H2 : Hp} (a : But st H H1) (b : Same H1 H2) : But st H H2 := fun c o n e => b c o (a c o n e)
theorem But.of {st : Addr} {H H1 : Hp} (b : Same H H1) : But st H H1 := fun c o n e => b c o e
theorem But.upd {st : Addr} {H H1 : Hp} {o : HO} (a : But st H H1) : But st H (upd H1 st o) := fun c o n e => by
  rw [upd_ne n]
  exact a c o n e
theorem Kp.refl {st : Addr} {H : Hp} : Kp st H H := ⟨fun _ _ e => e, fun _ _ _ e => e⟩
theorem Kp.of {st : Addr} {H H' : Hp} (s : Same H H') : Kp st H H' := ⟨fun _ _ e => s _ _ e, fun _ _ _ e => s _ _ e⟩
theorem But.kp {st : Addr} {H H' : Hp} {l : List V} (s : But st H H') (hs : H st = some (.lst l)) : Kp st H H' := ⟨fun _ _ e => s _ _ (ne_of e hs (by intro z; cases z)) e, fun _ _ n e => s _ _ n e⟩
theorem Kp.trans {st : Addr} {H H1 H2 : Hp} (a : Kp st H H1) (b : Kp st H1 H2) : Kp st H H2 := ⟨fun _ _ e => b.1 _ _ (a.1 _ _ e), fun _ _ n e => b.2 _ _ n (a.2 _ _ n e)⟩
def kdV : V → String
  | .bl _ => "bool"
  | .non => "NoneType"
  | .str _ => "str"
  | _ => "int"
def flV : V → Bool
  | .int _ => true
  | .bl _ => true
  | .non => true
  | .str _ => true
  | _ => false
/-- v is of the kind T -/
def KdH (st : Addr) (H : Hp) (v : V) (T : String) : Prop := (flV v = true ∧ T = kdV v) ∨ ∃ p, v = .ref p ∧ ((p ≠ st ∧ T = "list" ∧ ∃ l, H p = some (.lst l)) ∨ (T = "tuple" ∧ ∃ l, H p = some (.tup l)))
theorem KdH.ty {st : Addr} {H : Hp} {v : V} {T : String} (h : KdH st H v T) : TyX K H v (.type T) ∧ T ∈ kinds := by
  rcases h with ⟨hf, rfl⟩ | ⟨p, rfl, ⟨_, rfl, l, e⟩ | ⟨rfl, l, e⟩⟩
  · cases v with
    | int n => exact ⟨.base (.int _), by show "int" ∈ kinds; decide⟩
    | bl b => exact ⟨.base (.bl _), by show "bool" ∈ kinds; decide⟩
    | non => exact ⟨.base .non, by show "NoneType" ∈ kinds; decide⟩
    | str s => exact ⟨.base (.str _), by show "str" ∈ kinds; decide⟩
    | _ => cases hf
  · exact ⟨.base (.lst e), by decide⟩
  · exact ⟨.base (.tup e), by decide⟩
theorem KdH.kp {st : Addr} {H H' : Hp} {v : V} {T : String} (s : Kp st H H') (h : KdH st H v T) : KdH st H' v T := by
  rcases h with h | ⟨p, rfl, ⟨n, rfl, l, e⟩ | ⟨rfl, l, e⟩⟩
  · exact .inl h
  · exact .inr ⟨p, rfl, .inl ⟨n, rfl, l, s.2 _ _ n e⟩⟩
  · exact .inr ⟨p, rfl, .inr ⟨rfl, l, s.1 _ _ e⟩⟩
def ItsH (st : Addr) (H : Hp) (xs : List V) (ts : List String) : Prop := ts.length = xs.length ∧ ∀ (i : Nat) (x : V) (t : String), xs[i]? = some x → ts[i]? = some t → KdH st H x t
theorem ItsH.kp {st : Addr} {H H' : Hp} {xs : List V} {ts : List String} (s : Kp st H H') (h : ItsH st H xs ts) : ItsH st H' xs ts := ⟨h.1, fun i x t hx ht => (h.2 i x t hx ht).kp s⟩
theorem itsH_flat {st : Addr} {H : Hp} {xs : List V} (h : xs.all flV = true) : ItsH st H xs (xs.map kdV) := by
  refine ⟨List.length_map _, fun i x t hx ht => ?_⟩
  rw [List.getElem?_map, hx] at ht
  cases ht
  exact .inl ⟨List.all_eq_true.mp h x (List.mem_of_getElem? hx), rfl⟩
theorem itsH_one {st : Addr} {H : Hp} {p : Addr} {xs : List V} (h : H p = some (.tup xs)) : ItsH st H [V.ref p] ["tuple"] := by
  refine ⟨rfl, fun i x t hx ht => ?_⟩
  match i, hx, ht with
  | 0, hx, ht =>
    cases hx
    cases ht
    exact .inr ⟨p, rfl, .inr ⟨rfl, _, h⟩⟩
  | n + 1, hx, ht => simp at hx
/-- no row of n integers -/
def BadH (n : Nat) (st : Addr) (H : Hp) (v : V) : Prop := (∃ T, KdH st H v T ∧ (T == "tuple") = false) ∨ ∃ (p : Addr) (xs : List V) (ts : List String), v = .ref p ∧ H p = some (.tup xs) ∧ ItsH st H xs ts ∧ xs.length < 1000 ∧ (xs.length ≠ n ∨ ts.all (· == "int") = false)
theorem BadH.kp {n : Nat} {st : Addr} {H H' : Hp} {v : V} (s : Kp st H H') (h : BadH n st H v) : BadH n st H' v := by
  rcases h with ⟨T, h, e⟩ | ⟨p, xs, ts, rfl, hp, hI, hl, hb⟩
  · exact .inl ⟨T, h.kp s, e⟩
  · exact .inr ⟨p, xs, ts, rfl, s.1 _ _ hp, hI.kp s, hl, hb⟩
end

/-! ### whole roots -/
def isq (n : Int) : Int := ((Float64.isqrt n.toNat : Nat) : Int)
theorem isq_nn (n : Int) : 0 ≤ isq n := Int.natCast_nonneg _
theorem isq_le {n : Int} (h : 0 ≤ n) : isq n * isq n ≤ n := by
  have a := (isqrt_spec n.toNat).1
  have b : ((Float64.isqrt n.toNat * Float64.isqrt n.toNat : Nat) : Int) ≤ ((n.toNat : Nat) : Int) := Int.ofNat_le.mpr a
  rw [Int.natCast_mul] at b
  unfold isq
  omega
theorem isq_lt {n : Int} (h : 0 ≤ n) : n < (isq n + 1) * (isq n + 1) := by
  have a := (isqrt_spec n.toNat).2
  have b : ((n.toNat : Nat) : Int) < (((Float64.isqrt n.toNat + 1) * (Float64.isqrt n.toNat + 1) : Nat) : Int) := Int.ofNat_lt.mpr a
  rw [Int.natCast_mul, Int.natCast_add] at b
  unfold isq
  have e : ((1 : Nat) : Int) = 1 := rfl
  rw [e] at b
  omega
theorem sq_lt {r s : Int} (hr : 0 ≤ r) (h : r * r < (s + 1) * (s + 1)) (hs : 0 ≤ s) : r ≤ s := by
  rcases Int.lt_or_le s r with q | q
  · have a : (s + 1) * (s + 1) ≤ r * r := Int.mul_le_mul (by omega) (by omega) (by omega) hr
    omega
  · exact q
theorem isq_uniq {n r : Int} (hr : 0 ≤ r) (h1 : r * r ≤ n) (h2 : n < (r + 1) * (r + 1)) : isq n = r := by
  have hn : 0 ≤ n := Int.le_trans (Int.mul_nonneg hr hr) h1
  have a := sq_lt hr (Int.lt_of_le_of_lt h1 (isq_lt hn)) (isq_nn n)
  have b := sq_lt (isq_nn n) (Int.lt_of_le_of_lt (isq_le hn) h2) hr
  omega
theorem isq_iff {n a : Int} (hn : 0 ≤ n) (ha : 0 ≤ a) : a * a ≤ n ↔ a ≤ isq n := by
  refine ⟨fun h => sq_lt ha (Int.lt_of_le_of_lt h (isq_lt hn)) (isq_nn n), fun h => ?_⟩
  exact Int.le_trans (Int.mul_le_mul h h ha (isq_nn n)) (isq_le hn)
theorem isq_self {n : Int} (h0 : 0 ≤ n) (h : n < 2) : isq n = n := by
  have e : n = 0 ∨ n = 1 := by omega
  rcases e with rfl | rfl
  · exact isq_uniq (by omega) (by omega) (by omega)
  · exact isq_uniq (by omega) (by omega) (by omega)
theorem isq_bd {n c : Int} (hn : 0 ≤ n) (hc : 0 ≤ c) (h : n < (c + 1) * (c + 1)) : isq n ≤ c := sq_lt (isq_nn n) (Int.lt_of_le_of_lt (isq_le hn) h) hc
/-- a bound that omega doesn't read -/
def BIG : Int := 2 ^ 3000
theorem BIG_pos : 1000000000000 < BIG := by decide +kernel
theorem BIG_big : BIG < 2 ^ 13000 := by decide +kernel
theorem bigAbs {i : Int} (h1 : -(16 * BIG) < i) (h2 : i < 16 * BIG) : i.natAbs < 2 ^ 3004 := by
  have e : (16 * BIG : Int) = ((2 ^ 3004 : Nat) : Int) := by decide +kernel
  rw [e] at h1 h2
  omega
theorem mulBig {i j : Int} (h1 : -(16 * BIG) < i) (h2 : i < 16 * BIG) (h3 : -(16 * BIG) < j) (h4 : j < 16 * BIG) : IntMulOk i j :=
  (wide_mul (bigAbs h1 h2) (bigAbs h3 h4) (by decide) (by decide) (by decide)).ok
theorem low_le {a n : Int} (h0 : 0 ≤ a) (h : a * a ≤ n) : a ≤ n := by
  rcases Int.lt_or_le 0 a with q | q
  · have := Int.mul_le_mul (show 1 ≤ a by omega) (Int.le_refl a) h0 h0
    omega
  · have e : a = 0 := by omega
    rw [e] at h
    omega
theorem small_size {n : Nat} (h : n ≤ 10000000) : n < sizeLine := by rw [PySem.sizeLine_eq]; omega
theorem iabs (i : Int) : (if i < 0 then -i else i) = (i.natAbs : Int) := by
  split <;> omega

/-! ### discriminants -/
def sqB (n : Int) : Bool := decide (0 ≤ n ∧ isq n * isq n = n)
def discB (n : Int) : Bool := decide (n % 4 = 0 ∨ n % 4 = 1) && !sqB n
theorem isq_neg {n : Int} (h : n < 0) : sqB n = false := decide_eq_false fun z => by omega
theorem isq_big {n : Int} (h0 : 0 ≤ n) (h : n < BIG) : (isq n).natAbs < 2 ^ 3004 := by
  have a := low_le (isq_nn n) (isq_le h0)
  have b := isq_nn n
  have c := BIG_pos
  exact bigAbs (by omega) (by omega)
section
variable {P : Program} {w : World} {K : PySem.W.Frag} {mg : Str → Option Value} {base : Heap} {CM CR : Addr}
abbrev s_is_square : Stmt := top 12
theorem sc_is_square : FnScope ["n"] ["n"] (defScope s_is_square) := ⟨rfl, rfl, rfl, by decide +kernel, rfl, by decide +kernel, by decide +kernel⟩

def spSq : Sp := fun vs H Q _ => ∃ n : Int, vs = [.int n] ∧ n < BIG ∧ Q (.bl (sqB n)) H
theorem cal_is_square (D : Dn K mg "is_square" s_is_square ["n"]) (B : Bl mg) : Cal P w K mg base "is_square" 1 ["n"] spSq := by
  refine D.cal sc_is_square (fun vs H Q E h => ?_) (fun f cdv A outer s H vs Q E hr h => ?_)
  · obtain ⟨n, rfl, _⟩ := h
    rfl
  · obtain ⟨n, rfl, h1, q⟩ := h
    refine ⟨_, (pss_one (ps_ret (pe_and (pe_cmpR op_ge (pv 0) pe_int (nomark _)) (pe_one (pe_cmpR op_eq (pe_op op_powI (pe_callBfun cr_isqrt rfl B.isqrt (pa_cons (pv 0) pa_nil)) pe_int) (pv 0) (nomark _)))))), ?_⟩
    walk_at "rd"
    refine ite2 (fun h0 => ⟨h0, Int.lt_trans h1 BIG_big, powI (n := 3004) (isq_big h0 h1) (by decide) (by decide) (by decide), ?_⟩) (fun h0 => ?_)
    · have e : decide (isq n ^ (2 : Int).toNat = n) = sqB n := by
        unfold sqB
        rw [show (2 : Int).toNat = 2 from rfl, Int.pow_succ, Int.pow_succ, Int.pow_zero, Int.one_mul]
        by_cases c : isq n * isq n = n
        · rw [decide_eq_true c, decide_eq_true ⟨h0, c⟩]
        · rw [decide_eq_false c, decide_eq_false fun z => c z.2]
      show Q (.bl (decide (isq n ^ (2 : Int).toNat = n))) H
      rw [e]
      exact q
    · rw [isq_neg (by omega)] at q
      exact q
abbrev s_is_discriminant : Stmt := top 18
theorem sc_is_discriminant : FnScope ["value"] ["value"] (defScope s_is_discriminant) := ⟨rfl, rfl, rfl, by decide +kernel, rfl, by decide +kernel, by decide +kernel⟩

/-- no integer, or one that is no discriminant -/
def NotD (K : PySem.W.Frag) (H : Hp) (v : V) : Prop := (∃ T, TyX K H v (.type T) ∧ T ∈ kinds ∧ (T == "int") = false) ∨ ∃ n : Int, v = .int n ∧ n < BIG ∧ discB n = false
def spDisc (K : PySem.W.Frag) : Sp := fun vs H Q _ => ∃ v : V, vs = [v] ∧ ((NotD K H v ∧ ∀ H', Same H H' → Q (.bl false) H') ∨ ∃ n : Int, v = .int n ∧ n < BIG ∧ discB n = true ∧ ∀ H', Same H H' → Q (.bl true) H')
theorem in01 (n : Int) : inV (.int (n % 4)) [V.int 0, V.int 1] = decide (n % 4 = 0 ∨ n % 4 = 1) := by
  have e1 : inV (.int (n % 4)) [V.int 0, V.int 1] = ((0 : Int) == n % 4 || ((1 : Int) == n % 4 || false)) := rfl
  rw [e1]
  by_cases c1 : n % 4 = 0
  · simp [c1]
  · by_cases c2 : n % 4 = 1
    · simp [c2]
    · have d1 : ¬ (0 : Int) = n % 4 := fun z => c1 z.symm
      have d2 : ¬ (1 : Int) = n % 4 := fun z => c2 z.symm
      simp [c1, c2, d1, d2]
theorem cal_is_disc (D : Dn K mg "is_discriminant" s_is_discriminant ["value"]) (B : Bl mg) (c_is_integer : Cal P w K mg base "is_integer" 1 ["value"] (spInt K)) (c_is_square : Cal P w K mg base "is_square" 1 ["n"] spSq) :
    Cal P w K mg base "is_discriminant" 2 ["value"] (spDisc K) := by
  refine D.cal sc_is_discriminant (fun vs H Q E h => ?_) (fun f cdv A outer s H vs Q E hr h => ?_)
  · obtain ⟨v, rfl, _⟩ := h
    rfl
  · obtain ⟨v, rfl, h⟩ := h
    refine ⟨_, (pss_one (ps_ret (pe_and (pe_cal c_is_integer (hr.mono (by decide)) rfl (pa_cons (pv 0) pa_nil)) (pe_and (pe_cmpR op_in_seq (pe_op op_mod (pv 0) pe_int) (pe_tup (pa_cons pe_int (pa_cons pe_int pa_nil))) (by rfl)) (pe_one (pe_not (pe_cal c_is_square (hr.mono (by decide)) rfl (pa_cons (pv 0) pa_nil)))))))), ?_⟩
    walk_at "rd"
    have go : ∀ n : Int, n < BIG → (∀ H', Same H H' → Q (.bl (discB n)) H') → spInt K [.int n] H (fun x H1 => ∃ c, x = V.bl c ∧ if c = true then (0 < (4 : Int) ∧ 2 ≤ sizeLine ∧ ∀ p, H1 p = none → rIn K false (V.int (n % 4)) (V.ref p) (upd H1 p (HO.tup [V.int 0, V.int 1])) fun x H' => ∃ c, x = V.bl c ∧ if c = true then spSq [V.int n] H' (fun x H1 => ∃ c, x = V.bl c ∧ Q (V.bl !c) H1) E0 else Q (V.bl false) H') else Q (V.bl false) H1) E0 := by
      intro n hn q
      refine ⟨.int n, "int", rfl, .base (.int n), by decide, true, rfl, ?_⟩
      rw [if_pos rfl]
      refine ⟨by decide, by decide, fun p np => ⟨p, _, rfl, .inr (SqT.of upd_same), rfl, rfl, inV (.int (n % 4)) [V.int 0, V.int 1], rfl, ?_⟩⟩
      have s1 : Same H (upd H p (.tup [V.int 0, V.int 1])) := same_upd np
      have q1 := q _ s1
      rw [in01]
      unfold discB at q1
      refine ite2 (fun c => ?_) (fun c => ?_)
      · rw [c, Bool.true_and] at q1
        exact ⟨n, rfl, hn, _, rfl, q1⟩
      · rw [Bool.not_eq_true] at c
        rw [c, Bool.false_and] at q1
        exact q1
    rcases h with ⟨⟨T, ty, hT, hi⟩ | ⟨n, rfl, hn, hd⟩, q⟩ | ⟨n, rfl, hn, hd, q⟩
    · refine ⟨v, T, rfl, ty, hT, false, by rw [hi], ?_⟩
      rw [if_neg Bool.false_ne_true]
      exact q H (Same.refl H)
    · have g := go n hn (fun H' s => by rw [hd]; exact q H' s)
      walk_at "rd"
      exact g
    · have g := go n hn (fun H' s => by rw [hd]; exact q H' s)
      walk_at "rd"
      exact g
end

/-! ### rows and forms recognized -/
section
variable {P : Program} {w : World} {K : PySem.W.Frag} {mg : Str → Option Value} {base : Heap} {CM CR : Addr}
/-- the kinds of a row's items, now and later -/
def Its (K : PySem.W.Frag) (H : Hp) (xs : List V) (ts : List String) : Prop := ts.length = xs.length ∧ ∀ (i : Nat) (x : V) (t : String), xs[i]? = some x → ts[i]? = some t → (∀ H', Same H H' → TyX K H' x (.type t)) ∧ t ∈ kinds
/-- no tuple -/
def NoTup (K : PySem.W.Frag) (H : Hp) (v : V) : Prop := ∃ T, TyX K H v (.type T) ∧ T ∈ kinds ∧ (T == "tuple") = false
abbrev s_is_row : Stmt := top 14
theorem sc_is_row : FnScope ["value", "n", "item"] ["value", "n"] (defScope s_is_row) := ⟨rfl, rfl, rfl, by decide +kernel, rfl, by decide +kernel, by decide +kernel⟩

def spRow (K : PySem.W.Frag) : Sp := fun vs H Q _ => ∃ (v : V) (n : Nat), vs = [v, .int (n : Int)] ∧
  ((NoTup K H v ∧ Q (.bl false) H) ∨
   ∃ (p : Addr) (xs : List V) (ts : List String), v = .ref p ∧ H p = some (.tup xs) ∧ Its K H xs ts ∧ xs.length < 1000 ∧ ∀ H', Same H H' → Q (.bl (decide (xs.length = n) && ts.all (· == "int"))) H')
theorem cal_row (D : Dn K mg "is_row" s_is_row ["value", "n"]) (B : Bl mg) (c_is_integer : Cal P w K mg base "is_integer" 1 ["value"] (spInt K)) : Cal P w K mg base "is_row" 2 ["value", "n"] (spRow K) := by
  refine D.cal sc_is_row (fun vs H Q E h => ?_) (fun f cdv A outer s H vs Q E hr h => ?_)
  · obtain ⟨v, n, rfl, _⟩ := h
    rfl
  · obtain ⟨v, n, rfl, h⟩ := h
    refine ⟨_, (pss_one (ps_ret (pe_and (pe_callB call_isi rfl B.isinstance (by decide +kernel) (pa_cons (pv 0) (pa_cons (pe_bltn (v := .ty "tuple") rfl B.tuple boot_tuple rfl) pa_nil))) (pe_and (pe_cmpR op_eq (pe_callB cr_lenS rfl B.len (by decide +kernel) (pa_cons (pv 0) pa_nil)) (pv 1) (nomark _)) (pe_one (pe_callB (cr_all rfl) rfl B.all (by decide +kernel) (pa_cons (pe_lc (own := [("item", 2)]) rfl sc_is_row.nd (pi_tup (pv 0)) (blkOk_by (N := ["value", "n", "item"]) (sc := defScope s_is_row) (own := [("item", 2)]) (by decide +kernel)) (fun _ _ _ _ _ => (pg_name (i := 2) sc_is_row.nd rfl (Or.inl rfl))) (fun _ _ _ _ _ => pts_nil) (fun _ _ _ _ _ => (pe_cal c_is_integer (hr.mono (by decide)) rfl (pa_cons (pv 2) pa_nil)))) pa_nil))))))), ?_⟩
    walk_at "rd"
    rcases h with ⟨⟨T, ty, hT, hi⟩, q⟩ | ⟨p, xs, ts, rfl, hp, ⟨hl, hty⟩, hx, q⟩
    · refine isi_mk ty (kit_k hT (by simp)) ⟨false, ?_, ?_⟩
      · rw [hi, show ("tuple" == "int") = false by decide, Bool.and_false, Bool.or_false]
      rw [if_neg Bool.false_ne_true]
      exact q
    · refine isi_mk (.base (.tup hp)) (b := true) (by decide +kernel) ⟨true, rfl, ?_⟩
      rw [if_pos rfl]
      refine ⟨xs.length, .inr ⟨_, SqT.of hp, rfl⟩, ite2 (fun c => ?_) (fun c => ?_)⟩
      · have hc : xs.length = n := Int.ofNat_inj.mp c
        refine ⟨p, rfl, ⟨_, SqT.of hp⟩, LcT.w (xs := xs) (fun i D zs H3 => zs = ((ts.take i).map (· == "int")).map V.bl ∧ i ≤ xs.length ∧ Same H H3 ∧ H3 D = some (.lst zs) ∧ H D = none) (fun D nD => ⟨rfl, Nat.zero_le _, same_upd nD, upd_same, nD⟩) ?_ ?_ ?_⟩
        · rintro D i zs H3 _ ⟨_, _, sm, _, _⟩
          exact SqT.of (sm _ _ hp)
        · rintro D i x zs H3 hv ⟨rfl, hi, sm, hD, nD⟩ N hN
          have hix : i < xs.length := (List.getElem?_eq_some_iff.mp hv).1
          obtain ⟨t, ht⟩ : ∃ t, ts[i]? = some t := ⟨ts[i]'(by omega), List.getElem?_eq_getElem (by omega)⟩
          obtain ⟨ty, hk⟩ := hty i x t hv ht
          walk_at "rd"
          refine ⟨x, t, rfl, ty _ sm, hk, _, hD, ?_, hN _ _ ⟨?_, by omega, same_at sm nD, upd_same, nD⟩⟩
          · rw [List.length_map, List.length_map, List.length_take]
            exact small_size (by omega)
          · rw [List.take_add_one, ht, List.map_append, List.map_append]
            rfl
        · rintro D zs H3 nD ⟨rfl, _, sm, hD, _⟩
          rw [← hl, List.take_length] at hD
          refine ⟨D, rfl, _, SqL.of hD, ?_⟩
          have q' := q _ sm
          rw [decide_eq_true hc, Bool.true_and] at q'
          rw [List.all_map]
          exact q'
      · have q' := q _ (Same.refl H)
        rw [decide_eq_false (fun z => c (by rw [z])), Bool.false_and] at q'
        exact q'
abbrev s_is_large : Stmt := top 21
theorem sc_is_large : FnScope ["f", "item"] ["f"] (defScope s_is_large) := ⟨rfl, rfl, rfl, by decide +kernel, rfl, by decide +kernel, by decide +kernel⟩

def B60 : Int := 1000000000000000000000000000000000000000000000000000000000000
def lgB (a b c : Int) : Bool := ([a, b, c].map fun i : Int => decide (B60 ≤ (i.natAbs : Int))).any id
def spLarge : Sp := fun vs H Q _ => ∃ (p : Addr) (a b c : Int), vs = [.ref p] ∧ H p = some (.tup [.int a, .int b, .int c]) ∧ ∀ H', Same H H' → Q (.bl (lgB a b c)) H'
theorem cal_large (D : Dn K mg "is_large" s_is_large ["f"]) (B : Bl mg) : Cal P w K mg base "is_large" 1 ["f"] spLarge := by
  refine D.cal sc_is_large (fun vs H Q E h => ?_) (fun f cdv A outer s H vs Q E hr h => ?_)
  · obtain ⟨p, a, b, c, rfl, _⟩ := h
    rfl
  · obtain ⟨p, a, b, c, rfl, hp, q⟩ := h
    refine ⟨_, (pss_one (ps_ret (pe_callB (cr_any rfl) rfl B.any (by decide +kernel) (pa_cons (pe_lc (own := [("item", 1)]) rfl sc_is_large.nd (pi_tup (pv 0)) (blkOk_by (N := ["f", "item"]) (sc := defScope s_is_large) (own := [("item", 1)]) (by decide +kernel)) (fun _ _ _ _ _ => (pg_name (i := 1) sc_is_large.nd rfl (Or.inl rfl))) (fun _ _ _ _ _ => pts_nil) (fun _ _ _ _ _ => (pe_cmpR op_ge (pe_callB call_abs rfl B.abs (by decide +kernel) (pa_cons (pv 1) pa_nil)) (pe_glob (v := .int 1000000000000000000000000000000000000000000000000000000000000) rfl B.c_ITEM_BOUND.choose_spec ⟨_, rfl⟩) (nomark _)))) pa_nil)))), ?_⟩
    walk_at "rd"
    refine ⟨⟨_, SqT.of hp⟩, LcT.w (xs := ([a, b, c] : List Int).map V.int) (fun i D zs H3 => zs = ((([a, b, c] : List Int).take i).map fun i : Int => decide (B60 ≤ (i.natAbs : Int))).map V.bl ∧ Same H H3 ∧ H3 D = some (.lst zs) ∧ H D = none) (fun D nD => ⟨rfl, same_upd nD, upd_same, nD⟩) ?_ ?_ ?_⟩
    · rintro D i zs H3 _ ⟨_, sm, _, _⟩
      exact SqT.of (sm _ _ hp)
    · rintro D i x zs H3 hv ⟨rfl, sm, hD, nD⟩ N hN
      rw [List.getElem?_map] at hv
      obtain ⟨n, hn, rfl⟩ := Option.map_eq_some_iff.mp hv
      have hi : i < 3 := (List.getElem?_eq_some_iff.mp hn).1
      walk_at "rd"
      refine ⟨_, hD, ?_, hN _ _ ⟨?_, same_at sm nD, upd_same, nD⟩⟩
      · rw [List.length_map, List.length_map, List.length_take]
        exact small_size (by omega)
      · rw [List.take_add_one, hn, List.map_append, List.map_append, iabs]
        rfl
    · rintro D zs H3 nD ⟨rfl, sm, hD, _⟩
      exact ⟨D, rfl, _, SqL.of hD, q _ sm⟩
abbrev s_told_discriminant : Stmt := top 25
theorem sc_told_discriminant : FnScope ["f", "a", "b", "c"] ["f"] (defScope s_told_discriminant) := ⟨rfl, rfl, rfl, by decide +kernel, rfl, by decide +kernel, by decide +kernel⟩

def spTDisc : Sp := fun vs H Q _ => ∃ (p : Addr) (a b c : Int), vs = [.ref p] ∧ H p = some (.tup [.int a, .int b, .int c]) ∧ IntMulOk b b ∧ IntMulOk (4 * a) c ∧ Q (.int (b * b - 4 * a * c)) H
theorem cal_tdisc (D : Dn K mg "told_discriminant" s_told_discriminant ["f"]) (B : Bl mg) : Cal P w K mg base "told_discriminant" 1 ["f"] spTDisc := by
  refine D.cal sc_told_discriminant (fun vs H Q E h => ?_) (fun f cdv A outer s H vs Q E hr h => ?_)
  · obtain ⟨p, a, b, c, rfl, _⟩ := h
    rfl
  · obtain ⟨p, a, b, c, rfl, hp, m1, m2, q⟩ := h
    refine ⟨_, (pss_cons (ps_asg (pv 0) (pg_tup rfl (pgs_cons (pg_name (i := 1) sc_told_discriminant.nd rfl (Or.inl rfl)) (pgs_cons (pg_name (i := 2) sc_told_discriminant.nd rfl (Or.inl rfl)) (pgs_cons (pg_name (i := 3) sc_told_discriminant.nd rfl (Or.inl rfl)) pgs_nil)))))
  (pss_one (ps_ret (pe_op op_sub (pe_op op_mulI (pv 2) (pv 2)) (pe_op op_mulI (pe_op op_mulI pe_int (pv 1)) (pv 3)))))), ?_⟩
    walk_at "rd"
    exact ⟨_, SqT.of hp, rfl, _, _, rfl, _, _, rfl, _, _, rfl, rfl, b, rfl, b, rfl, m1, a, rfl, mulL (by decide), c, rfl, m2, q⟩
abbrev s_is_form : Stmt := top 19
theorem sc_is_form : FnScope ["value", "D"] ["value"] (defScope s_is_form) := ⟨rfl, rfl, rfl, by decide +kernel, rfl, by decide +kernel, by decide +kernel⟩

def dsc (a b c : Int) : Int := b * b - 4 * a * c
def formB (a b c : Int) : Bool := !lgB a b c && (discB (dsc a b c) && decide (0 < dsc a b c ∨ 0 < a))
theorem lgB_no {a b c : Int} (h : lgB a b c = false) : (a.natAbs : Int) < B60 ∧ (b.natAbs : Int) < B60 ∧ (c.natAbs : Int) < B60 := by
  unfold lgB at h
  simp only [List.map_cons, List.map_nil, List.any_cons, List.any_nil, id, Bool.or_eq_false_iff, decide_eq_false_iff_not] at h
  omega
theorem B60_sq : 8 * (B60 * B60) < BIG ∧ 4 * B60 < 16 * BIG := by decide +kernel
theorem abs_mul {x y : Int} (hx : (x.natAbs : Int) < B60) (hy : (y.natAbs : Int) < B60) : ((x * y).natAbs : Int) ≤ B60 * B60 := by
  rw [Int.natAbs_mul, Int.natCast_mul]
  exact Int.mul_le_mul (by omega) (by omega) (by omega) (by unfold B60; omega)
theorem dsc_bd {a b c : Int} (ha : (a.natAbs : Int) < B60) (hb : (b.natAbs : Int) < B60) (hc : (c.natAbs : Int) < B60) : IntMulOk b b ∧ IntMulOk (4 * a) c ∧ dsc a b c < BIG ∧ -BIG < dsc a b c := by
  have e := B60_sq
  have hbb := abs_mul hb hb
  have hac := abs_mul ha hc
  have e2 : 4 * a * c = 4 * (a * c) := Int.mul_assoc _ _ _
  have bp := BIG_pos
  unfold dsc
  rw [e2]
  generalize b * b = u at *
  generalize a * c = v at *
  generalize B60 * B60 = q at *
  exact ⟨mulBig (by omega) (by omega) (by omega) (by omega), mulBig (by omega) (by omega) (by omega) (by omega), by omega, by omega⟩
/-- what is no row of three integers -/
def BadF (K : PySem.W.Frag) (H : Hp) (v : V) : Prop := NoTup K H v ∨ ∃ (p : Addr) (xs : List V) (ts : List String), v = .ref p ∧ H p = some (.tup xs) ∧ Its K H xs ts ∧ xs.length < 1000 ∧ (xs.length ≠ 3 ∨ ts.all (· == "int") = false)
theorem its3 {H : Hp} {a b c : Int} : Its K H [.int a, .int b, .int c] ["int", "int", "int"] := by
  refine ⟨rfl, fun i x t hx ht => ?_⟩
  match i, hx, ht with
  | 0, hx, ht => cases hx; cases ht; exact ⟨fun _ _ => .base (.int _), by decide⟩
  | 1, hx, ht => cases hx; cases ht; exact ⟨fun _ _ => .base (.int _), by decide⟩
  | 2, hx, ht => cases hx; cases ht; exact ⟨fun _ _ => .base (.int _), by decide⟩
  | n + 3, hx, ht => simp at hx
def spForm (K : PySem.W.Frag) : Sp := fun vs H Q _ => ∃ v : V, vs = [v] ∧ ((BadF K H v ∧ ∀ H', Same H H' → Q (.bl false) H') ∨ ∃ (p : Addr) (a b c : Int), v = .ref p ∧ H p = some (.tup [.int a, .int b, .int c]) ∧ ∀ H', Same H H' → Q (.bl (formB a b c)) H')
theorem cal_form (D : Dn K mg "is_form" s_is_form ["value"]) (B : Bl mg) (c_is_row : Cal P w K mg base "is_row" 2 ["value", "n"] (spRow K)) (c_is_large : Cal P w K mg base "is_large" 1 ["f"] spLarge) (c_told_discriminant : Cal P w K mg base "told_discriminant" 1 ["f"] spTDisc)
    (c_is_discriminant : Cal P w K mg base "is_discriminant" 2 ["value"] (spDisc K)) : Cal P w K mg base "is_form" 3 ["value"] (spForm K) := by
  refine D.cal sc_is_form (fun vs H Q E h => ?_) (fun f cdv A outer s H vs Q E hr h => ?_)
  · obtain ⟨v, rfl, _⟩ := h
    rfl
  · obtain ⟨v, rfl, h⟩ := h
    refine ⟨_, (pss_cons (ps_if (PW.pt (pw_or (pt_not (pt_val (pe_cal c_is_row (hr.mono (by decide)) rfl (pa_cons (pv 0) (pa_cons pe_int pa_nil))))) (pw_or1 (pt_val (pe_cal c_is_large (hr.mono (by decide)) rfl (pa_cons (pv 0) pa_nil)))))) (pss_one (ps_ret pe_bl)) pss_nil)
  (pss_cons (ps_set (i := 1) sc_is_form.nd rfl (Or.inl rfl) (pe_cal c_told_discriminant (hr.mono (by decide)) rfl (pa_cons (pv 0) pa_nil)))
  (pss_one (ps_ret (pe_and (pe_cal c_is_discriminant (hr.mono (by decide)) rfl (pa_cons (pv 1) pa_nil)) (pe_one (pe_or (pe_cmpR op_gt (pv 1) pe_int (nomark _)) (pe_one (pe_cmpR op_gt (pe_ix ix_tup (pv 0) pe_int (fun _ _ => rfl)) pe_int (nomark _)))))))))), ?_⟩
    walk_at "rd"
    rcases h with ⟨nt | ⟨p, xs, ts, rfl, hp, hI, hl, hb⟩, q⟩ | ⟨p, a, b, c, rfl, hp, q⟩
    · exact ⟨v, 3, rfl, .inl ⟨nt, false, rfl, by rw [if_pos (by decide)]; exact q _ (Same.refl H)⟩⟩
    · refine ⟨.ref p, 3, rfl, .inr ⟨p, xs, ts, rfl, hp, hI, hl, fun H' sm => ⟨_, rfl, ?_⟩⟩⟩
      have e : (decide (xs.length = 3) && ts.all (· == "int")) = false := by
        rcases hb with h | h
        · rw [decide_eq_false h, Bool.false_and]
        · rw [h, Bool.and_false]
      rw [e, if_pos (by decide)]
      exact q _ sm
    · refine ⟨.ref p, 3, rfl, .inr ⟨p, _, _, rfl, hp, its3, by show 3 < 1000; decide, fun H' sm => ⟨true, rfl, ?_⟩⟩⟩
      rw [if_neg (by decide)]
      refine ⟨p, a, b, c, rfl, sm _ _ hp, fun H2 sm2 => ⟨_, rfl, ?_⟩⟩
      have q1 := q _ (sm.trans sm2)
      unfold formB at q1
      refine ite2 (fun c1 => ?_) (fun c1 => ?_)
      · rw [c1, Bool.not_true, Bool.false_and] at q1
        exact q1
      · rw [Bool.not_eq_true] at c1
        obtain ⟨ba, bb, bc⟩ := lgB_no c1
        obtain ⟨m1, m2, d1, d2⟩ := dsc_bd ba bb bc
        have h2 := sm2 _ _ (sm _ _ hp)
        refine ⟨p, a, b, c, rfl, h2, m1, m2, .int (dsc a b c), rfl, ?_⟩
        have q2 : ∀ H3, Same H2 H3 → Q (.bl (discB (dsc a b c) && decide (0 < dsc a b c ∨ 0 < a))) H3 := fun H3 s3 => by
          have := q _ ((sm.trans sm2).trans s3)
          unfold formB at this
          rw [c1, Bool.not_false, Bool.true_and] at this
          exact this
        cases hd : discB (dsc a b c) with
        | false => exact .inl ⟨.inr ⟨_, rfl, d1, hd⟩, fun H3 s3 => ⟨false, rfl, by rw [if_neg (by decide)]; have := q2 _ s3; rw [hd, Bool.false_and] at this; exact this⟩⟩
        | true =>
          refine .inr ⟨_, rfl, d1, hd, fun H3 s3 => ⟨true, rfl, ?_⟩⟩
          have q3 := q2 _ s3
          rw [hd, Bool.true_and] at q3
          rw [if_pos rfl]
          refine ⟨_, rfl, ite2 (fun c2 => ?_) (fun c2 => ⟨p, rfl, _, SqT.of (s3 _ _ h2), _, rfl, a, rfl, ?_⟩)⟩
          · rw [decide_eq_true (.inl c2)] at q3
            exact q3
          · rw [show decide (0 < dsc a b c ∨ 0 < a) = decide (0 < a) from decide_eq_decide.mpr ⟨fun z => z.resolve_left c2, .inr⟩] at q3
            exact q3
/-- no form -/
def NotF (K : PySem.W.Frag) (H : Hp) (v : V) : Prop := BadF K H v ∨ ∃ (p : Addr) (a b c : Int), v = .ref p ∧ H p = some (.tup [.int a, .int b, .int c]) ∧ formB a b c = false
abbrev s_check_form : Stmt := top 22
theorem sc_check_form : FnScope ["f"] ["f"] (defScope s_check_form) := ⟨rfl, rfl, rfl, by decide +kernel, rfl, by decide +kernel, by decide +kernel⟩

def spChkF (K : PySem.W.Frag) (CM : Addr) : Sp := fun vs H Q E => ∃ v : V, vs = [v] ∧ ((NotF K H v ∧ ∀ H', Same H H' → E (.ref CM) none H') ∨ ∃ (p : Addr) (a b c : Int), v = .ref p ∧ H p = some (.tup [.int a, .int b, .int c]) ∧ formB a b c = true ∧ ∀ H', Same H H' → Q .non H')
theorem cal_chkf (D : Dn K mg "check_form" s_check_form ["f"]) (B : Bl mg) (c_is_form : Cal P w K mg base "is_form" 3 ["value"] (spForm K)) (e_E : ErrI P w K mg base CM CR) :
    CalX P w K mg base "check_form" 4 ["f"] (spChkF K CM) := by
  refine D.calX sc_check_form (fun vs H Q E h => ?_) (fun f cdv A outer s H vs Q E hr h => ?_)
  · obtain ⟨v, rfl, _⟩ := h
    rfl
  · obtain ⟨v, rfl, h⟩ := h
    refine ⟨_, (pss_one (ps_if (pt_not (pt_val (pe_cal c_is_form (hr.mono (by decide)) rfl (pa_cons (pv 0) pa_nil)))) (pss_one (ps_mal e_E.m rfl (takes_of rfl rfl rfl rfl) rfl)) pss_nil)), ?_⟩
    walk_at "rd"
    refine ⟨v, rfl, ?_⟩
    rcases h with ⟨hb | ⟨p, a, b, c, rfl, hp, hf⟩, q⟩ | ⟨p, a, b, c, rfl, hp, hf, q⟩
    · exact .inl ⟨hb, fun H' sm => ⟨false, rfl, by rw [if_pos (by decide)]; exact q H' sm⟩⟩
    · exact .inr ⟨p, a, b, c, rfl, hp, fun H' sm => ⟨_, rfl, by rw [hf, if_pos (by decide)]; exact q H' sm⟩⟩
    · exact .inr ⟨p, a, b, c, rfl, hp, fun H' sm => ⟨_, rfl, by rw [hf, if_neg (by decide)]; exact q H' sm⟩⟩
end
/-! ### forms moved by matrices, products of matrices -/
section
variable {P : Program} {w : World} {K : PySem.W.Frag} {mg : Str → Option Value} {base : Heap} {CM CR : Addr}
/-- small enough for any product here -/
def Sz (n : Nat) (x : Int) : Prop := x.natAbs < 2 ^ n
theorem Sz.mul {m n : Nat} {x y : Int} (h : Sz m x) (h' : Sz n y) : Sz (m + n) (x * y) := by
  unfold Sz at *
  rw [Int.natAbs_mul, Nat.pow_add]
  exact Nat.mul_lt_mul'' h h'
theorem Sz.add {m : Nat} {x y : Int} (h : Sz m x) (h' : Sz m y) : Sz (m + 1) (x + y) := by
  unfold Sz at *
  rw [Nat.pow_succ]
  omega
theorem Sz.sub {m : Nat} {x y : Int} (h : Sz m x) (h' : Sz m y) : Sz (m + 1) (x - y) := by
  unfold Sz at *
  rw [Nat.pow_succ]
  omega
theorem Sz.neg {m : Nat} {x : Int} (h : Sz m x) : Sz m (-x) := by
  unfold Sz at *
  omega
theorem Sz.le {m n : Nat} {x : Int} (h : Sz m x) (hmn : m ≤ n) : Sz n x := Nat.lt_of_lt_of_le h (Nat.pow_le_pow_right (by decide) hmn)
theorem Sz.ok {m n : Nat} {x y : Int} (h : Sz m x) (h' : Sz n y) (hm : m ≤ 3000) (hn : n ≤ 3000) : IntMulOk x y :=
  (wide_mul (a := 3000) (b := 3000) (h.le hm) (h'.le hn) (by decide) (by decide) (by decide)).ok
theorem sz_lit : Sz 3 2 ∧ Sz 3 4 := by unfold Sz; decide
abbrev valF (a b c x y : Int) : Int := a * x * x + b * x * y + c * y * y
abbrev midF (a b c p q r s : Int) : Int := 2 * a * p * q + b * (p * s + q * r) + 2 * c * r * s
abbrev s__law_value : Stmt := top 54
theorem sc__law_value : FnScope ["f", "x", "y"] ["f", "x", "y"] (defScope s__law_value) := ⟨rfl, rfl, rfl, by decide +kernel, rfl, by decide +kernel, by decide +kernel⟩

def spVal : Sp := fun vs H Q _ => ∃ (f : Addr) (a b c x y : Int), vs = [.ref f, .int x, .int y] ∧ H f = some (.tup [.int a, .int b, .int c]) ∧ Sz 900 a ∧ Sz 900 b ∧ Sz 900 c ∧ Sz 900 x ∧ Sz 900 y ∧ Q (.int (valF a b c x y)) H
theorem cal_value (D : Dn K mg "_law_value" s__law_value ["f", "x", "y"]) (B : Bl mg) : Cal P w K mg base "_law_value" 1 ["f", "x", "y"] spVal := by
  refine D.cal sc__law_value (fun vs H Q E h => ?_) (fun f cdv A outer s H vs Q E hr h => ?_)
  · obtain ⟨f, a, b, c, x, y, rfl, _⟩ := h
    rfl
  · obtain ⟨f, a, b, c, x, y, rfl, hf, sa, sb, sc, sx, sy, q⟩ := h
    refine ⟨_, (pss_one (ps_ret (pe_op op_add (pe_op op_add (pe_op op_mulI (pe_op op_mulI (pe_ix ix_tup (pv 0) pe_int (fun _ _ => rfl)) (pv 1)) (pv 1)) (pe_op op_mulI (pe_op op_mulI (pe_ix ix_tup (pv 0) pe_int (fun _ _ => rfl)) (pv 1)) (pv 2))) (pe_op op_mulI (pe_op op_mulI (pe_ix ix_tup (pv 0) pe_int (fun _ _ => rfl)) (pv 2)) (pv 2))))), ?_⟩
    walk_at "rd"
    have F := SqT.of (K := K) hf
    exact ⟨_, F, _, rfl, a, rfl, sa.ok sx (by decide) (by decide), (sa.mul sx).ok sx (by decide) (by decide), _, F, _, rfl, b, rfl, sb.ok sx (by decide) (by decide), (sb.mul sx).ok sy (by decide) (by decide), _, F, _, rfl, c, rfl, sc.ok sy (by decide) (by decide), (sc.mul sy).ok sy (by decide) (by decide), q⟩
abbrev s__law_moved : Stmt := top 55
theorem sc__law_moved : FnScope ["f", "m", "p", "q", "r", "s", "middle"] ["f", "m"] (defScope s__law_moved) := ⟨rfl, rfl, rfl, by decide +kernel, rfl, by decide +kernel, by decide +kernel⟩

theorem atM {H : Hp} {r : Addr} {m : M4} (h : IsM H (.ref r) m) : ∃ r1 r2, H r = some (.tup [.ref r1, .ref r2]) ∧ H r1 = some (.tup [.int m.1.1, .int m.1.2]) ∧ H r2 = some (.tup [.int m.2.1, .int m.2.2]) := by
  obtain ⟨r', r1, r2, e, h1, h2, h3⟩ := h
  cases e
  exact ⟨r1, r2, h1, h2, h3⟩
def SzM (n : Nat) (m : M4) : Prop := Sz n m.1.1 ∧ Sz n m.1.2 ∧ Sz n m.2.1 ∧ Sz n m.2.2
abbrev movT (a b c : Int) (m : M4) : T3 := (valF a b c m.1.1 m.2.1, midF a b c m.1.1 m.1.2 m.2.1 m.2.2, valF a b c m.1.2 m.2.2)
def spMov : Sp := fun vs H Q _ => ∃ (f g : Addr) (a b c : Int) (m : M4), vs = [.ref f, .ref g] ∧ H f = some (.tup [.int a, .int b, .int c]) ∧ IsM H (.ref g) m ∧ Sz 700 a ∧ Sz 700 b ∧ Sz 700 c ∧ SzM 700 m ∧
  ∀ p, H p = none → Q (.ref p) (upd H p (.tup [.int (movT a b c m).1, .int (movT a b c m).2.1, .int (movT a b c m).2.2]))
theorem cal_moved (D : Dn K mg "_law_moved" s__law_moved ["f", "m"]) (B : Bl mg) (c__law_value : Cal P w K mg base "_law_value" 1 ["f", "x", "y"] spVal) : Cal P w K mg base "_law_moved" 2 ["f", "m"] spMov := by
  refine D.cal sc__law_moved (fun vs H Q E h => ?_) (fun f cdv A outer s H vs Q E hr h => ?_)
  · obtain ⟨f, g, a, b, c, m, rfl, _⟩ := h
    rfl
  · obtain ⟨f, g, a, b, c, m, rfl, hf, hM, sa, sb, sc, ⟨sp, sq, sr, ss⟩, q⟩ := h
    obtain ⟨r1, r2, h0, h1, h2⟩ := atM hM
    refine ⟨_, (pss_cons (ps_asg (pe_ix ix_tup (pv 1) pe_int (fun _ _ => rfl)) (pg_tup rfl (pgs_cons (pg_name (i := 2) sc__law_moved.nd rfl (Or.inl rfl)) (pgs_cons (pg_name (i := 3) sc__law_moved.nd rfl (Or.inl rfl)) pgs_nil))))
  (pss_cons (ps_asg (pe_ix ix_tup (pv 1) pe_int (fun _ _ => rfl)) (pg_tup rfl (pgs_cons (pg_name (i := 4) sc__law_moved.nd rfl (Or.inl rfl)) (pgs_cons (pg_name (i := 5) sc__law_moved.nd rfl (Or.inl rfl)) pgs_nil))))
  (pss_cons (ps_set (i := 6) sc__law_moved.nd rfl (Or.inl rfl) (pe_op op_add (pe_op op_add (pe_op op_mulI (pe_op op_mulI (pe_op op_mulI pe_int (pe_ix ix_tup (pv 0) pe_int (fun _ _ => rfl))) (pv 2)) (pv 3)) (pe_op op_mulI (pe_ix ix_tup (pv 0) pe_int (fun _ _ => rfl)) (pe_op op_add (pe_op op_mulI (pv 2) (pv 5)) (pe_op op_mulI (pv 3) (pv 4))))) (pe_op op_mulI (pe_op op_mulI (pe_op op_mulI pe_int (pe_ix ix_tup (pv 0) pe_int (fun _ _ => rfl))) (pv 4)) (pv 5))))
  (pss_one (ps_ret (pe_tup (pa_cons (pe_cal c__law_value (hr.mono (by decide)) rfl (pa_cons (pv 0) (pa_cons (pv 2) (pa_cons (pv 4) pa_nil)))) (pa_cons (pv 6) (pa_cons (pe_cal c__law_value (hr.mono (by decide)) rfl (pa_cons (pv 0) (pa_cons (pv 3) (pa_cons (pv 5) pa_nil)))) pa_nil))))))))), ?_⟩
    walk_at "rd"
    have F := SqT.of (K := K) hf
    have F0 := SqT.of (K := K) h0
    have F1 := SqT.of (K := K) h1
    have F2 := SqT.of (K := K) h2
    refine ⟨_, F0, _, rfl, _, rfl, _, F1, rfl, _, _, rfl, _, _, rfl, rfl, _, F0, _, rfl, _, rfl, _, F2, rfl, _, _, rfl, _, _, rfl, rfl, ?_⟩
    walk_at "rd"
    obtain ⟨s2, _⟩ := sz_lit
    exact ⟨_, F, _, rfl, a, rfl, s2.ok sa (by decide) (by decide), (s2.mul sa).ok sp (by decide) (by decide), ((s2.mul sa).mul sp).ok sq (by decide) (by decide), _, F, _, rfl, sp.ok ss (by decide) (by decide), sq.ok sr (by decide) (by decide), b, rfl, sb.ok ((sp.mul ss).add (sq.mul sr)) (by decide) (by decide), _, F, _, rfl, c, rfl, s2.ok sc (by decide) (by decide), (s2.mul sc).ok sr (by decide) (by decide), ((s2.mul sc).mul sr).ok ss (by decide) (by decide),
      f, a, b, c, _, _, rfl, hf, sa.le (by decide), sb.le (by decide), sc.le (by decide), sp.le (by decide), sr.le (by decide), f, a, b, c, _, _, rfl, hf, sa.le (by decide), sb.le (by decide), sc.le (by decide), sq.le (by decide), ss.le (by decide), by decide, fun p np => q p np⟩
abbrev s__law_product : Stmt := top 56
theorem sc__law_product : FnScope ["m", "n", "p", "q", "r", "s"] ["m", "n"] (defScope s__law_product) := ⟨rfl, rfl, rfl, by decide +kernel, rfl, by decide +kernel, by decide +kernel⟩

def mulM (m n : M4) : M4 := ((m.1.1 * n.1.1 + m.1.2 * n.2.1, m.1.1 * n.1.2 + m.1.2 * n.2.2), (m.2.1 * n.1.1 + m.2.2 * n.2.1, m.2.1 * n.1.2 + m.2.2 * n.2.2))
theorem mulM_sz {k l : Nat} {m n : M4} (h : SzM k m) (h' : SzM l n) : SzM (k + l + 1) (mulM m n) :=
  ⟨(h.1.mul h'.1).add (h.2.1.mul h'.2.2.1), (h.1.mul h'.2.1).add (h.2.1.mul h'.2.2.2), (h.2.2.1.mul h'.1).add (h.2.2.2.mul h'.2.2.1), (h.2.2.1.mul h'.2.1).add (h.2.2.2.mul h'.2.2.2)⟩
def spProd : Sp := fun vs H Q _ => ∃ (f g : Addr) (m n : M4), vs = [.ref f, .ref g] ∧ IsM H (.ref f) m ∧ IsM H (.ref g) n ∧ SzM 1400 m ∧ SzM 1400 n ∧ ∀ p H', Same H H' → H p = none → IsM H' (.ref p) (mulM m n) → Q (.ref p) H'
theorem cal_prod (D : Dn K mg "_law_product" s__law_product ["m", "n"]) (B : Bl mg) : Cal P w K mg base "_law_product" 1 ["m", "n"] spProd := by
  refine D.cal sc__law_product (fun vs H Q E h => ?_) (fun f cdv A outer s H vs Q E hr h => ?_)
  · obtain ⟨f, g, m, n, rfl, _⟩ := h
    rfl
  · obtain ⟨f, g, m, n, rfl, hm, hn, ⟨m1, m2, m3, m4⟩, ⟨n1, n2, n3, n4⟩, q⟩ := h
    obtain ⟨r1, r2, h0, h1, h2⟩ := atM hm
    obtain ⟨t1, t2, g0, g1, g2⟩ := atM hn
    refine ⟨_, (pss_cons (ps_asg (pe_ix ix_tup (pv 0) pe_int (fun _ _ => rfl)) (pg_tup rfl (pgs_cons (pg_name (i := 2) sc__law_product.nd rfl (Or.inl rfl)) (pgs_cons (pg_name (i := 3) sc__law_product.nd rfl (Or.inl rfl)) pgs_nil))))
  (pss_cons (ps_asg (pe_ix ix_tup (pv 0) pe_int (fun _ _ => rfl)) (pg_tup rfl (pgs_cons (pg_name (i := 4) sc__law_product.nd rfl (Or.inl rfl)) (pgs_cons (pg_name (i := 5) sc__law_product.nd rfl (Or.inl rfl)) pgs_nil))))
  (pss_one (ps_ret (pe_tup (pa_cons (pe_tup (pa_cons (pe_op op_add (pe_op op_mulI (pv 2) (pe_ix ix_tup (pe_ix ix_tup (pv 1) pe_int (fun _ _ => rfl)) pe_int (fun _ _ => rfl))) (pe_op op_mulI (pv 3) (pe_ix ix_tup (pe_ix ix_tup (pv 1) pe_int (fun _ _ => rfl)) pe_int (fun _ _ => rfl)))) (pa_cons (pe_op op_add (pe_op op_mulI (pv 2) (pe_ix ix_tup (pe_ix ix_tup (pv 1) pe_int (fun _ _ => rfl)) pe_int (fun _ _ => rfl))) (pe_op op_mulI (pv 3) (pe_ix ix_tup (pe_ix ix_tup (pv 1) pe_int (fun _ _ => rfl)) pe_int (fun _ _ => rfl)))) pa_nil))) (pa_cons (pe_tup (pa_cons (pe_op op_add (pe_op op_mulI (pv 4) (pe_ix ix_tup (pe_ix ix_tup (pv 1) pe_int (fun _ _ => rfl)) pe_int (fun _ _ => rfl))) (pe_op op_mulI (pv 5) (pe_ix ix_tup (pe_ix ix_tup (pv 1) pe_int (fun _ _ => rfl)) pe_int (fun _ _ => rfl)))) (pa_cons (pe_op op_add (pe_op op_mulI (pv 4) (pe_ix ix_tup (pe_ix ix_tup (pv 1) pe_int (fun _ _ => rfl)) pe_int (fun _ _ => rfl))) (pe_op op_mulI (pv 5) (pe_ix ix_tup (pe_ix ix_tup (pv 1) pe_int (fun _ _ => rfl)) pe_int (fun _ _ => rfl)))) pa_nil))) pa_nil))))))), ?_⟩
    have F0 := SqT.of (K := K) h0
    have F1 := SqT.of (K := K) h1
    have F2 := SqT.of (K := K) h2
    rw [CB.rd_seq]
    walk_at "rs"
    refine ⟨_, F0, _, rfl, _, rfl, _, F1, rfl, _, _, rfl, _, _, rfl, rfl, ?_⟩
    rw [CB.rd_seq]
    walk_at "rs"
    refine ⟨_, F0, _, rfl, _, rfl, _, F2, rfl, _, _, rfl, _, _, rfl, rfl, ?_⟩
    have G0 := SqT.of (K := K) g0
    have G1 := SqT.of (K := K) g1
    have G2 := SqT.of (K := K) g2
    refine ⟨_, G0, _, rfl, _, rfl, _, G1, _, rfl, _, rfl, m1.ok n1 (by decide) (by decide), _, G0, _, rfl, _, rfl, _, G2, _, rfl, _, rfl, m2.ok n3 (by decide) (by decide), _, G0, _, rfl, _, rfl, _, G1, _, rfl, _, rfl, m1.ok n2 (by decide) (by decide), _, G0, _, rfl, _, rfl, _, G2, _, rfl, _, rfl, m2.ok n4 (by decide) (by decide), by decide, fun p np => ?_⟩
    have st := same_upd (o := HO.tup [V.int (m.1.1 * n.1.1 + m.1.2 * n.2.1), V.int (m.1.1 * n.1.2 + m.1.2 * n.2.2)]) np
    have G0 := SqT.of (K := K) (st _ _ g0)
    have G1 := SqT.of (K := K) (st _ _ g1)
    have G2 := SqT.of (K := K) (st _ _ g2)
    refine ⟨_, G0, _, rfl, _, rfl, _, G1, _, rfl, _, rfl, _, rfl, m3.ok n1 (by decide) (by decide), _, G0, _, rfl, _, rfl, _, G2, _, rfl, _, rfl, _, rfl, m4.ok n3 (by decide) (by decide), _, G0, _, rfl, _, rfl, _, G1, _, rfl, _, rfl, _, rfl, m3.ok n2 (by decide) (by decide), _, G0, _, rfl, _, rfl, _, G2, _, rfl, _, rfl, _, rfl, m4.ok n4 (by decide) (by decide), by decide, fun p2 np2 => ⟨by decide, fun p3 np3 => ?_⟩⟩
    exact q p3 _ (((same_upd np).trans (same_upd np2)).trans (same_upd np3)) (((same_upd np).trans (same_upd np2)).free np3) ⟨p3, p, p2, rfl, upd_same, same_upd np3 _ _ (same_upd np2 _ _ upd_same), same_upd np3 _ _ upd_same⟩
def invM (m : M4) : M4 := ((m.2.2, -m.1.2), (-m.2.1, m.1.1))
def detM (m : M4) : Int := m.1.1 * m.2.2 - m.1.2 * m.2.1
theorem isM_kp {st : Addr} {H H' : Hp} {x : V} {m : M4} (s : Kp st H H') (h : IsM H x m) : IsM H' x m := by
  obtain ⟨r, r1, r2, q, e, e1, e2⟩ := h
  exact ⟨r, r1, r2, q, s.1 _ _ e, s.1 _ _ e1, s.1 _ _ e2⟩
theorem detM_mul {m n : M4} (h : detM m = 1) (h' : detM n = 1) : detM (mulM m n) = 1 := by
  obtain ⟨⟨a, b⟩, ⟨c, d⟩⟩ := m
  obtain ⟨⟨e, f⟩, ⟨g, i⟩⟩ := n
  simp only [detM, mulM] at *
  grind
theorem newM {H : Hp} {p1 p2 p3 : Addr} {a b c d : Int} (n1 : H p1 = none) (n2 : upd H p1 (.tup [.int a, .int b]) p2 = none) (n3 : upd (upd H p1 (.tup [.int a, .int b])) p2 (.tup [.int c, .int d]) p3 = none) :
    Same H (upd (upd (upd H p1 (.tup [.int a, .int b])) p2 (.tup [.int c, .int d])) p3 (.tup [.ref p1, .ref p2])) ∧ IsM (upd (upd (upd H p1 (.tup [.int a, .int b])) p2 (.tup [.int c, .int d])) p3 (.tup [.ref p1, .ref p2])) (.ref p3) ((a, b), (c, d)) :=
  ⟨((same_upd n1).trans (same_upd n2)).trans (same_upd n3), p3, p1, p2, rfl, upd_same, same_upd n3 _ _ (same_upd n2 _ _ upd_same), same_upd n3 _ _ upd_same⟩
end

/-! ### the mathematics: forms reduced, and one only in a class -/
def detM' (m : M4) : Int := detM m
def Red (a b c : Int) : Prop := 0 < a ∧ -a < b ∧ b ≤ a ∧ a ≤ c ∧ (a = c → 0 ≤ b)
/-- definite and above 0 -/
def PD (a b c : Int) : Prop := 0 < a ∧ dsc a b c < 0
theorem mov_inv {a b c : Int} {m : M4} (h : detM m = 1) : movT (movT a b c m).1 (movT a b c m).2.1 (movT a b c m).2.2 (invM m) = (a, b, c) := by
  obtain ⟨⟨p, q⟩, ⟨r, s⟩⟩ := m
  simp only [detM] at h
  simp only [movT, invM, valF, midF, Prod.mk.injEq]
  refine ⟨?_, ?_, ?_⟩ <;> grind
theorem det_inv {m : M4} (h : detM m = 1) : detM (invM m) = 1 := by
  simp only [detM, invM] at *
  grind
theorem mov_mul {a b c : Int} {m n : M4} : movT (movT a b c m).1 (movT a b c m).2.1 (movT a b c m).2.2 n = movT a b c (mulM m n) := by
  obtain ⟨⟨p, q⟩, ⟨r, s⟩⟩ := m
  obtain ⟨⟨t, u⟩, ⟨v, w⟩⟩ := n
  simp only [movT, mulM, valF, midF, Prod.mk.injEq]
  refine ⟨?_, ?_, ?_⟩ <;> grind
theorem dsc_mov {a b c : Int} {m : M4} (h : detM m = 1) : dsc (movT a b c m).1 (movT a b c m).2.1 (movT a b c m).2.2 = dsc a b c := by
  obtain ⟨⟨p, q⟩, ⟨r, s⟩⟩ := m
  simp only [detM] at h
  simp only [movT, dsc, valF, midF]
  grind
theorem sq_nn (n : Int) : 0 ≤ n * n := by
  rcases Int.le_total 0 n with z | z
  · exact Int.mul_nonneg z z
  · exact Int.mul_nonneg_of_nonpos_of_nonpos z z
theorem val1 {a b c p r : Int} : 4 * (a * valF a b c p r) = (2 * a * p + b * r) * (2 * a * p + b * r) + (- dsc a b c) * (r * r) := by
  simp only [valF, dsc]
  grind
theorem val2 {a b c p r : Int} : 4 * (c * valF a b c p r) = (2 * c * r + b * p) * (2 * c * r + b * p) + (- dsc a b c) * (p * p) := by
  simp only [valF, dsc]
  grind
theorem PD.c {a b c : Int} (h : PD a b c) : 0 < c := by
  obtain ⟨ha, hd⟩ := h
  unfold dsc at hd
  have := sq_nn b
  have e : 4 * a * c = 4 * (a * c) := Int.mul_assoc _ _ _
  rcases Int.lt_or_le 0 c with z | z
  · exact z
  · have := Int.mul_nonneg (show 0 ≤ a by omega) (show 0 ≤ -c by omega)
    rw [Int.mul_neg] at this
    omega
theorem val_pos {a b c p r : Int} (h : PD a b c) (n : p ≠ 0 ∨ r ≠ 0) : 0 < valF a b c p r := by
  have hc := h.c
  obtain ⟨ha, hD⟩ := h
  have sp : ∀ {x : Int}, x ≠ 0 → 0 < x * x := fun {x} z => by
    rcases Int.lt_or_gt_of_ne z with z | z
    · exact Int.mul_pos_of_neg_of_neg z z
    · exact Int.mul_pos z z
  have pos : ∀ {k v : Int}, 0 < k → 0 < k * v → 0 < v := fun {k v} hk hv => by
    rcases Int.lt_or_le 0 v with z | z
    · exact z
    · have := Int.mul_nonneg (show 0 ≤ k by omega) (show 0 ≤ -v by omega)
      rw [Int.mul_neg] at this
      omega
  rcases n with n | n
  · refine pos hc ?_
    have e := val2 (a := a) (b := b) (c := c) (p := p) (r := r)
    have s1 := sq_nn (2 * c * r + b * p)
    have : 0 < (- dsc a b c) * (p * p) := Int.mul_pos (by omega) (sp n)
    omega
  · refine pos ha ?_
    have e := val1 (a := a) (b := b) (c := c) (p := p) (r := r)
    have s1 := sq_nn (2 * a * p + b * r)
    have : 0 < (- dsc a b c) * (r * r) := Int.mul_pos (by omega) (sp n)
    omega
/-- a class keeps its sign -/
theorem PD.mov {a b c : Int} {m : M4} (h : PD a b c) (hd : detM m = 1) : PD (movT a b c m).1 (movT a b c m).2.1 (movT a b c m).2.2 := by
  refine ⟨val_pos h ?_, by rw [dsc_mov hd]; exact h.2⟩
  by_cases c : m.1.1 = 0
  · by_cases d : m.2.1 = 0
    · unfold detM at hd
      rw [c, d] at hd
      omega
    · exact .inr d
  · exact .inl c
theorem Red.pd {a b c : Int} (h : Red a b c) : PD a b c := by
  obtain ⟨h1, h2, h3, h4, h5⟩ := h
  refine ⟨h1, ?_⟩
  unfold dsc
  have e : 4 * a * c = 4 * (a * c) := Int.mul_assoc _ _ _
  have x1 : b * b ≤ a * a := by
    have : 0 ≤ (a - b) * (a + b) := Int.mul_nonneg (by omega) (by omega)
    grind
  have x2 : a * a ≤ a * c := Int.mul_le_mul_of_nonneg_left h4 (by omega)
  have x3 : 0 < a * a := Int.mul_pos h1 h1
  omega
theorem le_one {x : Int} (h : x * x ≤ 1) : x = -1 ∨ x = 0 ∨ x = 1 := by
  rcases Int.lt_or_le x (-1) with z | z
  · have : 2 * 2 ≤ (-x) * (-x) := Int.mul_le_mul (by omega) (by omega) (by omega) (by omega)
    rw [Int.neg_mul_neg] at this
    omega
  · rcases Int.lt_or_le 1 x with z2 | z2
    · have : 2 * 2 ≤ x * x := Int.mul_le_mul (by omega) (by omega) (by omega) (by omega)
      omega
    · omega
theorem gap {a x : Int} (h : 0 < a) : x = 0 ∨ a ≤ a * x ∨ a * x ≤ -a := by
  rcases Int.lt_trichotomy x 0 with z | z | z
  · refine .inr (.inr ?_)
    have := Int.mul_le_mul_of_nonneg_left (show x ≤ -1 by omega) (show 0 ≤ a by omega)
    omega
  · exact .inl z
  · refine .inr (.inl ?_)
    have := Int.mul_le_mul_of_nonneg_left (show 1 ≤ x by omega) (show 0 ≤ a by omega)
    omega
theorem red_le {a b c : Int} (h : Red a b c) : 3 * (a * c) ≤ - dsc a b c ∧ a * a ≤ a * c ∧ 0 < a * a := by
  obtain ⟨h1, h2, h3, h4, h5⟩ := h
  unfold dsc
  have e : 4 * a * c = 4 * (a * c) := Int.mul_assoc _ _ _
  have x1 : b * b ≤ a * a := by
    have : 0 ≤ (a - b) * (a + b) := Int.mul_nonneg (by omega) (by omega)
    grind
  have x2 : a * a ≤ a * c := Int.mul_le_mul_of_nonneg_left h4 (by omega)
  exact ⟨by omega, x2, Int.mul_pos h1 h1⟩
theorem div_sq {k n x : Int} (hk : 0 < k) (h : k * x ≤ k * n) : x ≤ n := Int.le_of_mul_le_mul_left h hk
theorem red_uniq1 {a b c a' b' c' : Int} {m : M4} (h : Red a b c) (h' : Red a' b' c') (hd : detM m = 1) (e : movT a b c m = (a', b', c')) (le : a' ≤ a) : (a, b, c) = (a', b', c') := by
  obtain ⟨d3, aac, aa⟩ := red_le h
  have dd : dsc a' b' c' = dsc a b c := by
    have := dsc_mov (a := a) (b := b) (c := c) hd
    rw [e] at this
    exact this
  obtain ⟨⟨p, q⟩, ⟨r, s⟩⟩ := m
  simp only [detM] at hd
  simp only [movT, Prod.mk.injEq] at e
  obtain ⟨e1, e2, e3⟩ := e
  have v1 := val1 (a := a) (b := b) (c := c) (p := p) (r := r)
  have v2 := val2 (a := a) (b := b) (c := c) (p := p) (r := r)
  rw [e1] at v1 v2
  have q1 := sq_nn (2 * a * p + b * r)
  have q2 := sq_nn (2 * c * r + b * p)
  have ha := h.1
  have hac : a ≤ c := h.2.2.2.1
  have l1 : a * a' ≤ a * a := Int.mul_le_mul_of_nonneg_left le (by omega)
  have l2 : c * a' ≤ c * a := Int.mul_le_mul_of_nonneg_left le (by omega)
  have hr : r = -1 ∨ r = 0 ∨ r = 1 := by
    refine le_one ?_
    have w : (3 * (a * a)) * (r * r) ≤ (- dsc a b c) * (r * r) := Int.mul_le_mul_of_nonneg_right (by omega) (sq_nn r)
    have w2 : (a * a) * (3 * (r * r)) ≤ (a * a) * 4 := by
      have : (3 * (a * a)) * (r * r) = (a * a) * (3 * (r * r)) := by grind
      omega
    have := div_sq aa w2
    omega
  have hp : p = -1 ∨ p = 0 ∨ p = 1 := by
    refine le_one ?_
    have w : (3 * (a * c)) * (p * p) ≤ (- dsc a b c) * (p * p) := Int.mul_le_mul_of_nonneg_right d3 (sq_nn p)
    have w2 : (a * c) * (3 * (p * p)) ≤ (a * c) * 4 := by
      have : (3 * (a * c)) * (p * p) = (a * c) * (3 * (p * p)) := by grind
      have : c * a = a * c := Int.mul_comm _ _
      omega
    have := div_sq (show 0 < a * c by omega) w2
    omega
  have g1 := gap (x := q) ha
  have g2 := gap (x := s) ha
  obtain ⟨h1, h2, h3, h4, h5⟩ := h
  obtain ⟨k1, k2, k3, k4, k5⟩ := h'
  -- with the same a and b, c is the same
  have fin : a' = a → b' = b → (a, b, c) = (a', b', c') := fun ea eb => by
    subst ea eb
    unfold dsc at dd
    have : 4 * a' * c' = 4 * a' * c := by omega
    have := Int.eq_of_mul_eq_mul_left (show 4 * a' ≠ 0 by omega) this
    rw [this]
  -- a = c, and b' is b or -b
  have fin2 : a' = a → a = c → b' = -b → (a, b, c) = (a', b', c') := fun ea ec eb => by
    subst ea ec eb
    unfold dsc at dd
    have e0 : -b * -b = b * b := Int.neg_mul_neg b b
    have : 4 * a' * c' = 4 * a' * a' := by omega
    have := Int.eq_of_mul_eq_mul_left (show 4 * a' ≠ 0 by omega) this
    subst this
    have := h5 rfl
    have := k5 rfl
    have : b = 0 := by omega
    subst this
    rfl
  simp only [valF] at e1 e3
  simp only [midF] at e2
  rcases hr with rfl | rfl | rfl
  · rcases hp with rfl | rfl | rfl
    · have : a' = a + b + c := by grind
      omega
    · have eq : q = 1 := by omega
      subst eq
      have ea : a' = c := by grind
      have ec : a = c := by omega
      subst ec
      have eb : b' = -b - 2 * (a * s) := by grind
      rcases g2 with rfl | g | g
      · exact fin2 ea rfl (by omega)
      · omega
      · exact fin ea (by omega)
    · have ea : a' = a - b + c := by grind
      have ec : a = c := by omega
      have eb0 : b = a := by omega
      subst ec eb0
      have eq : q = 1 - s := by omega
      subst eq
      have eb : b' = b - 2 * (b * s) := by grind
      rcases g2 with rfl | g | g
      · exact fin (by omega) (by omega)
      · omega
      · omega
  · rcases hp with rfl | rfl | rfl
    · have es : s = -1 := by omega
      subst es
      refine fin (by omega) ?_
      have eb : b' = b - 2 * (a * q) := by grind
      rcases g1 with rfl | g | g <;> omega
    · omega
    · have es : s = 1 := by omega
      subst es
      refine fin (by omega) ?_
      have eb : b' = b + 2 * (a * q) := by grind
      rcases g1 with rfl | g | g <;> omega
  · rcases hp with rfl | rfl | rfl
    · have ea : a' = a - b + c := by grind
      have ec : a = c := by omega
      have eb0 : b = a := by omega
      subst ec eb0
      have eq : q = -s - 1 := by omega
      subst eq
      have eb : b' = b + 2 * (b * s) := by grind
      rcases g2 with rfl | g | g
      · exact fin (by omega) (by omega)
      · omega
      · omega
    · have eq : q = -1 := by omega
      subst eq
      have ea : a' = c := by grind
      have ec : a = c := by omega
      subst ec
      have eb : b' = -b + 2 * (a * s) := by grind
      rcases g2 with rfl | g | g
      · exact fin2 ea rfl (by omega)
      · exact fin ea (by omega)
      · omega
    · have : a' = a + b + c := by grind
      omega
/-- one reduced form only -/
theorem red_uniq {a b c a' b' c' : Int} {m : M4} (h : Red a b c) (h' : Red a' b' c') (hd : detM m = 1) (e : movT a b c m = (a', b', c')) : (a, b, c) = (a', b', c') := by
  rcases Int.le_total a' a with z | z
  · exact red_uniq1 h h' hd e z
  · have e2 : movT a' b' c' (invM m) = (a, b, c) := by
      have := mov_inv (a := a) (b := b) (c := c) hd
      rw [e] at this
      exact this
    exact (red_uniq1 h' h (det_inv hd) e2 z).symm
/-- one step of reducing -/
theorem step_k {a b k : Int} (ha : 0 < a) (hk : k = (a - b) / (2 * a)) : -a < b + 2 * a * k ∧ b + 2 * a * k ≤ a := by
  have h1 := Int.mul_ediv_self_le (x := a - b) (k := 2 * a) (by omega)
  have h2 := Int.lt_mul_ediv_self_add (x := a - b) (k := 2 * a) (by omega)
  rw [← hk] at h1 h2
  omega
theorem step_m {f0 f1 f2 a b c k p q r s : Int} (e : movT f0 f1 f2 ((p, q), (r, s)) = (a, b, c)) : movT f0 f1 f2 ((p, q + p * k), (r, s + r * k)) = (a, b + 2 * a * k, c + b * k + a * k * k) := by
  simp only [movT, valF, midF, Prod.mk.injEq] at *
  obtain ⟨e1, e2, e3⟩ := e
  subst e1 e2 e3
  refine ⟨rfl, ?_, ?_⟩ <;> grind
theorem step_d {k p q r s : Int} (h : detM ((p, q), (r, s)) = 1) : detM ((p, q + p * k), (r, s + r * k)) = 1 := by
  simp only [detM] at *
  grind
theorem swap_m {f0 f1 f2 a b c p q r s : Int} (e : movT f0 f1 f2 ((p, q), (r, s)) = (a, b, c)) : movT f0 f1 f2 ((q, -p), (s, -r)) = (c, -b, a) := by
  simp only [movT, valF, midF, Prod.mk.injEq] at *
  obtain ⟨e1, e2, e3⟩ := e
  subst e1 e2 e3
  refine ⟨rfl, ?_, ?_⟩ <;> grind
theorem swap_d {p q r s : Int} (h : detM ((p, q), (r, s)) = 1) : detM ((q, -p), (s, -r)) = 1 := by
  simp only [detM] at *
  grind
/-- a reduced form stays -/
theorem red_k {a b c : Int} (h : Red a b c) : (a - b) / (2 * a) = 0 := by
  obtain ⟨h1, h2, h3, _, _⟩ := h
  exact Int.ediv_eq_zero_of_lt (by omega) (by omega)
/-- what a value bounds -/
theorem col_bd {a b c p r v : Int} (h : PD a b c) (e : valF a b c p r = v) (hv : v ≤ a) : r * r ≤ 4 * (a * a) ∧ p * p ≤ 4 * (c * a) := by
  have hc := h.c
  obtain ⟨ha, hd⟩ := h
  have v1 := val1 (a := a) (b := b) (c := c) (p := p) (r := r)
  have v2 := val2 (a := a) (b := b) (c := c) (p := p) (r := r)
  rw [e] at v1 v2
  have q1 := sq_nn (2 * a * p + b * r)
  have q2 := sq_nn (2 * c * r + b * p)
  have l1 : a * v ≤ a * a := Int.mul_le_mul_of_nonneg_left hv (by omega)
  have l2 : c * v ≤ c * a := Int.mul_le_mul_of_nonneg_left hv (by omega)
  have w1 : 1 * (r * r) ≤ (- dsc a b c) * (r * r) := Int.mul_le_mul_of_nonneg_right (by omega) (sq_nn r)
  have w2 : 1 * (p * p) ≤ (- dsc a b c) * (p * p) := Int.mul_le_mul_of_nonneg_right (by omega) (sq_nn p)
  omega
theorem sq_sz {x y : Int} {n : Nat} (h : x * x ≤ y) (hy : Sz (2 * n) y) : Sz n x := by
  unfold Sz at *
  rcases Nat.lt_or_ge x.natAbs (2 ^ n) with z | z
  · exact z
  · have : 2 ^ n * 2 ^ n ≤ x.natAbs * x.natAbs := Nat.mul_le_mul z z
    have e : 2 ^ (2 * n) = 2 ^ n * 2 ^ n := by rw [← Nat.pow_add]; congr 1; omega
    have e2 : ((x.natAbs * x.natAbs : Nat) : Int) = x * x := Int.natAbs_mul_self
    omega

/-! ### plain values: ints, pairs, matrices, tuples of matrices -/
section
variable {P : Program} {w : World} {K : PySem.W.Frag} {mg : Str → Option Value} {base : Heap} {CM CR : Addr}
def Prs (H : Hp) : List V → List (Int × Int) → Prop
  | [], [] => True
  | x :: xs, p :: ps => (∃ r, x = V.ref r ∧ H r = some (.tup [.int p.1, .int p.2])) ∧ Prs H xs ps
  | _, _ => False
theorem Prs.same {H H' : Hp} (s : Same H H') : ∀ {xs : List V} {ps : List (Int × Int)}, Prs H xs ps → Prs H' xs ps
  | [], [], _ => trivial
  | x :: xs, p :: ps, ⟨⟨r, e, q⟩, h⟩ => ⟨⟨r, e, s _ _ q⟩, Prs.same s h⟩
  | [], _ :: _, h => h.elim
  | _ :: _, [], h => h.elim
theorem Prs.app {H : Hp} : ∀ {xs ys : List V} {ps qs : List (Int × Int)}, Prs H xs ps → Prs H ys qs → Prs H (xs ++ ys) (ps ++ qs)
  | [], _, [], _, _, h => h
  | _ :: _, _, _ :: _, _, ⟨e, h⟩, h' => ⟨e, Prs.app h h'⟩
  | [], _, _ :: _, _, h, _ => h.elim
  | _ :: _, _, [], _, h, _ => h.elim
theorem Prs.len {H : Hp} : ∀ {xs : List V} {ps : List (Int × Int)}, Prs H xs ps → xs.length = ps.length
  | [], [], _ => rfl
  | _ :: _, _ :: _, ⟨_, h⟩ => by rw [List.length_cons, List.length_cons, Prs.len h]
  | [], _ :: _, h => h.elim
  | _ :: _, [], h => h.elim
theorem Prs.get {H : Hp} : ∀ {xs : List V} {ps : List (Int × Int)} {i : Nat} {x : V}, Prs H xs ps → xs[i]? = some x → ∃ r p, x = V.ref r ∧ H r = some (.tup [.int p.1, .int p.2]) ∧ ps[i]? = some p
  | x :: xs, p :: ps, 0, y, ⟨⟨r, e, q⟩, _⟩, h => by
    cases h
    exact ⟨r, p, e, q, rfl⟩
  | x :: xs, p :: ps, i + 1, y, ⟨_, h'⟩, h => by
    rw [List.getElem?_cons_succ] at h
    obtain ⟨r, q, e, f, g⟩ := Prs.get h' h
    exact ⟨r, q, e, f, by rw [List.getElem?_cons_succ]; exact g⟩
  | [], [], i, y, _, h => by simp at h
  | [], _ :: _, _, _, h, _ => h.elim
  | _ :: _, [], _, _, h, _ => h.elim
theorem Prs.updL {H : Hp} {f : Addr} {l : List V} {o : HO} (e : H f = some (.lst l)) : ∀ {xs : List V} {ps : List (Int × Int)}, Prs H xs ps → Prs (upd H f o) xs ps
  | [], [], _ => trivial
  | x :: xs, p :: ps, ⟨⟨r, e1, q⟩, h⟩ => ⟨⟨r, e1, by rw [upd_ne (ne_of q e (by intro z; cases z))]; exact q⟩, Prs.updL e h⟩
  | [], _ :: _, h => h.elim
  | _ :: _, [], h => h.elim
abbrev s__law_plain : Stmt := top 51
theorem sc__law_plain : FnScope ["value", "item"] ["value"] (defScope s__law_plain) := ⟨rfl, rfl, rfl, by decide +kernel, rfl, by decide +kernel, by decide +kernel⟩

def spPlainI : Sp := fun vs H Q _ => ∃ n : Int, vs = [.int n] ∧ Q (.int n) H
def spPlain1 : Sp := fun vs H Q _ => ∃ (r : Addr) (a b c : Int), vs = [.ref r] ∧ H r = some (.tup [.int a, .int b, .int c]) ∧ ∀ p H', Same H H' → H p = none → H' p = some (.tup [.int a, .int b, .int c]) → Q (.ref p) H'
def spPlainP : Sp := fun vs H Q _ => ∃ (r : Addr) (a b : Int), vs = [.ref r] ∧ H r = some (.tup [.int a, .int b]) ∧ ∀ p H', Same H H' → H p = none → H' p = some (.tup [.int a, .int b]) → Q (.ref p) H'
def spPlainX : Sp := fun vs H Q _ => ∃ (r : Addr) (m : M4), vs = [.ref r] ∧ IsM H (.ref r) m ∧ ∀ p H', Same H H' → H p = none → IsM H' (.ref p) m → Q (.ref p) H'
def spPlainMs : Sp := fun vs H Q _ => ∃ (r : Addr) (ys : List V) (ms : List M4), vs = [.ref r] ∧ H r = some (.tup ys) ∧ Mats H ys ms ∧ ys.length ≤ 1000 ∧ ∀ p ys' H', Same H H' → H p = none → H' p = some (.tup ys') → Mats H' ys' ms → Q (.ref p) H'
theorem cal_plain (D : Dn K mg "_law_plain" s__law_plain ["value"]) (B : Bl mg) (c__law_whole : Cal P w K mg base "_law_whole" 1 ["value"] (spInt K)) : Cal P w K mg base "_law_plain" 2 ["value"] spPlainI := by
  refine D.cal sc__law_plain (fun vs H Q E h => ?_) (fun f cdv A outer s H vs Q E hr h => ?_)
  · obtain ⟨n, rfl, _⟩ := h
    rfl
  · obtain ⟨n, rfl, q⟩ := h
    refine ⟨_, (pss_cons (ps_if (pt_val (pe_callB call_isi rfl B.isinstance (by decide +kernel) (pa_cons (pv 0) (pa_cons (pe_bltn (v := .ty "tuple") rfl B.tuple boot_tuple rfl) pa_nil)))) pss_never pss_nil)
  (pss_one (ps_ret (pe_ifExp (PW.pt (pw_or (pt_cmpR op_isN (pv 0) pe_non (nomark _)) (pw_or1 (pt_val (pe_cal c__law_whole (hr.mono (by decide)) rfl (pa_cons (pv 0) pa_nil)))))) (pv 0) pe_str)))), ?_⟩
    walk_at "rd"
    refine isi_mk (.base (.int n)) (b := false) (by decide +kernel) ⟨false, rfl, ?_⟩
    rw [if_neg Bool.false_ne_true]
    refine ⟨.int n, "int", rfl, .base (.int n), by decide, true, rfl, ?_⟩
    rw [if_pos rfl]
    exact q
theorem cal_plainP (D : Dn K mg "_law_plain" s__law_plain ["value"]) (B : Bl mg) (c__law_plain : Cal P w K mg base "_law_plain" 2 ["value"] spPlainI) (c__law_whole : Cal P w K mg base "_law_whole" 1 ["value"] (spInt K)) : Cal P w K mg base "_law_plain" 3 ["value"] spPlainP := by
  refine D.cal sc__law_plain (fun vs H Q E h => ?_) (fun f cdv A outer s H vs Q E hr h => ?_)
  · obtain ⟨r, a, b, rfl, _⟩ := h
    rfl
  · obtain ⟨r, a, b, rfl, ht, q⟩ := h
    refine ⟨_, (pss_cons (ps_if (pt_val (pe_callB call_isi rfl B.isinstance (by decide +kernel) (pa_cons (pv 0) (pa_cons (pe_bltn (v := .ty "tuple") rfl B.tuple boot_tuple rfl) pa_nil)))) (pss_one (ps_ret (pe_callTy cr_tupOf rfl B.tuple boot_tuple (pa_cons (pe_lc (own := [("item", 1)]) rfl sc__law_plain.nd (pi_tup (pv 0)) (blkOk_by (N := ["value", "item"]) (sc := defScope s__law_plain) (own := [("item", 1)]) (by decide +kernel)) (fun _ _ _ _ _ => (pg_name (i := 1) sc__law_plain.nd rfl (Or.inl rfl))) (fun _ _ _ _ _ => pts_nil) (fun _ _ _ _ _ => (pe_cal c__law_plain (hr.mono (by decide)) rfl (pa_cons (pv 1) pa_nil)))) pa_nil)))) pss_nil)
  (pss_one (ps_ret (pe_ifExp (PW.pt (pw_or (pt_cmpR op_isN (pv 0) pe_non (nomark _)) (pw_or1 (pt_val (pe_cal c__law_whole (hr.mono (by decide)) rfl (pa_cons (pv 0) pa_nil)))))) (pv 0) pe_str)))), ?_⟩
    walk_at "rd"
    refine isi_mk (.base (.tup ht)) (b := true) (by decide +kernel) ⟨true, rfl, ?_⟩
    rw [if_pos rfl]
    refine ⟨⟨_, SqT.of ht⟩, LcT.w (xs := ([a, b] : List Int).map V.int) (fun i D zs H3 => zs = (([a, b] : List Int).take i).map V.int ∧ H3 = upd H D (.lst zs) ∧ H D = none) (fun D nD => ⟨rfl, rfl, nD⟩) ?_ ?_ ?_⟩
    · rintro D i zs H3 _ ⟨_, rfl, nD⟩
      exact SqT.of (by rw [upd_ne (ne_of_none ht nD)]; exact ht)
    · rintro D i v zs H3 hv ⟨rfl, rfl, nD⟩ N hN
      rw [List.getElem?_map] at hv
      obtain ⟨n, hn, rfl⟩ := Option.map_eq_some_iff.mp hv
      have hi : i < 2 := (List.getElem?_eq_some_iff.mp hn).1
      walk_at "rd"
      refine ⟨n, rfl, _, upd_same, ?_, hN _ _ ⟨?_, upd_upd, nD⟩⟩
      · rw [List.length_map, List.length_take]
        exact small_size (by omega)
      · rw [List.take_add_one, hn, List.map_append]
        rfl
    · rintro D zs H3 nD ⟨rfl, rfl, _⟩
      try walk_at "rd"
      refine ⟨_, .inl ⟨SqL.of upd_same, fun l nl => q l _ ((same_upd nD).trans (same_upd nl)) ((same_upd nD).free nl) upd_same⟩⟩
theorem cal_plainX (D : Dn K mg "_law_plain" s__law_plain ["value"]) (B : Bl mg) (c__law_plain : Cal P w K mg base "_law_plain" 3 ["value"] spPlainP) (c__law_whole : Cal P w K mg base "_law_whole" 1 ["value"] (spInt K)) : Cal P w K mg base "_law_plain" 4 ["value"] spPlainX := by
  refine D.cal sc__law_plain (fun vs H Q E h => ?_) (fun f cdv A outer s H vs Q E hr h => ?_)
  · obtain ⟨r, m, rfl, _⟩ := h
    rfl
  · obtain ⟨r, m, rfl, hM, q⟩ := h
    obtain ⟨r1, r2, h0, h1, h2⟩ := atM hM
    refine ⟨_, (pss_cons (ps_if (pt_val (pe_callB call_isi rfl B.isinstance (by decide +kernel) (pa_cons (pv 0) (pa_cons (pe_bltn (v := .ty "tuple") rfl B.tuple boot_tuple rfl) pa_nil)))) (pss_one (ps_ret (pe_callTy cr_tupOf rfl B.tuple boot_tuple (pa_cons (pe_lc (own := [("item", 1)]) rfl sc__law_plain.nd (pi_tup (pv 0)) (blkOk_by (N := ["value", "item"]) (sc := defScope s__law_plain) (own := [("item", 1)]) (by decide +kernel)) (fun _ _ _ _ _ => (pg_name (i := 1) sc__law_plain.nd rfl (Or.inl rfl))) (fun _ _ _ _ _ => pts_nil) (fun _ _ _ _ _ => (pe_cal c__law_plain (hr.mono (by decide)) rfl (pa_cons (pv 1) pa_nil)))) pa_nil)))) pss_nil)
  (pss_one (ps_ret (pe_ifExp (PW.pt (pw_or (pt_cmpR op_isN (pv 0) pe_non (nomark _)) (pw_or1 (pt_val (pe_cal c__law_whole (hr.mono (by decide)) rfl (pa_cons (pv 0) pa_nil)))))) (pv 0) pe_str)))), ?_⟩
    walk_at "rd"
    refine isi_mk (.base (.tup h0)) (b := true) (by decide +kernel) ⟨true, rfl, ?_⟩
    rw [if_pos rfl]
    refine ⟨⟨_, SqT.of h0⟩, LcT.w (xs := [V.ref r1, V.ref r2]) (fun i D zs H3 => Same H H3 ∧ H3 D = some (.lst zs) ∧ H D = none ∧ Prs H3 zs ([m.1, m.2].take i)) (fun D nD => ⟨same_upd nD, upd_same, nD, trivial⟩) ?_ ?_ ?_⟩
    · rintro D i zs H3 _ ⟨sm, _, _, _⟩
      exact SqT.of (sm _ _ h0)
    · rintro D i v zs H3 hv ⟨sm, hD, nD, hP⟩ N hN
      have hi : i < 2 := (List.getElem?_eq_some_iff.mp hv).1
      have hz := hP.len
      have src : ∃ t q, v = .ref t ∧ H t = some (.tup [.int q.1, .int q.2]) ∧ [m.1, m.2][i]? = some q := by
        have c : i = 0 ∨ i = 1 := by omega
        rcases c with rfl | rfl
        · cases hv
          exact ⟨r1, m.1, rfl, h1, rfl⟩
        · cases hv
          exact ⟨r2, m.2, rfl, h2, rfl⟩
      obtain ⟨t, ⟨qa, qb⟩, rfl, ht, hq⟩ := src
      walk_at "rd"
      refine ⟨t, qa, qb, rfl, sm _ _ ht, fun p' H4 s4 np hp4 => ⟨zs, s4 _ _ hD, ?_, hN _ _ ⟨same_at (sm.trans s4) nD, upd_same, nD, ?_⟩⟩⟩
      · rw [hz, List.length_take]
        exact small_size (by omega)
      · rw [List.take_add_one, hq]
        have pl : Prs H4 [V.ref p'] [(qa, qb)] := ⟨⟨p', rfl, hp4⟩, trivial⟩
        exact ((hP.same s4).app pl).updL (s4 _ _ hD)
    · rintro D zs H3 nD ⟨sm, hD, _, hP⟩
      try walk_at "rd"
      have hP' : Prs H3 zs [m.1, m.2] := hP
      match zs, hP', hD with
      | [x, y], ⟨⟨t1, e1, g1⟩, ⟨t2, e2, g2⟩, _⟩, hD =>
        subst e1 e2
        exact ⟨_, .inl ⟨SqL.of hD, fun l nl => q l _ (sm.trans (same_upd nl)) (sm.free nl) ⟨l, t1, t2, rfl, upd_same, same_upd nl _ _ g1, same_upd nl _ _ g2⟩⟩⟩
theorem cal_plain1 (D : Dn K mg "_law_plain" s__law_plain ["value"]) (B : Bl mg) (c__law_plain : Cal P w K mg base "_law_plain" 2 ["value"] spPlainI) (c__law_whole : Cal P w K mg base "_law_whole" 1 ["value"] (spInt K)) : Cal P w K mg base "_law_plain" 3 ["value"] spPlain1 := by
  refine D.cal sc__law_plain (fun vs H Q E h => ?_) (fun f cdv A outer s H vs Q E hr h => ?_)
  · obtain ⟨r, a, b, c, rfl, _⟩ := h
    rfl
  · obtain ⟨r, a, b, c, rfl, ht, q⟩ := h
    refine ⟨_, (pss_cons (ps_if (pt_val (pe_callB call_isi rfl B.isinstance (by decide +kernel) (pa_cons (pv 0) (pa_cons (pe_bltn (v := .ty "tuple") rfl B.tuple boot_tuple rfl) pa_nil)))) (pss_one (ps_ret (pe_callTy cr_tupOf rfl B.tuple boot_tuple (pa_cons (pe_lc (own := [("item", 1)]) rfl sc__law_plain.nd (pi_tup (pv 0)) (blkOk_by (N := ["value", "item"]) (sc := defScope s__law_plain) (own := [("item", 1)]) (by decide +kernel)) (fun _ _ _ _ _ => (pg_name (i := 1) sc__law_plain.nd rfl (Or.inl rfl))) (fun _ _ _ _ _ => pts_nil) (fun _ _ _ _ _ => (pe_cal c__law_plain (hr.mono (by decide)) rfl (pa_cons (pv 1) pa_nil)))) pa_nil)))) pss_nil)
  (pss_one (ps_ret (pe_ifExp (PW.pt (pw_or (pt_cmpR op_isN (pv 0) pe_non (nomark _)) (pw_or1 (pt_val (pe_cal c__law_whole (hr.mono (by decide)) rfl (pa_cons (pv 0) pa_nil)))))) (pv 0) pe_str)))), ?_⟩
    walk_at "rd"
    refine isi_mk (.base (.tup ht)) (b := true) (by decide +kernel) ⟨true, rfl, ?_⟩
    rw [if_pos rfl]
    refine ⟨⟨_, SqT.of ht⟩, LcT.w (xs := ([a, b, c] : List Int).map V.int) (fun i D zs H3 => zs = (([a, b, c] : List Int).take i).map V.int ∧ H3 = upd H D (.lst zs) ∧ H D = none) (fun D nD => ⟨rfl, rfl, nD⟩) ?_ ?_ ?_⟩
    · rintro D i zs H3 _ ⟨_, rfl, nD⟩
      exact SqT.of (by rw [upd_ne (ne_of_none ht nD)]; exact ht)
    · rintro D i v zs H3 hv ⟨rfl, rfl, nD⟩ N hN
      rw [List.getElem?_map] at hv
      obtain ⟨n, hn, rfl⟩ := Option.map_eq_some_iff.mp hv
      have hi : i < 3 := (List.getElem?_eq_some_iff.mp hn).1
      walk_at "rd"
      refine ⟨n, rfl, _, upd_same, ?_, hN _ _ ⟨?_, upd_upd, nD⟩⟩
      · rw [List.length_map, List.length_take]
        exact small_size (by omega)
      · rw [List.take_add_one, hn, List.map_append]
        rfl
    · rintro D zs H3 nD ⟨rfl, rfl, _⟩
      try walk_at "rd"
      refine ⟨_, .inl ⟨SqL.of upd_same, fun l nl => q l _ ((same_upd nD).trans (same_upd nl)) ((same_upd nD).free nl) upd_same⟩⟩
def spPlainTM : Sp := fun vs H Q _ => ∃ v : V, vs = [v] ∧ ((∃ (r : Addr) (a b c : Int), v = .ref r ∧ H r = some (.tup [.int a, .int b, .int c]) ∧ ∀ p H', Same H H' → H p = none → H' p = some (.tup [.int a, .int b, .int c]) → Q (.ref p) H') ∨
  (∃ (r : Addr) (m : M4), v = .ref r ∧ IsM H (.ref r) m ∧ ∀ p H', Same H H' → H p = none → IsM H' (.ref p) m → Q (.ref p) H') ∨ (v = .non ∧ Q .non H))
theorem cal_plainTM (D : Dn K mg "_law_plain" s__law_plain ["value"]) (B : Bl mg) (c__law_whole : Cal P w K mg base "_law_whole" 1 ["value"] (spInt K)) (cI : Cal P w K mg base "_law_plain" 2 ["value"] spPlainI) (cP : Cal P w K mg base "_law_plain" 3 ["value"] spPlainP) : Cal P w K mg base "_law_plain" 4 ["value"] spPlainTM := by
  refine D.cal sc__law_plain (fun vs H Q E h => ?_) (fun f cdv A outer s H vs Q E hr h => ?_)
  · obtain ⟨v, rfl, _⟩ := h
    rfl
  · obtain ⟨v, rfl, ⟨r, a, b, c, rfl, ht, q⟩ | ⟨r, m, rfl, hM, q⟩ | ⟨rfl, q⟩⟩ := h
    · have c__law_plain := cI
      refine ⟨_, (pss_cons (ps_if (pt_val (pe_callB call_isi rfl B.isinstance (by decide +kernel) (pa_cons (pv 0) (pa_cons (pe_bltn (v := .ty "tuple") rfl B.tuple boot_tuple rfl) pa_nil)))) (pss_one (ps_ret (pe_callTy cr_tupOf rfl B.tuple boot_tuple (pa_cons (pe_lc (own := [("item", 1)]) rfl sc__law_plain.nd (pi_tup (pv 0)) (blkOk_by (N := ["value", "item"]) (sc := defScope s__law_plain) (own := [("item", 1)]) (by decide +kernel)) (fun _ _ _ _ _ => (pg_name (i := 1) sc__law_plain.nd rfl (Or.inl rfl))) (fun _ _ _ _ _ => pts_nil) (fun _ _ _ _ _ => (pe_cal c__law_plain (hr.mono (by decide)) rfl (pa_cons (pv 1) pa_nil)))) pa_nil)))) pss_nil)
  (pss_one (ps_ret (pe_ifExp (PW.pt (pw_or (pt_cmpR op_isN (pv 0) pe_non (nomark _)) (pw_or1 (pt_val (pe_cal c__law_whole (hr.mono (by decide)) rfl (pa_cons (pv 0) pa_nil)))))) (pv 0) pe_str)))), ?_⟩
      walk_at "rd"
      refine isi_mk (.base (.tup ht)) (b := true) (by decide +kernel) ⟨true, rfl, ?_⟩
      rw [if_pos rfl]
      refine ⟨⟨_, SqT.of ht⟩, LcT.w (xs := ([a, b, c] : List Int).map V.int) (fun i D zs H3 => zs = (([a, b, c] : List Int).take i).map V.int ∧ H3 = upd H D (.lst zs) ∧ H D = none) (fun D nD => ⟨rfl, rfl, nD⟩) ?_ ?_ ?_⟩
      · rintro D i zs H3 _ ⟨_, rfl, nD⟩
        exact SqT.of (by rw [upd_ne (ne_of_none ht nD)]; exact ht)
      · rintro D i v zs H3 hv ⟨rfl, rfl, nD⟩ N hN
        rw [List.getElem?_map] at hv
        obtain ⟨n, hn, rfl⟩ := Option.map_eq_some_iff.mp hv
        have hi : i < 3 := (List.getElem?_eq_some_iff.mp hn).1
        walk_at "rd"
        refine ⟨n, rfl, _, upd_same, ?_, hN _ _ ⟨?_, upd_upd, nD⟩⟩
        · rw [List.length_map, List.length_take]
          exact small_size (by omega)
        · rw [List.take_add_one, hn, List.map_append]
          rfl
      · rintro D zs H3 nD ⟨rfl, rfl, _⟩
        try walk_at "rd"
        refine ⟨_, .inl ⟨SqL.of upd_same, fun l nl => q l _ ((same_upd nD).trans (same_upd nl)) ((same_upd nD).free nl) upd_same⟩⟩
    · have c__law_plain := cP
      obtain ⟨r1, r2, h0, h1, h2⟩ := atM hM
      refine ⟨_, (pss_cons (ps_if (pt_val (pe_callB call_isi rfl B.isinstance (by decide +kernel) (pa_cons (pv 0) (pa_cons (pe_bltn (v := .ty "tuple") rfl B.tuple boot_tuple rfl) pa_nil)))) (pss_one (ps_ret (pe_callTy cr_tupOf rfl B.tuple boot_tuple (pa_cons (pe_lc (own := [("item", 1)]) rfl sc__law_plain.nd (pi_tup (pv 0)) (blkOk_by (N := ["value", "item"]) (sc := defScope s__law_plain) (own := [("item", 1)]) (by decide +kernel)) (fun _ _ _ _ _ => (pg_name (i := 1) sc__law_plain.nd rfl (Or.inl rfl))) (fun _ _ _ _ _ => pts_nil) (fun _ _ _ _ _ => (pe_cal c__law_plain (hr.mono (by decide)) rfl (pa_cons (pv 1) pa_nil)))) pa_nil)))) pss_nil)
  (pss_one (ps_ret (pe_ifExp (PW.pt (pw_or (pt_cmpR op_isN (pv 0) pe_non (nomark _)) (pw_or1 (pt_val (pe_cal c__law_whole (hr.mono (by decide)) rfl (pa_cons (pv 0) pa_nil)))))) (pv 0) pe_str)))), ?_⟩
      walk_at "rd"
      refine isi_mk (.base (.tup h0)) (b := true) (by decide +kernel) ⟨true, rfl, ?_⟩
      rw [if_pos rfl]
      refine ⟨⟨_, SqT.of h0⟩, LcT.w (xs := [V.ref r1, V.ref r2]) (fun i D zs H3 => Same H H3 ∧ H3 D = some (.lst zs) ∧ H D = none ∧ Prs H3 zs ([m.1, m.2].take i)) (fun D nD => ⟨same_upd nD, upd_same, nD, trivial⟩) ?_ ?_ ?_⟩
      · rintro D i zs H3 _ ⟨sm, _, _, _⟩
        exact SqT.of (sm _ _ h0)
      · rintro D i v zs H3 hv ⟨sm, hD, nD, hP⟩ N hN
        have hi : i < 2 := (List.getElem?_eq_some_iff.mp hv).1
        have hz := hP.len
        have src : ∃ t q, v = .ref t ∧ H t = some (.tup [.int q.1, .int q.2]) ∧ [m.1, m.2][i]? = some q := by
          have c : i = 0 ∨ i = 1 := by omega
          rcases c with rfl | rfl
          · cases hv
            exact ⟨r1, m.1, rfl, h1, rfl⟩
          · cases hv
            exact ⟨r2, m.2, rfl, h2, rfl⟩
        obtain ⟨t, ⟨qa, qb⟩, rfl, ht, hq⟩ := src
        walk_at "rd"
        refine ⟨t, qa, qb, rfl, sm _ _ ht, fun p' H4 s4 np hp4 => ⟨zs, s4 _ _ hD, ?_, hN _ _ ⟨same_at (sm.trans s4) nD, upd_same, nD, ?_⟩⟩⟩
        · rw [hz, List.length_take]
          exact small_size (by omega)
        · rw [List.take_add_one, hq]
          have pl : Prs H4 [V.ref p'] [(qa, qb)] := ⟨⟨p', rfl, hp4⟩, trivial⟩
          exact ((hP.same s4).app pl).updL (s4 _ _ hD)
      · rintro D zs H3 nD ⟨sm, hD, _, hP⟩
        try walk_at "rd"
        have hP' : Prs H3 zs [m.1, m.2] := hP
        match zs, hP', hD with
        | [x, y], ⟨⟨t1, e1, g1⟩, ⟨t2, e2, g2⟩, _⟩, hD =>
          subst e1 e2
          exact ⟨_, .inl ⟨SqL.of hD, fun l nl => q l _ (sm.trans (same_upd nl)) (sm.free nl) ⟨l, t1, t2, rfl, upd_same, same_upd nl _ _ g1, same_upd nl _ _ g2⟩⟩⟩
    · refine ⟨_, (pss_cons (ps_if (pt_val (pe_callB call_isi rfl B.isinstance (by decide +kernel) (pa_cons (pv 0) (pa_cons (pe_bltn (v := .ty "tuple") rfl B.tuple boot_tuple rfl) pa_nil)))) pss_never pss_nil)
  (pss_one (ps_ret (pe_ifExp (PW.pt (pw_or (pt_cmpR op_isN (pv 0) pe_non (nomark _)) (pw_or1 (pt_val (pe_cal c__law_whole (hr.mono (by decide)) rfl (pa_cons (pv 0) pa_nil)))))) (pv 0) pe_str)))), ?_⟩
      walk_at "rd"
      refine isi_mk (.base .non) (b := false) (by decide +kernel) ⟨false, rfl, ?_⟩
      rw [if_neg Bool.false_ne_true]
      exact q
/-- a pair of a triple and a matrix -/
def spPlainR : Sp := fun vs H Q _ => ∃ (r t m : Addr) (a b c : Int) (M : M4), vs = [.ref r] ∧ H r = some (.tup [.ref t, .ref m]) ∧ H t = some (.tup [.int a, .int b, .int c]) ∧ IsM H (.ref m) M ∧
  ∀ r' t' m' H', Same H H' → H' r' = some (.tup [.ref t', .ref m']) → H' t' = some (.tup [.int a, .int b, .int c]) → IsM H' (.ref m') M → Q (.ref r') H'
theorem cal_plainR (D : Dn K mg "_law_plain" s__law_plain ["value"]) (B : Bl mg) (c__law_plain : Cal P w K mg base "_law_plain" 4 ["value"] spPlainTM) (c__law_whole : Cal P w K mg base "_law_whole" 1 ["value"] (spInt K)) : Cal P w K mg base "_law_plain" 5 ["value"] spPlainR := by
  refine D.cal sc__law_plain (fun vs H Q E h => ?_) (fun f cdv A outer s H vs Q E hr h => ?_)
  · obtain ⟨r, t, m, a, b, c, M, rfl, _⟩ := h
    rfl
  · obtain ⟨r, t, m, a, b, c, M, rfl, h0, ht, hM, q⟩ := h
    refine ⟨_, (pss_cons (ps_if (pt_val (pe_callB call_isi rfl B.isinstance (by decide +kernel) (pa_cons (pv 0) (pa_cons (pe_bltn (v := .ty "tuple") rfl B.tuple boot_tuple rfl) pa_nil)))) (pss_one (ps_ret (pe_callTy cr_tupOf rfl B.tuple boot_tuple (pa_cons (pe_lc (own := [("item", 1)]) rfl sc__law_plain.nd (pi_tup (pv 0)) (blkOk_by (N := ["value", "item"]) (sc := defScope s__law_plain) (own := [("item", 1)]) (by decide +kernel)) (fun _ _ _ _ _ => (pg_name (i := 1) sc__law_plain.nd rfl (Or.inl rfl))) (fun _ _ _ _ _ => pts_nil) (fun _ _ _ _ _ => (pe_cal c__law_plain (hr.mono (by decide)) rfl (pa_cons (pv 1) pa_nil)))) pa_nil)))) pss_nil)
  (pss_one (ps_ret (pe_ifExp (PW.pt (pw_or (pt_cmpR op_isN (pv 0) pe_non (nomark _)) (pw_or1 (pt_val (pe_cal c__law_whole (hr.mono (by decide)) rfl (pa_cons (pv 0) pa_nil)))))) (pv 0) pe_str)))), ?_⟩
    walk_at "rd"
    refine isi_mk (.base (.tup h0)) (b := true) (by decide +kernel) ⟨true, rfl, ?_⟩
    rw [if_pos rfl]
    refine ⟨⟨_, SqT.of h0⟩, LcT.w (xs := [V.ref t, V.ref m]) (fun i D zs H3 => Same H H3 ∧ H3 D = some (.lst zs) ∧ H D = none ∧ ((i = 0 ∧ zs = []) ∨ (i = 1 ∧ ∃ t', zs = [.ref t'] ∧ H3 t' = some (.tup [.int a, .int b, .int c])) ∨ (i = 2 ∧ ∃ t' m', zs = [.ref t', .ref m'] ∧ H3 t' = some (.tup [.int a, .int b, .int c]) ∧ IsM H3 (.ref m') M)))
      (fun D nD => ⟨same_upd nD, upd_same, nD, .inl ⟨rfl, rfl⟩⟩) ?_ ?_ ?_⟩
    · rintro D i zs H3 _ ⟨sm, _, _, _⟩
      exact SqT.of (sm _ _ h0)
    · rintro D i v zs H3 hv ⟨sm, hD, nD, hz⟩ N hN
      walk_at "rd"
      rcases hz with ⟨rfl, rfl⟩ | ⟨rfl, t', rfl, ht'⟩ | ⟨rfl, _⟩
      · cases hv
        refine ⟨_, rfl, .inl ⟨t, a, b, c, rfl, sm _ _ ht, fun p' H4 s4 np hp4 => ⟨_, s4 _ _ hD, small_size (by show 0 ≤ _; omega), hN _ _ ⟨same_at (sm.trans s4) nD, upd_same, nD, .inr (.inl ⟨rfl, p', rfl, ?_⟩)⟩⟩⟩⟩
        rw [upd_ne (ne_of hp4 (s4 _ _ hD) (by intro z; cases z))]
        exact hp4
      · cases hv
        refine ⟨_, rfl, .inr (.inl ⟨m, M, rfl, hM.same sm, fun p' H4 s4 np hp4 => ⟨_, s4 _ _ hD, small_size (by show 1 ≤ _; omega), hN _ _ ⟨same_at (sm.trans s4) nD, upd_same, nD, .inr (.inr ⟨rfl, t', p', rfl, ?_, ?_⟩)⟩⟩⟩)⟩
        · rw [upd_ne (ne_of (s4 _ _ ht') (s4 _ _ hD) (by intro z; cases z))]
          exact s4 _ _ ht'
        · obtain ⟨r', r1, r2, e, e0, e1, e2⟩ := hp4
          have k : ∀ {b us}, H4 b = some (.tup us) → (upd H4 D (.lst ([V.ref t'] ++ [V.ref p']))) b = some (.tup us) := fun {b us} e => by
            rw [upd_ne (ne_of e (s4 _ _ hD) (by intro z; cases z))]
            exact e
          exact ⟨r', r1, r2, e, k e0, k e1, k e2⟩
      · have := (List.getElem?_eq_some_iff.mp hv).1
        simp at this
    · rintro D zs H3 nD ⟨sm, hD, _, hz⟩
      try walk_at "rd"
      rcases hz with ⟨e, _⟩ | ⟨e, _⟩ | ⟨_, t', m', rfl, ht', hM'⟩
      · cases e
      · cases e
      · exact ⟨_, .inl ⟨SqL.of hD, fun l nl => q l t' m' _ (sm.trans (same_upd nl)) upd_same (same_upd nl _ _ ht') (hM'.same (same_upd nl))⟩⟩
end

section
variable {P : Program} {w : World} {K : PySem.W.Frag} {mg : Str → Option Value} {base : Heap} {CM CR : Addr}
/-! ### what is no form, no matrix -/
theorem ItsH.its {st : Addr} {H : Hp} {xs : List V} {ts : List String} (h : ItsH st H xs ts) : Its K H xs ts :=
  ⟨h.1, fun i x t hx ht => ⟨fun H' s => ((h.2 i x t hx ht).kp (.of s)).ty.1, ((h.2 i x t hx ht).ty (K := K)).2⟩⟩
theorem KdH.noTup {st : Addr} {H : Hp} {v : V} {T : String} (h : KdH st H v T) (e : (T == "tuple") = false) : NoTup K H v := ⟨T, h.ty.1, (h.ty (K := K)).2, e⟩
theorem BadH.badF {st : Addr} {H : Hp} {v : V} (h : BadH 3 st H v) : BadF K H v := by
  rcases h with ⟨T, h, e⟩ | ⟨p, xs, ts, rfl, hp, hI, hl, hb⟩
  · exact .inl (h.noTup e)
  · exact .inr ⟨p, xs, ts, rfl, hp, hI.its, hl, hb⟩
/-- a row that is bad, or good -/
theorem row_bad {n : Nat} {st : Addr} {H : Hp} {v : V} {Q : VK} {E : XK} (h : BadH n st H v) (q : ∀ H', Same H H' → Q (.bl false) H') : spRow K [v, .int (n : Int)] H Q E := by
  rcases h with ⟨T, h, e⟩ | ⟨p, xs, ts, rfl, hp, hI, hl, hb⟩
  · exact ⟨v, n, rfl, .inl ⟨h.noTup e, q _ (Same.refl H)⟩⟩
  · refine ⟨_, n, rfl, .inr ⟨p, xs, ts, rfl, hp, hI.its, hl, fun H' s => ?_⟩⟩
    have e : (decide (xs.length = n) && ts.all (· == "int")) = false := by
      rcases hb with h | h
      · rw [decide_eq_false h, Bool.false_and]
      · rw [h, Bool.and_false]
    rw [e]
    exact q _ s
theorem its2 {st : Addr} {H : Hp} {a b : Int} : ItsH st H [.int a, .int b] ["int", "int"] := itsH_flat rfl
theorem row_good {st p : Addr} {H : Hp} {a b : Int} {Q : VK} {E : XK} (h : H p = some (.tup [.int a, .int b])) (q : ∀ H', Same H H' → Q (.bl true) H') : spRow K [.ref p, .int 2] H Q E :=
  ⟨_, 2, rfl, .inr ⟨p, _, _, rfl, h, (its2 (st := st)).its, by show 2 < 1000; decide, fun H' s => q _ s⟩⟩
/-- no form, told by the heap -/
def NotFH (st : Addr) (H : Hp) (v : V) : Prop := BadH 3 st H v ∨ ∃ (p : Addr) (a b c : Int), v = .ref p ∧ H p = some (.tup [.int a, .int b, .int c]) ∧ formB a b c = false
theorem NotFH.kp {st : Addr} {H H' : Hp} {v : V} (s : Kp st H H') (h : NotFH st H v) : NotFH st H' v := by
  rcases h with h | ⟨p, a, b, c, rfl, hp, hf⟩
  · exact .inl (h.kp s)
  · exact .inr ⟨p, a, b, c, rfl, s.1 _ _ hp, hf⟩
theorem NotFH.notF {st : Addr} {H : Hp} {v : V} (h : NotFH st H v) : NotF K H v := by
  rcases h with h | h
  · exact .inl h.badF
  · exact .inr h
/-- no pair of rows of two integers -/
def NotPM (st : Addr) (H : Hp) (v : V) : Prop := (∃ T, KdH st H v T ∧ (T == "tuple") = false) ∨ (∃ (p : Addr) (xs : List V), v = .ref p ∧ H p = some (.tup xs) ∧ xs.length ≠ 2) ∨
  (∃ (p : Addr) (x y : V), v = .ref p ∧ H p = some (.tup [x, y]) ∧ (BadH 2 st H x ∨ ((∃ (q : Addr) (a b : Int), x = .ref q ∧ H q = some (.tup [.int a, .int b])) ∧ BadH 2 st H y)))
/-- no matrix -/
def NotMH (st : Addr) (H : Hp) (v : V) : Prop := NotPM st H v ∨ ∃ M, IsM H v M ∧ SzM 700 M ∧ detM M ≠ 1
theorem NotPM.kp {st : Addr} {H H' : Hp} {v : V} (s : Kp st H H') (h : NotPM st H v) : NotPM st H' v := by
  rcases h with ⟨T, h, e⟩ | ⟨p, xs, rfl, hp, hl⟩ | ⟨p, x, y, rfl, hp, h⟩
  · exact .inl ⟨T, h.kp s, e⟩
  · exact .inr (.inl ⟨p, xs, rfl, s.1 _ _ hp, hl⟩)
  · refine .inr (.inr ⟨p, x, y, rfl, s.1 _ _ hp, ?_⟩)
    rcases h with h | ⟨⟨q, a, b, rfl, hq⟩, h⟩
    · exact .inl (h.kp s)
    · exact .inr ⟨⟨q, a, b, rfl, s.1 _ _ hq⟩, h.kp s⟩
theorem NotMH.kp {st : Addr} {H H' : Hp} {v : V} (s : Kp st H H') (h : NotMH st H v) : NotMH st H' v := by
  rcases h with h | ⟨M, hM, h⟩
  · exact .inl (h.kp s)
  · exact .inr ⟨M, isM_kp s hM, h⟩
theorem or_M {st : Addr} {H : Hp} {v : V} {G : Bool → Prop} (h : (NotMH st H v ∧ G false) ∨ ∃ M, IsM H v M ∧ SzM 700 M ∧ detM M = 1 ∧ G true) : (NotPM st H v ∧ G false) ∨ ∃ M, IsM H v M ∧ SzM 700 M ∧ G (decide (detM M = 1)) := by
  rcases h with ⟨h | ⟨M, hM, sz, hd⟩, g⟩ | ⟨M, hM, sz, hd, g⟩
  · exact .inl ⟨h, g⟩
  · exact .inr ⟨M, hM, sz, by rw [decide_eq_false hd]; exact g⟩
  · exact .inr ⟨M, hM, sz, by rw [decide_eq_true hd]; exact g⟩
abbrev s_is_matrix : Stmt := top 20
theorem sc_is_matrix : FnScope ["value", "p", "q", "r", "s"] ["value"] (defScope s_is_matrix) := ⟨rfl, rfl, rfl, by decide +kernel, rfl, by decide +kernel, by decide +kernel⟩

def spIsMx : Sp := fun vs H Q _ => ∃ (st : Addr) (v : V), vs = [v] ∧ ((NotMH st H v ∧ ∀ H', Same H H' → Q (.bl false) H') ∨ ∃ M, IsM H v M ∧ SzM 700 M ∧ detM M = 1 ∧ ∀ H', Same H H' → Q (.bl true) H')
theorem cal_ismx (D : Dn K mg "is_matrix" s_is_matrix ["value"]) (B : Bl mg) (c_is_row : Cal P w K mg base "is_row" 2 ["value", "n"] (spRow K)) : Cal P w K mg base "is_matrix" 3 ["value"] spIsMx := by
  refine D.cal sc_is_matrix (fun vs H Q E h => ?_) (fun f cdv A outer s H vs Q E hr h => ?_)
  · obtain ⟨st, v, rfl, _⟩ := h
    rfl
  · obtain ⟨st, v, rfl, h⟩ := h
    refine ⟨_, (pss_cons (ps_if (PW.pt (pw_or (pt_not (pt_val (pe_callB call_isi rfl B.isinstance (by decide +kernel) (pa_cons (pv 0) (pa_cons (pe_bltn (v := .ty "tuple") rfl B.tuple boot_tuple rfl) pa_nil))))) (pw_or1 (pt_cmpR op_ne (pe_callB cr_lenS rfl B.len (by decide +kernel) (pa_cons (pv 0) pa_nil)) pe_int (nomark _))))) (pss_one (ps_ret pe_bl)) pss_nil)
  (pss_cons (ps_if (PW.pt (pw_or (pt_not (pt_val (pe_cal c_is_row (hr.mono (by decide)) rfl (pa_cons (pe_ix ix_tup (pv 0) pe_int (fun _ _ => rfl)) (pa_cons pe_int pa_nil))))) (pw_or1 (pt_not (pt_val (pe_cal c_is_row (hr.mono (by decide)) rfl (pa_cons (pe_ix ix_tup (pv 0) pe_int (fun _ _ => rfl)) (pa_cons pe_int pa_nil)))))))) (pss_one (ps_ret pe_bl)) pss_nil)
  (pss_cons (ps_asg (pv 0) (pg_tup rfl (pgs_cons (pg_tup rfl (pgs_cons (pg_name (i := 1) sc_is_matrix.nd rfl (Or.inl rfl)) (pgs_cons (pg_name (i := 2) sc_is_matrix.nd rfl (Or.inl rfl)) pgs_nil))) (pgs_cons (pg_tup rfl (pgs_cons (pg_name (i := 3) sc_is_matrix.nd rfl (Or.inl rfl)) (pgs_cons (pg_name (i := 4) sc_is_matrix.nd rfl (Or.inl rfl)) pgs_nil))) pgs_nil))))
  (pss_one (ps_ret (pe_cmpR op_eq (pe_op op_sub (pe_op op_mulI (pv 1) (pv 4)) (pe_op op_mulI (pv 2) (pv 3))) pe_int (nomark _))))))), ?_⟩
    walk_at "rd"
    rcases or_M (G := fun b => ∀ H', Same H H' → Q (.bl b) H') h with ⟨h, q⟩ | ⟨M, hM, sz, q⟩
    · rcases h with ⟨T, k, hT⟩ | ⟨p, xs, rfl, hp, hl⟩ | ⟨p, x, y, rfl, hp, h⟩
      · refine isi_mk k.ty.1 (kit_k (k.ty (K := K)).2 (by simp)) ⟨false, ?_, ?_⟩
        · rw [hT, show ("tuple" == "int") = false by decide, Bool.and_false, Bool.or_false]
        rw [if_pos (by decide)]
        exact q _ (Same.refl H)
      · refine isi_mk (.base (.tup hp)) (b := true) (by decide +kernel) ⟨true, rfl, ?_⟩
        rw [if_neg (by decide)]
        refine ⟨xs.length, .inr ⟨_, SqT.of hp, rfl⟩, ?_⟩
        exact ite2 (fun z => absurd (by omega) hl) (fun _ => q _ (Same.refl H))
      · refine isi_mk (.base (.tup hp)) (b := true) (by decide +kernel) ⟨true, rfl, ?_⟩
        rw [if_neg (by decide)]
        refine ⟨2, .inr ⟨_, SqT.of hp, rfl⟩, ?_⟩
        rw [if_pos (show ((2 : Nat) : Int) = 2 from rfl)]
        refine ⟨p, rfl, _, SqT.of hp, x, rfl, ?_⟩
        rcases h with h | ⟨⟨t, a, b, rfl, ht⟩, h⟩
        · refine row_bad h fun H1 s1 => ⟨false, rfl, ?_⟩
          rw [if_pos (by decide)]
          exact q _ s1
        · refine row_good (st := st) ht fun H1 s1 => ⟨true, rfl, ?_⟩
          rw [if_neg (by decide)]
          refine ⟨p, rfl, _, SqT.of (s1 _ _ hp), y, rfl, row_bad (h.kp (.of s1)) fun H2 s2 => ⟨false, rfl, ?_⟩⟩
          rw [if_pos (by decide)]
          exact q _ (s1.trans s2)
    obtain ⟨r, r1, r2, rfl, h0, h1, h2⟩ := hM
    obtain ⟨z1, z2, z3, z4⟩ := sz
    refine isi_mk (.base (.tup h0)) (b := true) (by decide +kernel) ⟨true, rfl, ?_⟩
    rw [if_neg (by decide)]
    refine ⟨2, .inr ⟨_, SqT.of h0, rfl⟩, ?_⟩
    rw [if_pos (show ((2 : Nat) : Int) = 2 from rfl)]
    refine ⟨r, rfl, _, SqT.of h0, _, rfl, row_good (st := 0) h1 fun H1 s1 => ⟨true, rfl, ?_⟩⟩
    rw [if_neg (by decide)]
    refine ⟨r, rfl, _, SqT.of (s1 _ _ h0), _, rfl, row_good (st := 0) (s1 _ _ h2) fun H2 s2 => ⟨true, rfl, ?_⟩⟩
    rw [if_neg (by decide)]
    have F0 := SqT.of (K := K) (s2 _ _ (s1 _ _ h0))
    have F1 := SqT.of (K := K) (s2 _ _ (s1 _ _ h1))
    have F2 := SqT.of (K := K) (s2 _ _ (s1 _ _ h2))
    refine ⟨r, rfl, _, F0, rfl, ?_⟩
    refine ⟨_, _, rfl, r1, rfl, _, F1, rfl, _, _, rfl, _, _, rfl, rfl, _, _, rfl, r2, rfl, _, F2, rfl, _, _, rfl, _, _, rfl, rfl, rfl, ?_⟩
    walk_at "rd"
    exact ⟨z1.ok z4 (by decide) (by decide), z2.ok z3 (by decide) (by decide), q _ (s1.trans s2)⟩
end

section
variable {P : Program} {w : World} {K : PySem.W.Frag} {mg : Str → Option Value} {base : Heap} {CM CR : Addr}
abbrev s_check_matrix : Stmt := top 23
theorem sc_check_matrix : FnScope ["m"] ["m"] (defScope s_check_matrix) := ⟨rfl, rfl, rfl, by decide +kernel, rfl, by decide +kernel, by decide +kernel⟩

def spChkM (CM : Addr) : Sp := fun vs H Q E => ∃ (st : Addr) (v : V), vs = [v] ∧ ((NotMH st H v ∧ ∀ H', Same H H' → E (.ref CM) none H') ∨ ∃ M, IsM H v M ∧ SzM 700 M ∧ detM M = 1 ∧ ∀ H', Same H H' → Q .non H')
theorem cal_chkm (D : Dn K mg "check_matrix" s_check_matrix ["m"]) (B : Bl mg) (c_is_matrix : Cal P w K mg base "is_matrix" 3 ["value"] spIsMx) (e_E : ErrI P w K mg base CM CR) : CalX P w K mg base "check_matrix" 4 ["m"] (spChkM CM) := by
  refine D.calX sc_check_matrix (fun vs H Q E h => ?_) (fun f cdv A outer s H vs Q E hr h => ?_)
  · obtain ⟨st, v, rfl, _⟩ := h
    rfl
  · obtain ⟨st, v, rfl, h⟩ := h
    refine ⟨_, (pss_one (ps_if (pt_not (pt_val (pe_cal c_is_matrix (hr.mono (by decide)) rfl (pa_cons (pv 0) pa_nil)))) (pss_one (ps_mal e_E.m rfl (takes_of rfl rfl rfl rfl) rfl)) pss_nil)), ?_⟩
    walk_at "rd"
    rcases h with ⟨h, q⟩ | ⟨M, hM, sz, hd, q⟩
    · exact ⟨st, v, rfl, .inl ⟨h, fun H' s => ⟨false, rfl, by rw [if_pos (by decide)]; exact q H' s⟩⟩⟩
    · exact ⟨st, v, rfl, .inr ⟨M, hM, sz, hd, fun H' s => ⟨true, rfl, by rw [if_neg (by decide)]; exact q H' s⟩⟩⟩
abbrev s_check_items : Stmt := top 24
theorem sc_check_items : FnScope ["f"] ["f"] (defScope s_check_items) := ⟨rfl, rfl, rfl, by decide +kernel, rfl, by decide +kernel, by decide +kernel⟩

def Large (CR : Addr) (H : Hp) (E : XK) : Prop := ∀ d H', Same H H' → H d = none → H' d = some (.xd [("reason", .str "large")]) → E (.ref CR) (some d) H'
def spChkI (CR : Addr) : Sp := fun vs H Q E => ∃ (p : Addr) (a b c : Int), vs = [.ref p] ∧ H p = some (.tup [.int a, .int b, .int c]) ∧ ((lgB a b c = true ∧ Large CR H E) ∨ (lgB a b c = false ∧ ∀ H', Same H H' → Q .non H'))
theorem cal_chki (D : Dn K mg "check_items" s_check_items ["f"]) (B : Bl mg) (c_is_large : Cal P w K mg base "is_large" 1 ["f"] spLarge) (e_E : ErrI P w K mg base CM CR) : CalX P w K mg base "check_items" 3 ["f"] (spChkI CR) := by
  refine D.calX sc_check_items (fun vs H Q E h => ?_) (fun f cdv A outer s H vs Q E hr h => ?_)
  · obtain ⟨p, a, b, c, rfl, _⟩ := h
    rfl
  · obtain ⟨p, a, b, c, rfl, hp, h⟩ := h
    refine ⟨_, (pss_one (ps_if (pt_val (pe_cal c_is_large (hr.mono (by decide)) rfl (pa_cons (pv 0) pa_nil))) (pss_one (ps_ref e_E rfl (takes_of rfl rfl rfl rfl) (hr.mono (by decide)) rfl)) pss_nil)), ?_⟩
    walk_at "rd"
    rcases h with ⟨hl, e⟩ | ⟨hl, q⟩
    · exact ⟨p, a, b, c, rfl, hp, fun H1 s1 => ⟨_, rfl, by rw [if_pos hl]; exact fun d H' s nd hx => e d H' (s1.trans s) (s1.free nd) hx⟩⟩
    · exact ⟨p, a, b, c, rfl, hp, fun H1 s1 => ⟨_, rfl, by rw [hl, if_neg (by decide)]; exact q H1 s1⟩⟩
theorem form_lg {a b c : Int} (h : formB a b c = true) : lgB a b c = false := by
  unfold formB at h
  simp only [Bool.and_eq_true, Bool.not_eq_true'] at h
  exact h.1
theorem form_sz {a b c : Int} (h : lgB a b c = false) : Sz 200 a ∧ Sz 200 b ∧ Sz 200 c := by
  have := lgB_no h
  unfold B60 at this
  unfold Sz
  refine ⟨?_, ?_, ?_⟩ <;> omega
/-- the word of a form's own: no form, or one -/
def OrF (K : PySem.W.Frag) (CM : Addr) (H : Hp) (v : V) (E : XK) (G : Addr → Int → Int → Int → Prop) : Prop := (NotF K H v ∧ ∀ H', Same H H' → E (.ref CM) none H') ∨ ∃ (p : Addr) (a b c : Int), v = .ref p ∧ H p = some (.tup [.int a, .int b, .int c]) ∧ formB a b c = true ∧ G p a b c
theorem OrF.chk {K : PySem.W.Frag} {CM : Addr} {H : Hp} {v : V} {E : XK} {G : Addr → Int → Int → Int → Prop} {Q : VK} (h : OrF K CM H v E G) (q : ∀ p a b c H', v = .ref p → Same H H' → H' p = some (.tup [.int a, .int b, .int c]) → formB a b c = true → G p a b c → Q .non H') : spChkF K CM [v] H Q E := by
  refine ⟨v, rfl, ?_⟩
  rcases h with ⟨h, e⟩ | ⟨p, a, b, c, rfl, hp, hf, g⟩
  · exact .inl ⟨h, e⟩
  · exact .inr ⟨p, a, b, c, rfl, hp, hf, fun H' s => q p a b c H' rfl s (s _ _ hp) hf g⟩
abbrev s_inverse_matrix : Stmt := top 27
theorem sc_inverse_matrix : FnScope ["m", "p", "q", "r", "s"] ["m"] (defScope s_inverse_matrix) := ⟨rfl, rfl, rfl, by decide +kernel, rfl, by decide +kernel, by decide +kernel⟩

def spInvM (CM : Addr) : Sp := fun vs H Q E => ∃ (st : Addr) (m : V), vs = [m] ∧ ((NotMH st H m ∧ ∀ H', Same H H' → E (.ref CM) none H') ∨ ∃ M, IsM H m M ∧ SzM 700 M ∧ detM M = 1 ∧ ∀ p H', Same H H' → H p = none → IsM H' (.ref p) (invM M) → Q (.ref p) H')
theorem cal_invm (D : Dn K mg "inverse_matrix" s_inverse_matrix ["m"]) (B : Bl mg) (c_check_matrix : CalX P w K mg base "check_matrix" 4 ["m"] (spChkM CM)) : CalX P w K mg base "inverse_matrix" 5 ["m"] (spInvM CM) := by
  refine D.calX sc_inverse_matrix (fun vs H Q E h => ?_) (fun f cdv A outer s H vs Q E hr h => ?_)
  · obtain ⟨st, m, rfl, _⟩ := h
    rfl
  · obtain ⟨st, m, rfl, h⟩ := h
    refine ⟨_, (pss_cons (ps_expr (pe_calS c_check_matrix (takes_of rfl rfl rfl rfl) (hr.mono (by decide)) rfl (pa_cons (pv 0) pa_nil)))
  (pss_cons (ps_asg (pv 0) (pg_tup rfl (pgs_cons (pg_tup rfl (pgs_cons (pg_name (i := 1) sc_inverse_matrix.nd rfl (Or.inl rfl)) (pgs_cons (pg_name (i := 2) sc_inverse_matrix.nd rfl (Or.inl rfl)) pgs_nil))) (pgs_cons (pg_tup rfl (pgs_cons (pg_name (i := 3) sc_inverse_matrix.nd rfl (Or.inl rfl)) (pgs_cons (pg_name (i := 4) sc_inverse_matrix.nd rfl (Or.inl rfl)) pgs_nil))) pgs_nil))))
  (pss_one (ps_ret (pe_tup (pa_cons (pe_tup (pa_cons (pv 4) (pa_cons (pe_un un_neg (pv 2)) pa_nil))) (pa_cons (pe_tup (pa_cons (pe_un un_neg (pv 3)) (pa_cons (pv 1) pa_nil))) pa_nil))))))), ?_⟩
    rw [CB.rd_seq]
    walk_at "rs"
    rcases h with ⟨g, e⟩ | ⟨M, hM, sz, hd, g⟩
    · exact ⟨st, m, rfl, .inl ⟨g, e⟩⟩
    refine ⟨st, m, rfl, .inr ⟨M, hM, sz, hd, fun H1 s1 => ?_⟩⟩
    obtain ⟨r, r1, r2, rfl, h0, h1, h2⟩ := hM.same s1
    show tSeq _ _ _ _ _
    rw [CB.rd_seq]
    walk_at "rs"
    have F0 := SqT.of (K := K) h0
    have F1 := SqT.of (K := K) h1
    have F2 := SqT.of (K := K) h2
    refine ⟨_, F0, rfl, _, _, rfl, r1, rfl, _, F1, rfl, _, _, rfl, _, _, rfl, rfl, _, _, rfl, r2, rfl, _, F2, rfl, _, _, rfl, _, _, rfl, rfl, rfl, ?_⟩
    walk_at "rs"
    refine ⟨by decide, fun p1 n1 => ⟨by decide, fun p2 n2 => ⟨by decide, fun p3 n3 => ?_⟩⟩⟩
    obtain ⟨sA, mA⟩ := newM n1 n2 n3
    exact g p3 _ (s1.trans sA) (s1.free (((same_upd n1).trans (same_upd n2)).free n3)) mA
abbrev s_matrix_product : Stmt := top 26
theorem sc_matrix_product : FnScope ["m", "n", "p", "q", "r", "s", "t", "u", "v", "w"] ["m", "n"] (defScope s_matrix_product) := ⟨rfl, rfl, rfl, by decide +kernel, rfl, by decide +kernel, by decide +kernel⟩

def spPrdM (CM : Addr) : Sp := fun vs H Q E => ∃ (st : Addr) (m n : V), vs = [m, n] ∧ ((NotMH st H m ∧ ∀ H', Same H H' → E (.ref CM) none H') ∨ ∃ M, IsM H m M ∧ SzM 700 M ∧ detM M = 1 ∧ ((NotMH st H n ∧ ∀ H', Same H H' → E (.ref CM) none H') ∨
  ∃ N, IsM H n N ∧ SzM 700 N ∧ detM N = 1 ∧ ∀ p H', Same H H' → H p = none → IsM H' (.ref p) (mulM M N) → Q (.ref p) H'))
theorem cal_prdm (D : Dn K mg "matrix_product" s_matrix_product ["m", "n"]) (B : Bl mg) (c_check_matrix : CalX P w K mg base "check_matrix" 4 ["m"] (spChkM CM)) : CalX P w K mg base "matrix_product" 5 ["m", "n"] (spPrdM CM) := by
  refine D.calX sc_matrix_product (fun vs H Q E h => ?_) (fun f cdv A outer s H vs Q E hr h => ?_)
  · obtain ⟨st, m, n, rfl, _⟩ := h
    rfl
  · obtain ⟨st, m, n, rfl, h⟩ := h
    refine ⟨_, (pss_cons (ps_expr (pe_calS c_check_matrix (takes_of rfl rfl rfl rfl) (hr.mono (by decide)) rfl (pa_cons (pv 0) pa_nil)))
  (pss_cons (ps_expr (pe_calS c_check_matrix (takes_of rfl rfl rfl rfl) (hr.mono (by decide)) rfl (pa_cons (pv 1) pa_nil)))
  (pss_cons (ps_asg (pv 0) (pg_tup rfl (pgs_cons (pg_tup rfl (pgs_cons (pg_name (i := 2) sc_matrix_product.nd rfl (Or.inl rfl)) (pgs_cons (pg_name (i := 3) sc_matrix_product.nd rfl (Or.inl rfl)) pgs_nil))) (pgs_cons (pg_tup rfl (pgs_cons (pg_name (i := 4) sc_matrix_product.nd rfl (Or.inl rfl)) (pgs_cons (pg_name (i := 5) sc_matrix_product.nd rfl (Or.inl rfl)) pgs_nil))) pgs_nil))))
  (pss_cons (ps_asg (pv 1) (pg_tup rfl (pgs_cons (pg_tup rfl (pgs_cons (pg_name (i := 6) sc_matrix_product.nd rfl (Or.inl rfl)) (pgs_cons (pg_name (i := 7) sc_matrix_product.nd rfl (Or.inl rfl)) pgs_nil))) (pgs_cons (pg_tup rfl (pgs_cons (pg_name (i := 8) sc_matrix_product.nd rfl (Or.inl rfl)) (pgs_cons (pg_name (i := 9) sc_matrix_product.nd rfl (Or.inl rfl)) pgs_nil))) pgs_nil))))
  (pss_one (ps_ret (pe_tup (pa_cons (pe_tup (pa_cons (pe_op op_add (pe_op op_mulI (pv 2) (pv 6)) (pe_op op_mulI (pv 3) (pv 8))) (pa_cons (pe_op op_add (pe_op op_mulI (pv 2) (pv 7)) (pe_op op_mulI (pv 3) (pv 9))) pa_nil))) (pa_cons (pe_tup (pa_cons (pe_op op_add (pe_op op_mulI (pv 4) (pv 6)) (pe_op op_mulI (pv 5) (pv 8))) (pa_cons (pe_op op_add (pe_op op_mulI (pv 4) (pv 7)) (pe_op op_mulI (pv 5) (pv 9))) pa_nil))) pa_nil))))))))), ?_⟩
    rw [CB.rd_seq]
    walk_at "rs"
    rcases h with ⟨g, e⟩ | ⟨M, hM, sz, hd, g⟩
    · exact ⟨st, m, rfl, .inl ⟨g, e⟩⟩
    refine ⟨st, m, rfl, .inr ⟨M, hM, sz, hd, fun H1 s1 => ?_⟩⟩
    show tSeq _ _ _ _ _
    rw [CB.rd_seq]
    walk_at "rs"
    rcases g with ⟨g, e⟩ | ⟨N, hN, sn, hdn, q⟩
    · exact ⟨st, n, rfl, .inl ⟨g.kp (.of s1), fun H' s => e H' (s1.trans s)⟩⟩
    refine ⟨st, n, rfl, .inr ⟨N, hN.same s1, sn, hdn, fun H2 s2 => ?_⟩⟩
    obtain ⟨r, r1, r2, rfl, h0, h1, h2⟩ := hM.same (s1.trans s2)
    obtain ⟨t, t1, t2, rfl, g0, g1, g2⟩ := hN.same (s1.trans s2)
    show tSeq _ _ _ _ _
    rw [CB.rd_seq]
    walk_at "rs"
    have F0 := SqT.of (K := K) h0
    have F1 := SqT.of (K := K) h1
    have F2 := SqT.of (K := K) h2
    refine ⟨_, F0, rfl, _, _, rfl, r1, rfl, _, F1, rfl, _, _, rfl, _, _, rfl, rfl, _, _, rfl, r2, rfl, _, F2, rfl, _, _, rfl, _, _, rfl, rfl, rfl, ?_⟩
    show tSeq _ _ _ _ _
    rw [CB.rd_seq]
    walk_at "rs"
    have G0 := SqT.of (K := K) g0
    have G1 := SqT.of (K := K) g1
    have G2 := SqT.of (K := K) g2
    refine ⟨_, G0, rfl, _, _, rfl, t1, rfl, _, G1, rfl, _, _, rfl, _, _, rfl, rfl, _, _, rfl, t2, rfl, _, G2, rfl, _, _, rfl, _, _, rfl, rfl, rfl, ?_⟩
    walk_at "rs"
    obtain ⟨m1, m2, m3, m4⟩ := sz
    obtain ⟨n1, n2, n3, n4⟩ := sn
    refine ⟨m1.ok n1 (by decide) (by decide), m2.ok n3 (by decide) (by decide), m1.ok n2 (by decide) (by decide), m2.ok n4 (by decide) (by decide), by decide, fun p1 e1 => ⟨m3.ok n1 (by decide) (by decide), m4.ok n3 (by decide) (by decide), m3.ok n2 (by decide) (by decide), m4.ok n4 (by decide) (by decide), by decide, fun p2 e2 => ⟨by decide, fun p3 e3 => ?_⟩⟩⟩
    obtain ⟨sA, mA⟩ := newM e1 e2 e3
    exact q p3 _ ((s1.trans s2).trans sA) ((s1.trans s2).free (((same_upd e1).trans (same_upd e2)).free e3)) mA
end

/-! ### matrices, values and triples drawn -/
section
variable {P : Program} {w : World} {K : PySem.W.Frag} {mg : Str → Option Value} {base : Heap} {CM CR : Addr}
theorem isM_but {st : Addr} {H H' : Hp} {l : List V} {x : V} {m : M4} (hs : H st = some (.lst l)) (s : But st H H') (h : IsM H x m) : IsM H' x m := by
  obtain ⟨r, r1, r2, q, e, e1, e2⟩ := h
  exact ⟨r, r1, r2, q, s _ _ (ne_of e hs (by intro z; cases z)) e, s _ _ (ne_of e1 hs (by intro z; cases z)) e1, s _ _ (ne_of e2 hs (by intro z; cases z)) e2⟩
abbrev s__law_matrix : Stmt := top 58
theorem sc__law_matrix : FnScope ["state", "turns", "most", "found", "turn", "k"] ["state", "turns", "most"] (defScope s__law_matrix) := ⟨rfl, rfl, rfl, by decide +kernel, rfl, by decide +kernel, by decide +kernel⟩

def spMat : Sp := fun vs H Q _ => ∃ (st : Addr) (x y t n : Int), vs = [.ref st, .int t, .int n] ∧ H st = some (.lst [.int x, .int y]) ∧ 0 ≤ t ∧ t ≤ 8 ∧ 1 ≤ n ∧ n ≤ 100000000000000000000 ∧
  ∀ p m x' y' H', But st H H' → H' st = some (.lst [.int x', .int y']) → IsM H' (.ref p) m → detM m = 1 → SzM 600 m → Q (.ref p) H'
theorem cal_matrix (D : Dn K mg "_law_matrix" s__law_matrix ["state", "turns", "most"]) (B : Bl mg) (c__law_take : Cal P w K mg base "_law_take" 1 ["state", "m"] spTake) (c__law_product : Cal P w K mg base "_law_product" 1 ["m", "n"] spProd) : Cal P w K mg base "_law_matrix" 2 ["state", "turns", "most"] spMat := by
  refine D.cal sc__law_matrix (fun vs H Q E h => ?_) (fun f cdv A outer s H vs Q E hr h => ?_)
  · obtain ⟨st, x, y, t, n, rfl, _⟩ := h
    rfl
  · obtain ⟨st, x, y, t, n, rfl, hst, t0, t8, n1, n2, q⟩ := h
    refine ⟨_, (pss_cons (ps_set (i := 3) sc__law_matrix.nd rfl (Or.inl rfl) (pe_tup (pa_cons (pe_tup (pa_cons pe_int (pa_cons pe_int pa_nil))) (pa_cons (pe_tup (pa_cons pe_int (pa_cons pe_int pa_nil))) pa_nil))))
  (pss_cons (ps_for PassesOwn.never rfl (pi_range1 rfl B.range (pa_cons (pv 1) pa_nil)) (pg_name (i := 4) sc__law_matrix.nd rfl (Or.inl rfl)) (pss_cons (ps_set (i := 5) sc__law_matrix.nd rfl (Or.inl rfl) (pe_op op_sub (pe_cal c__law_take (hr.mono (by decide)) rfl (pa_cons (pv 0) (pa_cons (pe_op op_add (pe_op op_mulI pe_int (pv 2)) pe_int) pa_nil))) (pv 2)))
  (pss_one (ps_set (i := 3) sc__law_matrix.nd rfl (Or.inl rfl) (pe_cal c__law_product (hr.mono (by decide)) rfl (pa_cons (pv 3) (pa_cons (pe_ix ix_list (pe_lst (pa_cons (pe_tup (pa_cons (pe_tup (pa_cons pe_int (pa_cons (pv 5) pa_nil))) (pa_cons (pe_tup (pa_cons pe_int (pa_cons pe_int pa_nil))) pa_nil))) (pa_cons (pe_tup (pa_cons (pe_tup (pa_cons pe_int (pa_cons pe_int pa_nil))) (pa_cons (pe_tup (pa_cons (pv 5) (pa_cons pe_int pa_nil))) pa_nil))) (pa_cons (pe_tup (pa_cons (pe_tup (pa_cons pe_int (pa_cons (pe_un un_neg pe_int) pa_nil))) (pa_cons (pe_tup (pa_cons pe_int (pa_cons (pv 5) pa_nil))) pa_nil))) pa_nil)))) (pe_cal c__law_take (hr.mono (by decide)) rfl (pa_cons (pv 0) (pa_cons pe_int pa_nil))) (fun _ _ => rfl)) pa_nil)))))))
  (pss_one (ps_ret (pv 3))))), ?_⟩
    rw [CB.rd_seq]
    walk_at "rs"
    refine ⟨by decide, fun p np => ⟨by decide, fun p1 np1 => ⟨by decide, fun p2 np2 => ?_⟩⟩⟩
    have st0 : Same H (upd (upd (upd H p (.tup [.int 1, .int 0])) p1 (.tup [.int 0, .int 1])) p2 (.tup [.ref p, .ref p1])) := ((same_upd np).trans (same_upd np1)).trans (same_upd np2)
    have m0 : IsM (upd (upd (upd H p (.tup [.int 1, .int 0])) p1 (.tup [.int 0, .int 1])) p2 (.tup [.ref p, .ref p1])) (.ref p2) ((1, 0), (0, 1)) := ⟨p2, p, p1, rfl, upd_same, same_upd np2 _ _ (same_upd np1 _ _ upd_same), same_upd np2 _ _ upd_same⟩
    generalize upd (upd (upd H p (.tup [.int 1, .int 0])) p1 (.tup [.int 0, .int 1])) p2 (.tup [.ref p, .ref p1]) = H0 at *
    rw [CB.rd_seq]
    walk_at "rs"
    refine ⟨by omega, by omega, ?_⟩
    refine ForR.w (fun i σ H1 => ∃ g m x y s4 s5, σ = [some (.ref st), some (.int t), some (.int n), some (.ref g), s4, s5] ∧ But st H H1 ∧ H1 st = some (.lst [.int x, .int y]) ∧ IsM H1 (.ref g) m ∧ detM m = 1 ∧ SzM (1 + 71 * i) m ∧ i ≤ 8) ⟨p2, _, x, y, _, _, rfl, fun b o _ e => st0 _ _ e, st0 _ _ hst, m0, rfl, ⟨by unfold Sz; decide, by unfold Sz; decide, by unfold Sz; decide, by unfold Sz; decide⟩, by decide⟩ ?_ ?_
    · rintro i σ H1 hi ⟨g, m, x1, y1, s4, s5, rfl, bt, h1, hM, hd, hs, h8⟩ N hN
      have hi8 : i < 8 := by omega
      walk_at "rs"
      rw [CB.rd_seq]
      walk_at "rs"
      refine ⟨mulL (by decide), st, x1, y1, 2 * n + 1, rfl, h1, by omega, Nat.lt_of_le_of_lt (log_lt (k := 79) (by show (2 * n + 1).natAbs < 2 ^ 80; omega)) (by decide), fun v x2 y2 v0 v1 => ?_⟩
      have bt2 : But st H (upd H1 st (.lst [.int x2, .int y2])) := bt.upd
      have hM2 : IsM (upd H1 st (.lst [.int x2, .int y2])) (.ref g) m := isM_but h1 But.refl.upd hM
      have hs2 : upd H1 st (.lst [.int x2, .int y2]) st = some (.lst [.int x2, .int y2]) := upd_same
      generalize upd H1 st (.lst [.int x2, .int y2]) = H2 at *
      refine ⟨v, rfl, by decide, fun p1 n1 => ⟨by decide, fun p2 n2 => ⟨by decide, fun p3 n3 => ?_⟩⟩⟩
      obtain ⟨sA, mA⟩ := newM n1 n2 n3
      generalize upd (upd (upd H2 p1 _) p2 _) p3 _ = HA at *
      refine ⟨by decide, fun p4 n4 => ⟨by decide, fun p5 n5 => ⟨by decide, fun p6 n6 => ?_⟩⟩⟩
      obtain ⟨sB, mB⟩ := newM n4 n5 n6
      generalize upd (upd (upd HA p4 _) p5 _) p6 _ = HB at *
      refine ⟨by decide, fun p7 n7 => ⟨by decide, fun p8 n8 => ⟨by decide, fun p9 n9 => ?_⟩⟩⟩
      obtain ⟨sC, mC⟩ := newM n7 n8 n9
      generalize upd (upd (upd HB p7 _) p8 _) p9 _ = HC at *
      refine ⟨by decide, fun l nl => ?_⟩
      have sL : Same H2 (upd HC l (.lst [.ref p3, .ref p6, .ref p9])) := ((sA.trans sB).trans sC).trans (same_upd nl)
      have mA' := ((mA.same sB).same sC).same (same_upd (o := .lst [.ref p3, .ref p6, .ref p9]) nl)
      have mB' := (mB.same sC).same (same_upd (o := .lst [.ref p3, .ref p6, .ref p9]) nl)
      have mC' := mC.same (same_upd (o := .lst [.ref p3, .ref p6, .ref p9]) nl)
      have hl : upd HC l (.lst [.ref p3, .ref p6, .ref p9]) l = some (.lst [.ref p3, .ref p6, .ref p9]) := upd_same
      have sl : st ≠ l := ne_of_none (sC _ _ (sB _ _ (sA _ _ hs2))) nl
      generalize upd HC l (.lst [.ref p3, .ref p6, .ref p9]) = HL at *
      have hsL := sL _ _ hs2
      refine ⟨st, x2, y2, 3, rfl, hsL, by decide, by decide +kernel, fun u x3 y3 u0 u1 => ?_⟩
      have bu : But st HL (upd HL st (.lst [.int x3, .int y3])) := But.refl.upd
      have pick : ∃ q mq, atI [V.ref p3, V.ref p6, V.ref p9] u = some (.ref q) ∧ IsM (upd HL st (.lst [.int x3, .int y3])) (.ref q) mq ∧ detM mq = 1 ∧ SzM 70 mq := by
        have z0 : Sz 70 0 := by unfold Sz; decide
        have z1 : Sz 70 1 := by unfold Sz; decide
        have zm : Sz 70 (-1) := by unfold Sz; decide
        have zk : Sz 70 (v - n) := by unfold Sz; omega
        have c : u = 0 ∨ u = 1 ∨ u = 2 := by omega
        rcases c with rfl | rfl | rfl
        · exact ⟨p3, _, rfl, isM_but hsL bu mA', by simp [detM], ⟨z1, zk, z0, z1⟩⟩
        · exact ⟨p6, _, rfl, isM_but hsL bu mB', by simp [detM], ⟨z1, z0, zk, z1⟩⟩
        · exact ⟨p9, _, rfl, isM_but hsL bu mC', by simp [detM], ⟨z0, zm, z1, zk⟩⟩
      obtain ⟨q', mq, eq', hq, dq, sq⟩ := pick
      have le1400 : ∀ {k : Nat} {m : M4}, SzM k m → k ≤ 1400 → SzM 1400 m := fun {k m} h c => ⟨h.1.le c, h.2.1.le c, h.2.2.1.le c, h.2.2.2.le c⟩
      refine ⟨_, u, rfl, SqL.of (by rw [upd_ne sl.symm]; exact hl), _, eq', g, q', m, mq, rfl, isM_but hsL bu (hM2.same sL), hq, le1400 hs (by omega), le1400 sq (by omega), fun p' H'' s'' np' hM'' => ?_⟩
      have btL : But st H HL := bt2.same sL
      refine hN _ _ ⟨p', _, x3, y3, _, _, rfl, (btL.trans bu).same s'', s'' _ _ upd_same, hM'', detM_mul hd dq, ?_, by omega⟩
      have z := mulM_sz hs sq
      rw [show 1 + 71 * i + 70 + 1 = 1 + 71 * (i + 1) by omega] at z
      exact z
    · rintro σ H1 ⟨g, m, x1, y1, s4, s5, rfl, bt, h1, hM, hd, hs, h8⟩
      walk_at "rs"
      exact q g m x1 y1 H1 bt h1 hM hd ⟨hs.1.le (by omega), hs.2.1.le (by omega), hs.2.2.1.le (by omega), hs.2.2.2.le (by omega)⟩
abbrev s__law_strange : Stmt := top 61
theorem sc__law_strange : FnScope ["state", "values"] ["state"] (defScope s__law_strange) := ⟨rfl, rfl, rfl, by decide +kernel, rfl, by decide +kernel, by decide +kernel⟩

def spStrange : Sp := fun vs H Q _ => ∃ (st : Addr) (x y : Int), vs = [.ref st] ∧ H st = some (.lst [.int x, .int y]) ∧ ∀ v x' y' H', But st H H' → H' st = some (.lst [.int x', .int y']) → NotFH st H' v → Q v H'
theorem cal_strange (D : Dn K mg "_law_strange" s__law_strange ["state"]) (B : Bl mg) (c__law_take : Cal P w K mg base "_law_take" 1 ["state", "m"] spTake) : Cal P w K mg base "_law_strange" 2 ["state"] spStrange := by
  refine D.cal sc__law_strange (fun vs H Q E h => ?_) (fun f cdv A outer s H vs Q E hr h => ?_)
  · obtain ⟨st, x, y, rfl, _⟩ := h
    rfl
  · obtain ⟨st, x, y, rfl, hst, q⟩ := h
    refine ⟨_, (pss_cons (ps_set (i := 1) sc__law_strange.nd rfl (Or.inl rfl) (pe_lst (pa_cons pe_non (pa_cons pe_bl (pa_cons pe_str (pa_cons (pe_tup pa_nil) (pa_cons (pe_tup (pa_cons pe_int (pa_cons pe_int pa_nil))) (pa_cons (pe_tup (pa_cons pe_int (pa_cons pe_int (pa_cons pe_int (pa_cons pe_int pa_nil))))) (pa_cons (pe_lst (pa_cons pe_int (pa_cons pe_int (pa_cons pe_int pa_nil)))) (pa_cons (pe_tup (pa_cons pe_int (pa_cons pe_int (pa_cons pe_str pa_nil)))) (pa_cons (pe_tup (pa_cons pe_int (pa_cons pe_bl (pa_cons pe_int pa_nil)))) (pa_cons (pe_tup (pa_cons pe_int (pa_cons pe_int (pa_cons pe_int pa_nil)))) (pa_cons (pe_tup (pa_cons pe_int (pa_cons pe_int (pa_cons pe_int pa_nil)))) (pa_cons (pe_tup (pa_cons (pe_un un_neg pe_int) (pa_cons pe_int (pa_cons (pe_un un_neg pe_int) pa_nil)))) (pa_cons (pe_tup (pa_cons pe_int (pa_cons pe_int (pa_cons pe_int pa_nil)))) (pa_cons pe_int (pa_cons (pe_tup (pa_cons (pe_tup (pa_cons pe_int (pa_cons pe_int (pa_cons pe_int pa_nil)))) pa_nil)) (pa_cons (pe_tup (pa_cons pe_int (pa_cons pe_int (pa_cons pe_non pa_nil)))) pa_nil))))))))))))))))))
  (pss_one (ps_ret (pe_ix ix_list (pv 1) (pe_cal c__law_take (hr.mono (by decide)) rfl (pa_cons (pv 0) (pa_cons (pe_callB cr_lenS rfl B.len (by decide +kernel) (pa_cons (pv 1) pa_nil)) pa_nil))) (fun _ _ => rfl))))), ?_⟩
    rw [CB.rd_seq]
    walk_at "rs"
    refine ⟨by decide, fun p1 n1 => ?_⟩
    have s1 : Same H (upd H p1 (HO.tup [])) := same_upd n1
    have e1 : upd H p1 (HO.tup []) p1 = some (HO.tup []) := upd_same
    generalize upd H p1 (HO.tup []) = G1 at *
    refine ⟨by decide, fun p2 n2 => ?_⟩
    have s2 : Same G1 (upd G1 p2 (HO.tup [V.int 1, V.int 2])) := same_upd n2
    have e2 : upd G1 p2 (HO.tup [V.int 1, V.int 2]) p2 = some (HO.tup [V.int 1, V.int 2]) := upd_same
    generalize upd G1 p2 (HO.tup [V.int 1, V.int 2]) = G2 at *
    refine ⟨by decide, fun p3 n3 => ?_⟩
    have s3 : Same G2 (upd G2 p3 (HO.tup [V.int 1, V.int 2, V.int 3, V.int 4])) := same_upd n3
    have e3 : upd G2 p3 (HO.tup [V.int 1, V.int 2, V.int 3, V.int 4]) p3 = some (HO.tup [V.int 1, V.int 2, V.int 3, V.int 4]) := upd_same
    generalize upd G2 p3 (HO.tup [V.int 1, V.int 2, V.int 3, V.int 4]) = G3 at *
    refine ⟨by decide, fun p4 n4 => ?_⟩
    have s4 : Same G3 (upd G3 p4 (HO.lst [V.int 1, V.int 1, V.int 6])) := same_upd n4
    have e4 : upd G3 p4 (HO.lst [V.int 1, V.int 1, V.int 6]) p4 = some (HO.lst [V.int 1, V.int 1, V.int 6]) := upd_same
    generalize upd G3 p4 (HO.lst [V.int 1, V.int 1, V.int 6]) = G4 at *
    refine ⟨by decide, fun p5 n5 => ?_⟩
    have s5 : Same G4 (upd G4 p5 (HO.tup [V.int 1, V.int 1, V.str "6"])) := same_upd n5
    have e5 : upd G4 p5 (HO.tup [V.int 1, V.int 1, V.str "6"]) p5 = some (HO.tup [V.int 1, V.int 1, V.str "6"]) := upd_same
    generalize upd G4 p5 (HO.tup [V.int 1, V.int 1, V.str "6"]) = G5 at *
    refine ⟨by decide, fun p6 n6 => ?_⟩
    have s6 : Same G5 (upd G5 p6 (HO.tup [V.int 1, V.bl true, V.int 6])) := same_upd n6
    have e6 : upd G5 p6 (HO.tup [V.int 1, V.bl true, V.int 6]) p6 = some (HO.tup [V.int 1, V.bl true, V.int 6]) := upd_same
    generalize upd G5 p6 (HO.tup [V.int 1, V.bl true, V.int 6]) = G6 at *
    refine ⟨by decide, fun p7 n7 => ?_⟩
    have s7 : Same G6 (upd G6 p7 (HO.tup [V.int 1, V.int 2, V.int 1])) := same_upd n7
    have e7 : upd G6 p7 (HO.tup [V.int 1, V.int 2, V.int 1]) p7 = some (HO.tup [V.int 1, V.int 2, V.int 1]) := upd_same
    generalize upd G6 p7 (HO.tup [V.int 1, V.int 2, V.int 1]) = G7 at *
    refine ⟨by decide, fun p8 n8 => ?_⟩
    have s8 : Same G7 (upd G7 p8 (HO.tup [V.int 0, V.int 0, V.int 0])) := same_upd n8
    have e8 : upd G7 p8 (HO.tup [V.int 0, V.int 0, V.int 0]) p8 = some (HO.tup [V.int 0, V.int 0, V.int 0]) := upd_same
    generalize upd G7 p8 (HO.tup [V.int 0, V.int 0, V.int 0]) = G8 at *
    refine ⟨by decide, fun p9 n9 => ?_⟩
    have s9 : Same G8 (upd G8 p9 (HO.tup [V.int (-1), V.int 1, V.int (-6)])) := same_upd n9
    have e9 : upd G8 p9 (HO.tup [V.int (-1), V.int 1, V.int (-6)]) p9 = some (HO.tup [V.int (-1), V.int 1, V.int (-6)]) := upd_same
    generalize upd G8 p9 (HO.tup [V.int (-1), V.int 1, V.int (-6)]) = G9 at *
    refine ⟨by decide, fun p10 n10 => ?_⟩
    have s10 : Same G9 (upd G9 p10 (HO.tup [V.int 1, V.int 3, V.int 2])) := same_upd n10
    have e10 : upd G9 p10 (HO.tup [V.int 1, V.int 3, V.int 2]) p10 = some (HO.tup [V.int 1, V.int 3, V.int 2]) := upd_same
    generalize upd G9 p10 (HO.tup [V.int 1, V.int 3, V.int 2]) = G10 at *
    refine ⟨by decide, fun p11 n11 => ?_⟩
    have s11 : Same G10 (upd G10 p11 (HO.tup [V.int 1, V.int 1, V.int 6])) := same_upd n11
    have e11 : upd G10 p11 (HO.tup [V.int 1, V.int 1, V.int 6]) p11 = some (HO.tup [V.int 1, V.int 1, V.int 6]) := upd_same
    generalize upd G10 p11 (HO.tup [V.int 1, V.int 1, V.int 6]) = G11 at *
    refine ⟨by decide, fun p12 n12 => ?_⟩
    have s12 : Same G11 (upd G11 p12 (HO.tup [V.ref p11])) := same_upd n12
    have e12 : upd G11 p12 (HO.tup [V.ref p11]) p12 = some (HO.tup [V.ref p11]) := upd_same
    generalize upd G11 p12 (HO.tup [V.ref p11]) = G12 at *
    refine ⟨by decide, fun p13 n13 => ?_⟩
    have s13 : Same G12 (upd G12 p13 (HO.tup [V.int 1, V.int 1, V.non])) := same_upd n13
    have e13 : upd G12 p13 (HO.tup [V.int 1, V.int 1, V.non]) p13 = some (HO.tup [V.int 1, V.int 1, V.non]) := upd_same
    generalize upd G12 p13 (HO.tup [V.int 1, V.int 1, V.non]) = G13 at *
    refine ⟨by decide, fun p14 n14 => ?_⟩
    have s14 : Same G13 (upd G13 p14 (HO.lst [V.non, V.bl true, V.str "1", V.ref p1, V.ref p2, V.ref p3, V.ref p4, V.ref p5, V.ref p6, V.ref p7, V.ref p8, V.ref p9, V.ref p10, V.int 5, V.ref p12, V.ref p13])) := same_upd n14
    have e14 : upd G13 p14 (HO.lst [V.non, V.bl true, V.str "1", V.ref p1, V.ref p2, V.ref p3, V.ref p4, V.ref p5, V.ref p6, V.ref p7, V.ref p8, V.ref p9, V.ref p10, V.int 5, V.ref p12, V.ref p13]) p14 = some (HO.lst [V.non, V.bl true, V.str "1", V.ref p1, V.ref p2, V.ref p3, V.ref p4, V.ref p5, V.ref p6, V.ref p7, V.ref p8, V.ref p9, V.ref p10, V.int 5, V.ref p12, V.ref p13]) := upd_same
    generalize upd G13 p14 (HO.lst [V.non, V.bl true, V.str "1", V.ref p1, V.ref p2, V.ref p3, V.ref p4, V.ref p5, V.ref p6, V.ref p7, V.ref p8, V.ref p9, V.ref p10, V.int 5, V.ref p12, V.ref p13]) = G14 at *
    have t14 : Same G14 G14 := Same.refl _
    have t13 := s14.trans t14
    have t12 := s13.trans t13
    have t11 := s12.trans t12
    have t10 := s11.trans t11
    have t9 := s10.trans t10
    have t8 := s9.trans t9
    have t7 := s8.trans t8
    have t6 := s7.trans t7
    have t5 := s6.trans t6
    have t4 := s5.trans t5
    have t3 := s4.trans t4
    have t2 := s3.trans t3
    have t1 := s2.trans t2
    have hs := t1 _ _ (s1 _ _ hst)
    have hS : Same H G14 := s1.trans t1
    refine ⟨16, .inl ⟨_, SqL.of e14, rfl⟩, ?_⟩
    have sl : st ≠ p14 := ne_of hs e14 (by intro z; cases z)
    have sl4 : st ≠ p4 := ne_of hs (t4 _ _ e4) (by intro z; cases z)
    refine ⟨st, x, y, 16, rfl, hs, by decide, by decide +kernel, fun k x1 y1 k0 k1 => ?_⟩
    have btL : But st H G14 := fun b o _ e => hS _ _ e
    have bt : But st H (upd G14 st (.lst [.int x1, .int y1])) := btL.upd
    have nk : ∀ {b us}, G14 b = some (.tup us) → (upd G14 st (.lst [.int x1, .int y1])) b = some (.tup us) := fun {b us} e => by
      rw [upd_ne (ne_of e hs (by intro z; cases z))]
      exact e
    have f1 := nk (t1 _ _ e1)
    have f2 := nk (t2 _ _ e2)
    have f3 := nk (t3 _ _ e3)
    have f5 := nk (t5 _ _ e5)
    have f6 := nk (t6 _ _ e6)
    have f7 := nk (t7 _ _ e7)
    have f8 := nk (t8 _ _ e8)
    have f9 := nk (t9 _ _ e9)
    have f10 := nk (t10 _ _ e10)
    have f11 := nk (t11 _ _ e11)
    have f12 := nk (t12 _ _ e12)
    have f13 := nk (t13 _ _ e13)
    have f4 : (upd G14 st (.lst [.int x1, .int y1])) p4 = some (.lst [.int 1, .int 1, .int 6]) := by
      rw [upd_ne sl4.symm]
      exact t4 _ _ e4
    have f14 : (upd G14 st (.lst [.int x1, .int y1])) p14 = some (.lst [V.non, V.bl true, V.str "1", V.ref p1, V.ref p2, V.ref p3, V.ref p4, V.ref p5, V.ref p6, V.ref p7, V.ref p8, V.ref p9, V.ref p10, V.int 5, V.ref p12, V.ref p13]) := by
      rw [upd_ne sl.symm]
      exact e14
    have fs : (upd G14 st (.lst [.int x1, .int y1])) st = some (.lst [.int x1, .int y1]) := upd_same
    generalize upd G14 st (.lst [.int x1, .int y1]) = HF at *
    have pick : ∃ v, atI [V.non, V.bl true, V.str "1", V.ref p1, V.ref p2, V.ref p3, V.ref p4, V.ref p5, V.ref p6, V.ref p7, V.ref p8, V.ref p9, V.ref p10, V.int 5, V.ref p12, V.ref p13] k = some v ∧ NotFH st HF v := by
      have c : k = 0 ∨ k = 1 ∨ k = 2 ∨ k = 3 ∨ k = 4 ∨ k = 5 ∨ k = 6 ∨ k = 7 ∨ k = 8 ∨ k = 9 ∨ k = 10 ∨ k = 11 ∨ k = 12 ∨ k = 13 ∨ k = 14 ∨ k = 15 := by omega
      rcases c with rfl | rfl | rfl | rfl | rfl | rfl | rfl | rfl | rfl | rfl | rfl | rfl | rfl | rfl | rfl | rfl
      · exact ⟨_, rfl, .inl (.inl ⟨"NoneType", .inl ⟨rfl, rfl⟩, by decide⟩)⟩
      · exact ⟨_, rfl, .inl (.inl ⟨"bool", .inl ⟨rfl, rfl⟩, by decide⟩)⟩
      · exact ⟨_, rfl, .inl (.inl ⟨"str", .inl ⟨rfl, rfl⟩, by decide⟩)⟩
      · exact ⟨_, rfl, .inl (.inr ⟨_, _, _, rfl, f1, itsH_flat rfl, by decide, .inl (by decide)⟩)⟩
      · exact ⟨_, rfl, .inl (.inr ⟨_, _, _, rfl, f2, itsH_flat rfl, by decide, .inl (by decide)⟩)⟩
      · exact ⟨_, rfl, .inl (.inr ⟨_, _, _, rfl, f3, itsH_flat rfl, by decide, .inl (by decide)⟩)⟩
      · exact ⟨_, rfl, .inl (.inl ⟨"list", .inr ⟨_, rfl, .inl ⟨sl4.symm, rfl, _, f4⟩⟩, by decide⟩)⟩
      · exact ⟨_, rfl, .inl (.inr ⟨_, _, _, rfl, f5, itsH_flat rfl, by decide, .inr (by decide)⟩)⟩
      · exact ⟨_, rfl, .inl (.inr ⟨_, _, _, rfl, f6, itsH_flat rfl, by decide, .inr (by decide)⟩)⟩
      · exact ⟨_, rfl, .inr ⟨_, _, _, _, rfl, f7, by decide +kernel⟩⟩
      · exact ⟨_, rfl, .inr ⟨_, _, _, _, rfl, f8, by decide +kernel⟩⟩
      · exact ⟨_, rfl, .inr ⟨_, _, _, _, rfl, f9, by decide +kernel⟩⟩
      · exact ⟨_, rfl, .inr ⟨_, _, _, _, rfl, f10, by decide +kernel⟩⟩
      · exact ⟨_, rfl, .inl (.inl ⟨"int", .inl ⟨rfl, rfl⟩, by decide⟩)⟩
      · exact ⟨_, rfl, .inl (.inr ⟨_, _, _, rfl, f12, itsH_one f11, by show 1 < 1000; decide, .inl (by show (1 : Nat) ≠ 3; decide)⟩)⟩
      · exact ⟨_, rfl, .inl (.inr ⟨_, _, _, rfl, f13, itsH_flat rfl, by decide, .inr (by decide)⟩)⟩
    obtain ⟨v, ev, hv⟩ := pick
    exact ⟨_, k, rfl, SqL.of f14, v, ev, q v x1 y1 HF bt fs hv⟩
abbrev s__law_drawn_definite : Stmt := top 60
theorem sc__law_drawn_definite : FnScope ["state", "most", "a", "b", "c", "k"] ["state", "most"] (defScope s__law_drawn_definite) := ⟨rfl, rfl, rfl, by decide +kernel, rfl, by decide +kernel, by decide +kernel⟩

def spDrawn : Sp := fun vs H Q _ => ∃ (st : Addr) (x y n : Int), vs = [.ref st, .int n] ∧ H st = some (.lst [.int x, .int y]) ∧ 1 ≤ n ∧ n ≤ 100000000000000000000 ∧
  ∀ p a b c x' y' H', But st H H' → H' st = some (.lst [.int x', .int y']) → H' p = some (.tup [.int a, .int b, .int c]) → Red a b c → c ≤ 2000000000000000000000 → Q (.ref p) H'
theorem cal_drawn (D : Dn K mg "_law_drawn_definite" s__law_drawn_definite ["state", "most"]) (B : Bl mg) (c__law_take : Cal P w K mg base "_law_take" 1 ["state", "m"] spTake) : Cal P w K mg base "_law_drawn_definite" 2 ["state", "most"] spDrawn := by
  refine D.cal sc__law_drawn_definite (fun vs H Q E h => ?_) (fun f cdv A outer s H vs Q E hr h => ?_)
  · obtain ⟨st, x, y, n, rfl, _⟩ := h
    rfl
  · obtain ⟨st, x, y, n, rfl, hst, n1, n2, q⟩ := h
    refine ⟨_, (pss_cons (ps_set (i := 2) sc__law_drawn_definite.nd rfl (Or.inl rfl) (pe_op op_add pe_int (pe_cal c__law_take (hr.mono (by decide)) rfl (pa_cons (pv 0) (pa_cons (pv 1) pa_nil)))))
  (pss_cons (ps_set (i := 3) sc__law_drawn_definite.nd rfl (Or.inl rfl) (pe_ix ix_list (pe_lst (pa_cons (pv 2) (pa_cons pe_int (pa_cons (pe_cal c__law_take (hr.mono (by decide)) rfl (pa_cons (pv 0) (pa_cons (pe_op op_add (pv 2) pe_int) pa_nil))) pa_nil)))) (pe_cal c__law_take (hr.mono (by decide)) rfl (pa_cons (pv 0) (pa_cons pe_int pa_nil))) (fun _ _ => rfl)))
  (pss_cons (ps_set (i := 4) sc__law_drawn_definite.nd rfl (Or.inl rfl) (pe_ix ix_list (pe_lst (pa_cons (pv 2) (pa_cons (pe_op op_add (pv 2) (pe_cal c__law_take (hr.mono (by decide)) rfl (pa_cons (pv 0) (pa_cons pe_int pa_nil)))) (pa_cons (pe_op op_add (pv 2) (pe_cal c__law_take (hr.mono (by decide)) rfl (pa_cons (pv 0) (pa_cons (pe_op op_mulI pe_int (pv 1)) pa_nil)))) pa_nil)))) (pe_cal c__law_take (hr.mono (by decide)) rfl (pa_cons (pv 0) (pa_cons pe_int pa_nil))) (fun _ _ => rfl)))
  (pss_cons (ps_if (PW.pt (pw_and (pt_chain3 op_lt op_lt op_lt pe_int (pv 3) (pv 2) (pv 4)) (pw_and1 (pt_cmpR op_eq (pe_cal c__law_take (hr.mono (by decide)) rfl (pa_cons (pv 0) (pa_cons pe_int pa_nil))) pe_int (nomark _))))) (pss_one (ps_set (i := 3) sc__law_drawn_definite.nd rfl (Or.inl rfl) (pe_un un_neg (pv 3)))) pss_nil)
  (pss_cons (ps_set (i := 5) sc__law_drawn_definite.nd rfl (Or.inl rfl) (pe_ix ix_list (pe_lst (pa_cons pe_int (pa_cons pe_int (pa_cons pe_int (pa_cons pe_int (pa_cons pe_int pa_nil)))))) (pe_cal c__law_take (hr.mono (by decide)) rfl (pa_cons (pv 0) (pa_cons pe_int pa_nil))) (fun _ _ => rfl)))
  (pss_one (ps_ret (pe_tup (pa_cons (pe_op op_mulI (pv 5) (pv 2)) (pa_cons (pe_op op_mulI (pv 5) (pv 3)) (pa_cons (pe_op op_mulI (pv 5) (pv 4)) pa_nil))))))))))), ?_⟩
    rw [CB.rd_seq]
    walk_at "rs"
    refine ⟨st, x, y, n, rfl, hst, by omega, Nat.lt_of_le_of_lt (log_lt (k := 79) (by show n.natAbs < 2 ^ 80; omega)) (by decide), fun v x1 y1 v0 v1 => ⟨v, rfl, ?_⟩⟩
    have lg : ∀ {z : Int}, 0 ≤ z → z < 1000000000000000000000000 → z.natAbs.log2 < 9000 := fun {z} a b => Nat.lt_of_le_of_lt (log_lt (k := 79) (by show z.natAbs < 2 ^ 80; omega)) (by decide)
    have bt0 : But st H (upd H st (.lst [.int x1, .int y1])) := But.refl.upd
    have hs0 : upd H st (.lst [.int x1, .int y1]) st = some (.lst [.int x1, .int y1]) := upd_same
    generalize upd H st (.lst [.int x1, .int y1]) = H0 at *
    refine seq_cut (fun σ H1 => ∃ b x y, σ = [some (.ref st), some (.int n), some (.int (1 + v)), some (.int b), none, none] ∧ But st H H1 ∧ H1 st = some (.lst [.int x, .int y]) ∧ 0 ≤ b ∧ b ≤ 1 + v) (fun R hR => ?_) ?_
    · walk_at "rs"
      refine ⟨st, x1, y1, 1 + v + 1, rfl, hs0, by omega, lg (by omega) (by omega), fun u x2 y2 u0 u1 => ⟨by decide, fun p np => ?_⟩⟩
      have sp : st ≠ p := ne_of_none upd_same np
      refine ⟨st, x2, y2, 3, rfl, by rw [upd_ne sp]; exact upd_same, by decide, by decide +kernel, fun k x3 y3 k0 k1 => ?_⟩
      have pick : ∃ b, atI [V.int (1 + v), V.int 0, V.int u] k = some (.int b) ∧ 0 ≤ b ∧ b ≤ 1 + v := by
        have c : k = 0 ∨ k = 1 ∨ k = 2 := by omega
        rcases c with rfl | rfl | rfl
        · exact ⟨_, rfl, by omega, by omega⟩
        · exact ⟨_, rfl, by omega, by omega⟩
        · exact ⟨_, rfl, by omega, by omega⟩
      obtain ⟨b, eb, b0, b1⟩ := pick
      exact ⟨_, k, rfl, SqL.of (by rw [upd_ne sp.symm, upd_same]), _, eb, hR _ _ ⟨b, x3, y3, rfl, (bt0.upd.same (same_upd np)).upd, upd_same, b0, b1⟩⟩
    rintro σ H1 ⟨b, x2, y2, rfl, bt1, hs1, b0, b1⟩
    refine seq_cut (fun σ H1 => ∃ c x y, σ = [some (.ref st), some (.int n), some (.int (1 + v)), some (.int b), some (.int c), none] ∧ But st H H1 ∧ H1 st = some (.lst [.int x, .int y]) ∧ 1 + v ≤ c ∧ c ≤ 1 + v + 2 * n + 5) (fun R hR => ?_) ?_
    · walk_at "rs"
      refine ⟨st, x2, y2, 5, rfl, hs1, by decide, by decide +kernel, fun u x3 y3 u0 u1 => ⟨u, rfl, mulL (by decide), st, x3, y3, 2 * n, rfl, upd_same, by omega, lg (by omega) (by omega), fun u2 x4 y4 u20 u21 => ⟨u2, rfl, by decide, fun p np => ?_⟩⟩⟩
      have sp : st ≠ p := ne_of_none upd_same np
      refine ⟨st, x4, y4, 3, rfl, by rw [upd_ne sp]; exact upd_same, by decide, by decide +kernel, fun k x5 y5 k0 k1 => ?_⟩
      have pick : ∃ c, atI [V.int (1 + v), V.int (1 + v + u), V.int (1 + v + u2)] k = some (.int c) ∧ 1 + v ≤ c ∧ c ≤ 1 + v + 2 * n + 5 := by
        have c : k = 0 ∨ k = 1 ∨ k = 2 := by omega
        rcases c with rfl | rfl | rfl
        · exact ⟨_, rfl, by omega, by omega⟩
        · exact ⟨_, rfl, by omega, by omega⟩
        · exact ⟨_, rfl, by omega, by omega⟩
      obtain ⟨c, ec, c0, c1⟩ := pick
      exact ⟨_, k, rfl, SqL.of (by rw [upd_ne sp.symm, upd_same]), _, ec, hR _ _ ⟨c, x5, y5, rfl, (bt1.upd.upd.same (same_upd np)).upd, upd_same, c0, c1⟩⟩
    rintro σ H2 ⟨c, x3, y3, rfl, bt2, hs2, c0, c1⟩
    refine seq_cut (fun σ H1 => ∃ b x y, σ = [some (.ref st), some (.int n), some (.int (1 + v)), some (.int b), some (.int c), none] ∧ But st H H1 ∧ H1 st = some (.lst [.int x, .int y]) ∧ Red (1 + v) b c) (fun R hR => ?_) ?_
    · walk_at "rs"
      have red0 : Red (1 + v) b c := ⟨by omega, by omega, by omega, by omega, fun _ => b0⟩
      have stay := hR _ _ ⟨b, x3, y3, rfl, bt2, hs2, red0⟩
      refine ite2 (fun h1 => ite2 (fun h2 => ite2 (fun h3 => ?_) (fun _ => stay)) (fun _ => stay)) (fun _ => stay)
      refine ⟨st, x3, y3, 2, rfl, hs2, by decide, by decide +kernel, fun k x4 y4 k0 k1 => ⟨by simp [scal], ite2 (fun _ => ?_) (fun _ => ?_)⟩⟩
      · exact hR _ _ ⟨-b, x4, y4, rfl, bt2.upd, upd_same, ⟨by omega, by omega, by omega, by omega, fun z => by omega⟩⟩
      · exact hR _ _ ⟨b, x4, y4, rfl, bt2.upd, upd_same, red0⟩
    clear b0 b1 hs1 bt1
    rintro σ H3 ⟨b, x4, y4, rfl, bt3, hs3, hred⟩
    rw [CB.rd_seq]
    walk_at "rs"
    refine ⟨by decide, fun p np => ?_⟩
    have sp : st ≠ p := ne_of_none hs3 np
    refine ⟨st, x4, y4, 5, rfl, by rw [upd_ne sp]; exact hs3, by decide, by decide +kernel, fun k x5 y5 k0 k1 => ?_⟩
    have pick : ∃ m, atI [V.int 1, V.int 1, V.int 1, V.int 2, V.int 6] k = some (.int m) ∧ (m = 1 ∨ m = 2 ∨ m = 6) := by
      have c : k = 0 ∨ k = 1 ∨ k = 2 ∨ k = 3 ∨ k = 4 := by omega
      rcases c with rfl | rfl | rfl | rfl | rfl <;> exact ⟨_, rfl, by decide⟩
    obtain ⟨m, em, hm⟩ := pick
    have mo : ∀ {z : Int}, IntMulOk m z := fun {z} => mulL (by omega)
    refine ⟨_, k, rfl, SqL.of (by rw [upd_ne sp.symm, upd_same]), _, em, m, rfl, mo, m, rfl, mo, m, rfl, mo, by decide, fun p3 np3 => ?_⟩
    have h5 : (upd (upd H3 p (.lst [V.int 1, V.int 1, V.int 1, V.int 2, V.int 6])) st (.lst [.int x5, .int y5])) st = some (.lst [.int x5, .int y5]) := upd_same
    obtain ⟨r1, r2, r3, r4, r5⟩ := hred
    refine q p3 _ _ _ x5 y5 _ (((bt3.same (same_upd np)).upd).same (same_upd np3)) (same_upd np3 _ _ h5) upd_same ?_ ?_
    · rcases hm with rfl | rfl | rfl
      · exact ⟨by omega, by omega, by omega, by omega, fun z => by have := r5 (by omega); omega⟩
      · exact ⟨by omega, by omega, by omega, by omega, fun z => by have := r5 (by omega); omega⟩
      · exact ⟨by omega, by omega, by omega, by omega, fun z => by have := r5 (by omega); omega⟩
    · rcases hm with rfl | rfl | rfl <;> omega
end

/-! ### the law's own words -/
section
variable {P : Program} {w : World} {K : PySem.W.Frag} {mg : Str → Option Value} {base : Heap} {CM CR : Addr}
abbrev s__law_says : Stmt := top 52
theorem sc__law_says : FnScope ["value", "due"] ["value", "due"] (defScope s__law_says) := ⟨rfl, rfl, rfl, by decide +kernel, rfl, by decide +kernel, by decide +kernel⟩

def spSays : Sp := fun vs H Q _ => ∃ a b : Bool, vs = [.bl a, .bl b] ∧ Q (.bl (a == b)) H
theorem cal_says (D : Dn K mg "_law_says" s__law_says ["value", "due"]) (B : Bl mg) : Cal P w K mg base "_law_says" 1 ["value", "due"] spSays := by
  refine D.cal sc__law_says (fun vs H Q E h => ?_) (fun f cdv A outer s H vs Q E hr h => ?_)
  · obtain ⟨a, b, rfl, _⟩ := h
    rfl
  · obtain ⟨a, b, rfl, q⟩ := h
    refine ⟨_, (pss_one (ps_ret (pe_and (pe_callB call_isi rfl B.isinstance (by decide +kernel) (pa_cons (pv 0) (pa_cons (pe_bltn (v := .ty "bool") rfl B.bool boot_bool rfl) pa_nil))) (pe_one (pe_cmpR op_eq (pv 0) (pv 1) (nomark _)))))), ?_⟩
    walk_at "rd"
    refine isi_mk (.base (.bl a)) (b := true) (by decide +kernel) ⟨true, rfl, ?_⟩
    rw [if_pos rfl]
    refine ⟨by simp [scal], ?_⟩
    try walk_at "rd"
    have e : (decide (a = b)) = (a == b) := by cases a <;> cases b <;> rfl
    first
    | exact q
    | (rw [← e] at q; exact q)
abbrev s__law_is_matrix : Stmt := top 57
theorem sc__law_is_matrix : FnScope ["value", "row"] ["value"] (defScope s__law_is_matrix) := ⟨rfl, rfl, rfl, by decide +kernel, rfl, by decide +kernel, by decide +kernel⟩

def spLMat : Sp := fun vs H Q _ => ∃ (st : Addr) (v : V), vs = [v] ∧ ((NotMH st H v ∧ Q (.bl false) H) ∨ ∃ M, IsM H v M ∧ SzM 700 M ∧ detM M = 1 ∧ Q (.bl true) H)
theorem cal_lmat (D : Dn K mg "_law_is_matrix" s__law_is_matrix ["value"]) (B : Bl mg) (c__law_whole : Cal P w K mg base "_law_whole" 1 ["value"] (spInt K)) : Cal P w K mg base "_law_is_matrix" 2 ["value"] spLMat := by
  refine D.cal sc__law_is_matrix (fun vs H Q E h => ?_) (fun f cdv A outer s H vs Q E hr h => ?_)
  · obtain ⟨st, v, rfl, _⟩ := h
    rfl
  · obtain ⟨st, v, rfl, h⟩ := h
    refine ⟨_, (pss_cons (ps_if (PW.pt (pw_or (pt_not (pt_val (pe_callB call_isi rfl B.isinstance (by decide +kernel) (pa_cons (pv 0) (pa_cons (pe_bltn (v := .ty "tuple") rfl B.tuple boot_tuple rfl) pa_nil))))) (pw_or1 (pt_cmpR op_ne (pe_callB cr_lenS rfl B.len (by decide +kernel) (pa_cons (pv 0) pa_nil)) pe_int (nomark _))))) (pss_one (ps_ret pe_bl)) pss_nil)
  (pss_cons (ps_for PassesOwn.never rfl (pi_tup (pv 0)) (pg_name (i := 1) sc__law_is_matrix.nd rfl (Or.inl rfl)) (pss_one (ps_if (PW.pt (pw_or (pt_not (pt_val (pe_callB call_isi rfl B.isinstance (by decide +kernel) (pa_cons (pv 1) (pa_cons (pe_bltn (v := .ty "tuple") rfl B.tuple boot_tuple rfl) pa_nil))))) (pw_or (pt_cmpR op_ne (pe_callB cr_lenS rfl B.len (by decide +kernel) (pa_cons (pv 1) pa_nil)) pe_int (nomark _)) (pw_or (pt_not (pt_val (pe_cal c__law_whole (hr.mono (by decide)) rfl (pa_cons (pe_ix ix_tup (pv 1) pe_int (fun _ _ => rfl)) pa_nil)))) (pw_or1 (pt_not (pt_val (pe_cal c__law_whole (hr.mono (by decide)) rfl (pa_cons (pe_ix ix_tup (pv 1) pe_int (fun _ _ => rfl)) pa_nil))))))))) (pss_one (ps_ret pe_bl)) pss_nil)))
  (pss_one (ps_ret (pe_cmpR op_eq (pe_op op_sub (pe_op op_mulI (pe_ix ix_tup (pe_ix ix_tup (pv 0) pe_int (fun _ _ => rfl)) pe_int (fun _ _ => rfl)) (pe_ix ix_tup (pe_ix ix_tup (pv 0) pe_int (fun _ _ => rfl)) pe_int (fun _ _ => rfl))) (pe_op op_mulI (pe_ix ix_tup (pe_ix ix_tup (pv 0) pe_int (fun _ _ => rfl)) pe_int (fun _ _ => rfl)) (pe_ix ix_tup (pe_ix ix_tup (pv 0) pe_int (fun _ _ => rfl)) pe_int (fun _ _ => rfl)))) pe_int (nomark _)))))), ?_⟩
    rw [CB.rd_seq]
    walk_at "rs"
    -- a pair of values, the first k of them good rows, that at k bad
    have h' : (∃ T, KdH st H v T ∧ (T == "tuple") = false ∧ Q (.bl false) H) ∨ (∃ (p : Addr) (xs : List V), v = .ref p ∧ H p = some (.tup xs) ∧ xs.length ≠ 2 ∧ Q (.bl false) H) ∨
        ∃ (p : Addr) (x y : V) (k : Nat), v = .ref p ∧ H p = some (.tup [x, y]) ∧ (∀ (i : Nat) z, [x, y][i]? = some z → (i < k → ∃ (t : Addr) (a b : Int), z = .ref t ∧ H t = some (.tup [.int a, .int b])) ∧ (i = k → BadH 2 st H z)) ∧
          (k < 2 → Q (.bl false) H) ∧ (2 ≤ k → ∃ M, IsM H v M ∧ SzM 700 M ∧ Q (.bl (decide (detM M = 1))) H) := by
      rcases or_M (G := fun b => Q (.bl b) H) h with ⟨⟨T, k, e⟩ | ⟨p, xs, rfl, hp, hl⟩ | ⟨p, x, y, rfl, hp, h⟩, q⟩ | ⟨M, hM, sz, q⟩
      · exact .inl ⟨T, k, e, q⟩
      · exact .inr (.inl ⟨p, xs, rfl, hp, hl, q⟩)
      · rcases h with h | ⟨hx, h⟩
        · refine .inr (.inr ⟨p, x, y, 0, rfl, hp, fun i z hz => ⟨fun c => absurd c (by omega), fun c => ?_⟩, fun _ => q, fun c => absurd c (by omega)⟩)
          subst c
          cases hz
          exact h
        · refine .inr (.inr ⟨p, x, y, 1, rfl, hp, fun i z hz => ⟨fun c => ?_, fun c => ?_⟩, fun _ => q, fun c => absurd c (by omega)⟩)
          · have c : i = 0 := by omega
            subst c
            cases hz
            exact hx
          · subst c
            cases hz
            exact h
      · obtain ⟨r, r1, r2, rfl, h0, h1, h2⟩ := hM
        refine .inr (.inr ⟨r, .ref r1, .ref r2, 2, rfl, h0, fun i z hz => ⟨fun c => ?_, fun c => ?_⟩, fun c => absurd c (by omega), fun _ => ⟨M, ⟨r, r1, r2, rfl, h0, h1, h2⟩, sz, q⟩⟩)
        · have c : i = 0 ∨ i = 1 := by omega
          rcases c with rfl | rfl
          · cases hz
            exact ⟨r1, _, _, rfl, h1⟩
          · cases hz
            exact ⟨r2, _, _, rfl, h2⟩
        · subst c
          cases hz
    clear h
    rcases h' with ⟨T, k, e, q⟩ | ⟨p, xs, rfl, hp, hl, q⟩ | ⟨p, x, y, k, rfl, hp, hk, qf, qt⟩
    · refine isi_mk k.ty.1 (kit_k (k.ty (K := K)).2 (by simp)) ⟨false, ?_, ?_⟩
      · rw [e, show ("tuple" == "int") = false by decide, Bool.and_false, Bool.or_false]
      rw [if_pos (by decide)]
      exact q
    · refine isi_mk (.base (.tup hp)) (b := true) (by decide +kernel) ⟨true, rfl, ?_⟩
      rw [if_neg (by decide)]
      exact ⟨xs.length, .inr ⟨_, SqT.of hp, rfl⟩, ite2 (fun z => absurd (by omega) hl) (fun _ => q)⟩
    refine isi_mk (.base (.tup hp)) (b := true) (by decide +kernel) ⟨true, rfl, ?_⟩
    rw [if_neg (by decide)]
    refine ⟨2, .inr ⟨_, SqT.of hp, rfl⟩, ?_⟩
    rw [if_pos (show ((2 : Nat) : Int) = 2 from rfl), CB.rd_seq]
    walk_at "rs"
    have F0 := SqT.of (K := K) hp
    refine ⟨⟨_, F0⟩, ForT.w (xs := [x, y]) (fun i σ H1 => ∃ s1, σ = [some (.ref p), s1] ∧ H1 = H ∧ i ≤ k) ⟨_, rfl, rfl, Nat.zero_le _⟩ ?_ ?_ ?_⟩
    · rintro i σ H1 _ ⟨s1, _, rfl, _⟩
      exact F0
    · rintro i z σ H1 hz ⟨s1, rfl, rfl, hik⟩ N hN
      have hi : i < 2 := (List.getElem?_eq_some_iff.mp hz).1
      obtain ⟨good, bad⟩ := hk i z hz
      walk_at "rs"
      by_cases c : i = k
      · have q := qf (by omega)
        rcases bad c with ⟨T, kt, e⟩ | ⟨r, xs, ts, rfl, hr, hI, hl, hb⟩
        · refine isi_mk kt.ty.1 (kit_k (kt.ty (K := K)).2 (by simp)) ⟨false, ?_, ?_⟩
          · rw [e, show ("tuple" == "int") = false by decide, Bool.and_false, Bool.or_false]
          rw [if_pos (by decide)]
          exact q
        refine isi_mk (.base (.tup hr)) (b := true) (by decide +kernel) ⟨true, rfl, ?_⟩
        rw [if_neg (by decide)]
        refine ⟨xs.length, .inr ⟨_, SqT.of hr, rfl⟩, ite2 (fun z => ?_) (fun _ => q)⟩
        match xs, ts, hI, hb, hr with
        | [u, v], [t1, t2], hI, hb, hr =>
          have T := SqT.of (K := K) hr
          have k1 := hI.2 0 u t1 rfl rfl
          have k2 := hI.2 1 v t2 rfl rfl
          refine ⟨r, rfl, _, T, u, rfl, u, t1, rfl, k1.ty.1, (k1.ty (K := K)).2, _, rfl, ?_⟩
          cases e1 : (t1 == "int") with
          | false =>
            rw [if_pos (by decide)]
            exact q
          | true =>
            rw [if_neg (by decide)]
            refine ⟨r, rfl, _, T, v, rfl, v, t2, rfl, k2.ty.1, (k2.ty (K := K)).2, _, rfl, ?_⟩
            cases e2 : (t2 == "int") with
            | false =>
              rw [if_pos (by decide)]
              exact q
            | true =>
              rcases hb with hb | hb
              · exact absurd rfl hb
              · simp [e1, e2] at hb
      · obtain ⟨t, a, b, rfl, ht⟩ := good (by omega)
        have T := SqT.of (K := K) ht
        refine isi_mk (.base (.tup ht)) (b := true) (by decide +kernel) ⟨true, rfl, ?_⟩
        rw [if_neg (by decide)]
        refine ⟨2, .inr ⟨_, T, rfl⟩, ?_⟩
        rw [if_pos (show ((2 : Nat) : Int) = 2 from rfl)]
        refine ⟨_, rfl, _, T, _, rfl, .int a, "int", rfl, .base (.int a), by decide, true, rfl, ?_⟩
        rw [if_neg (by decide)]
        refine ⟨_, rfl, _, T, _, rfl, .int b, "int", rfl, .base (.int b), by decide, true, rfl, ?_⟩
        rw [if_neg (by decide)]
        exact hN _ _ ⟨_, rfl, rfl, by omega⟩
    · rintro σ H1 ⟨s1, rfl, rfl, k2⟩
      have k2 : 2 ≤ k := k2
      obtain ⟨M, hM, ⟨z1, z2, z3, z4⟩, q⟩ := qt k2
      obtain ⟨r1, r2, h0, h1, h2⟩ := atM hM
      rw [hp] at h0
      cases h0
      have F1 := SqT.of (K := K) h1
      have F2 := SqT.of (K := K) h2
      walk_at "rs"
      exact ⟨_, F0, _, rfl, _, rfl, _, F1, _, rfl, _, F0, _, rfl, _, rfl, _, F2, _, rfl, _, rfl, _, rfl, z1.ok z4 (by decide) (by decide), _, F0, _, rfl, _, rfl, _, F1, _, rfl, _, F0, _, rfl, _, rfl, _, F2, _, rfl, _, rfl, _, rfl, z2.ok z3 (by decide) (by decide), q⟩
end

section
variable {P : Program} {w : World} {K : PySem.W.Frag} {mg : Str → Option Value} {base : Heap} {CM CR aU a1 a2 : Addr}
abbrev s_check_definite : Stmt := top 29
theorem sc_check_definite : FnScope ["f"] ["f"] (defScope s_check_definite) := ⟨rfl, rfl, rfl, by decide +kernel, rfl, by decide +kernel, by decide +kernel⟩

/-- no definite form -/
def NotDf (K : PySem.W.Frag) (H : Hp) (v : V) : Prop := NotF K H v ∨ ∃ (p : Addr) (a b c : Int), v = .ref p ∧ H p = some (.tup [.int a, .int b, .int c]) ∧ formB a b c = true ∧ 0 < dsc a b c
theorem formB_bd {a b c : Int} (h : formB a b c = true) : (a.natAbs : Int) < B60 ∧ (b.natAbs : Int) < B60 ∧ (c.natAbs : Int) < B60 := by
  unfold formB at h
  cases hl : lgB a b c with
  | true => rw [hl] at h; simp at h
  | false => exact lgB_no hl
def spDef (K : PySem.W.Frag) (CM : Addr) : Sp := fun vs H Q E => ∃ v : V, vs = [v] ∧ ((NotDf K H v ∧ ∀ H', Same H H' → E (.ref CM) none H') ∨ ∃ (p : Addr) (a b c : Int), v = .ref p ∧ H p = some (.tup [.int a, .int b, .int c]) ∧ formB a b c = true ∧ dsc a b c ≤ 0 ∧ ∀ H', Same H H' → Q .non H')
theorem cal_def (D : Dn K mg "check_definite" s_check_definite ["f"]) (B : Bl mg) (c_check_form : CalX P w K mg base "check_form" 4 ["f"] (spChkF K CM)) (c_told_discriminant : Cal P w K mg base "told_discriminant" 1 ["f"] spTDisc) (e_E : ErrI P w K mg base CM CR) :
    CalX P w K mg base "check_definite" 5 ["f"] (spDef K CM) := by
  refine D.calX sc_check_definite (fun vs H Q E h => ?_) (fun f cdv A outer s H vs Q E hr h => ?_)
  · obtain ⟨v, rfl, _⟩ := h
    rfl
  · obtain ⟨v, rfl, h⟩ := h
    refine ⟨_, (pss_cons (ps_expr (pe_calS c_check_form (takes_of rfl rfl rfl rfl) (hr.mono (by decide)) rfl (pa_cons (pv 0) pa_nil)))
  (pss_one (ps_if (pt_cmpR op_gt (pe_cal c_told_discriminant (hr.mono (by decide)) rfl (pa_cons (pv 0) pa_nil)) pe_int (nomark _)) (pss_one (ps_mal e_E.m rfl (takes_of rfl rfl rfl rfl) rfl)) pss_nil))), ?_⟩
    walk_at "rd"
    refine ⟨v, rfl, ?_⟩
    rcases h with ⟨hn | ⟨p, a, b, c, rfl, hp, hf, hd⟩, q⟩ | ⟨p, a, b, c, rfl, hp, hf, hd, q⟩
    · exact .inl ⟨hn, fun H' sm => q H' sm⟩
    · obtain ⟨ba, bb, bc⟩ := formB_bd hf
      obtain ⟨m1, m2, _, _⟩ := dsc_bd ba bb bc
      exact .inr ⟨p, a, b, c, rfl, hp, hf, fun H' sm => ⟨p, a, b, c, rfl, sm _ _ hp, m1, m2, _, rfl, by rw [if_pos (show 0 < b * b - 4 * a * c from hd)]; exact q H' sm⟩⟩
    · obtain ⟨ba, bb, bc⟩ := formB_bd hf
      obtain ⟨m1, m2, _, _⟩ := dsc_bd ba bb bc
      exact .inr ⟨p, a, b, c, rfl, hp, hf, fun H' sm => ⟨p, a, b, c, rfl, sm _ _ hp, m1, m2, _, rfl, by rw [if_neg (show ¬ 0 < b * b - 4 * a * c from Int.not_lt.mpr hd)]; exact q H' sm⟩⟩
/-- the global ((1, 0), (0, 1)) -/
structure UM (K : PySem.W.Frag) (mg : Str → Option Value) (aU a1 a2 : Addr) : Prop where
  g : mg "UNIT_MATRIX" = some (.ref aU)
  t0 : ∀ H, SqT K H aU [.ref a1, .ref a2]
  t1 : ∀ H, SqT K H a1 [.int 1, .int 0]
  t2 : ∀ H, SqT K H a2 [.int 0, .int 1]
theorem rd_par3 {i j l : Nat} {t : TA} {D : Ends} {σ : L2.St} {H : Hp} : tPar3 i j l t D σ H = t σ H fun vs H1 => ∃ u v w, vs = [u, v, w] ∧ D.nx (((σ.set i (some u)).set j (some v)).set l (some w)) H1 := rfl
def mu (a b c : Int) : Nat := 2 * a.toNat + (if -a < b ∧ b ≤ a ∧ a ≤ c ∧ (a = c → 0 ≤ b) then 0 else 1)
theorem sz_div {n : Nat} {a x : Int} (h : 0 < a) (s : Sz n (a * x)) : Sz n x := by
  unfold Sz at *
  rw [Int.natAbs_mul] at s
  have : 1 * x.natAbs ≤ a.natAbs * x.natAbs := Nat.mul_le_mul_right _ (by omega)
  omega
theorem mu_step {a b c b1 c1 k : Int} (ha : 0 < a) (hk : k = (a - b) / (2 * a)) (e1 : b1 = b + 2 * a * k) (e2 : c1 = c + b * k + a * k * k) (hc : 0 < c1) (no : ¬ (a < c1 ∨ (a = c1 ∧ 0 ≤ b1))) : mu c1 (-b1) a < mu a b c := by
  have st := step_k ha hk
  rw [← e1] at st
  unfold mu
  by_cases lt : c1 < a
  · split <;> split <;> omega
  · have e : c1 = a := by omega
    subst e
    have nb : b1 < 0 := by omega
    rw [if_pos ⟨by omega, by omega, by omega, fun _ => by omega⟩]
    by_cases r : -c1 < b ∧ b ≤ c1 ∧ c1 ≤ c ∧ (c1 = c → 0 ≤ b)
    · have k0 : k = 0 := by
        rw [hk]
        exact Int.ediv_eq_zero_of_lt (by omega) (by omega)
      subst k0
      simp only [Int.mul_zero, Int.add_zero] at e1 e2
      omega
    · rw [if_neg r]
      omega
abbrev s_reduction : Stmt := top 32
theorem sc_reduction : FnScope ["f", "a", "b", "c", "p", "q", "r", "s", "k"] ["f"] (defScope s_reduction) := ⟨rfl, rfl, rfl, by decide +kernel, rfl, by decide +kernel, by decide +kernel⟩

def spRdc : Sp := fun vs H Q _ => ∃ (p : Addr) (a b c : Int), vs = [.ref p] ∧ H p = some (.tup [.int a, .int b, .int c]) ∧ PD a b c ∧ Sz 200 a ∧ Sz 200 b ∧ Sz 200 c ∧
  ∀ q t m g0 g1 g2 M H', Same H H' → H q = none → H' q = some (.tup [.ref t, .ref m]) → H' t = some (.tup [.int g0, .int g1, .int g2]) → IsM H' (.ref m) M → detM M = 1 → SzM 420 M → Red g0 g1 g2 → movT a b c M = (g0, g1, g2) → Q (.ref q) H'
theorem cal_rdc (D : Dn K mg "reduction" s_reduction ["f"]) (B : Bl mg) (U : UM K mg aU a1 a2) : Cal P w K mg base "reduction" 1 ["f"] spRdc := by
  refine D.cal sc_reduction (fun vs H Q E h => ?_) (fun f cdv A outer s H vs Q E hr h => ?_)
  · obtain ⟨p, a, b, c, rfl, _⟩ := h
    rfl
  · obtain ⟨fp, f0, f1, f2, rfl, hp, hP, z0, z1, z2, q⟩ := h
    refine ⟨_, (pss_cons (ps_asg (pv 0) (pg_tup rfl (pgs_cons (pg_name (i := 1) sc_reduction.nd rfl (Or.inl rfl)) (pgs_cons (pg_name (i := 2) sc_reduction.nd rfl (Or.inl rfl)) (pgs_cons (pg_name (i := 3) sc_reduction.nd rfl (Or.inl rfl)) pgs_nil)))))
  (pss_cons (ps_asg (pe_glob (v := .ref aU) rfl U.g rfl) (pg_tup rfl (pgs_cons (pg_tup rfl (pgs_cons (pg_name (i := 4) sc_reduction.nd rfl (Or.inl rfl)) (pgs_cons (pg_name (i := 5) sc_reduction.nd rfl (Or.inl rfl)) pgs_nil))) (pgs_cons (pg_tup rfl (pgs_cons (pg_name (i := 6) sc_reduction.nd rfl (Or.inl rfl)) (pgs_cons (pg_name (i := 7) sc_reduction.nd rfl (Or.inl rfl)) pgs_nil))) pgs_nil))))
  (pss_one (ps_while PassesOwn.never (pt_truth pe_bl (by intro _; rfl)) (pss_cons (ps_set (i := 8) sc_reduction.nd rfl (Or.inl rfl) (pe_op op_fdivW (pe_op op_sub (pv 1) (pv 2)) (pe_op op_mulI pe_int (pv 1))))
  (pss_cons (ps_aug (i := 3) sc_reduction.nd rfl (Or.inl rfl) (pe_op op_add (pe_op op_mulI (pv 2) (pv 8)) (pe_op op_mulI (pe_op op_mulI (pv 1) (pv 8)) (pv 8))) ip_add)
  (pss_cons (ps_aug (i := 2) sc_reduction.nd rfl (Or.inl rfl) (pe_op op_mulI (pe_op op_mulI pe_int (pv 1)) (pv 8)) ip_add)
  (pss_cons (ps_aug (i := 5) sc_reduction.nd rfl (Or.inl rfl) (pe_op op_mulI (pv 4) (pv 8)) ip_add)
  (pss_cons (ps_aug (i := 7) sc_reduction.nd rfl (Or.inl rfl) (pe_op op_mulI (pv 6) (pv 8)) ip_add)
  (pss_cons (ps_if (PW.pt (pw_or (pt_cmpR op_lt (pv 1) (pv 3) (nomark _)) (pw_or1 (PW.pt (pw_and (pt_cmpR op_eq (pv 1) (pv 3) (nomark _)) (pw_and1 (pt_cmpR op_ge (pv 2) pe_int (nomark _)))))))) (pss_one (ps_ret (pe_tup (pa_cons (pe_tup (pa_cons (pv 1) (pa_cons (pv 2) (pa_cons (pv 3) pa_nil)))) (pa_cons (pe_tup (pa_cons (pe_tup (pa_cons (pv 4) (pa_cons (pv 5) pa_nil))) (pa_cons (pe_tup (pa_cons (pv 6) (pa_cons (pv 7) pa_nil))) pa_nil))) pa_nil))))) pss_nil)
  (pss_cons (ps_par3 (i := 1) (j := 2) (l := 3) rfl sc_reduction.nd rfl rfl rfl (by decide) (by decide) (by decide) rfl rfl rfl (pa_cons (pv 3) (pa_cons (pe_un un_neg (pv 2)) (pa_cons (pv 1) pa_nil))) (by rfl))
  (pss_one (ps_asg (pe_tup (pa_cons (pv 5) (pa_cons (pe_un un_neg (pv 4)) (pa_cons (pv 7) (pa_cons (pe_un un_neg (pv 6)) pa_nil))))) (pg_tup rfl (pgs_cons (pg_name (i := 4) sc_reduction.nd rfl (Or.inl rfl)) (pgs_cons (pg_name (i := 5) sc_reduction.nd rfl (Or.inl rfl)) (pgs_cons (pg_name (i := 6) sc_reduction.nd rfl (Or.inl rfl)) (pgs_cons (pg_name (i := 7) sc_reduction.nd rfl (Or.inl rfl)) pgs_nil)))))))))))))))))), ?_⟩
    rw [CB.rd_seq]
    walk_at "rs"
    refine ⟨_, SqT.of hp, rfl, _, _, rfl, _, _, rfl, _, _, rfl, rfl, ?_⟩
    show tSeq _ _ _ _ _
    rw [CB.rd_seq]
    walk_at "rs"
    refine ⟨_, U.t0 _, rfl, _, _, rfl, a1, rfl, _, U.t1 _, rfl, _, _, rfl, _, _, rfl, rfl, _, _, rfl, a2, rfl, _, U.t2 _, rfl, _, _, rfl, _, _, rfl, rfl, rfl, ?_⟩
    refine while_w (fun σ H' => ∃ a b c p q r s s8, σ = [some (.ref fp), some (.int a), some (.int b), some (.int c), some (.int p), some (.int q), some (.int r), some (.int s), s8] ∧ Same H H' ∧ movT f0 f1 f2 ((p, q), (r, s)) = (a, b, c) ∧ detM ((p, q), (r, s)) = 1 ∧ PD a b c ∧ a ≤ f0 ∧ Sz 200 b ∧ Sz 200 c ∧ Sz 203 q ∧ Sz 203 s)
      (fun σ _ => match σ with | [_, some (.int a), some (.int b), some (.int c), _, _, _, _, _] => mu a b c | _ => 0) ⟨f0, f1, f2, 1, 0, 0, 1, _, rfl, Same.refl H, ?_, by decide, hP, Int.le_refl _, z1, z2, by unfold Sz; decide, by unfold Sz; decide⟩ ?_
    · simp [movT, valF, midF]
    rintro σ H' ⟨a, b, c, p, q', r, s', s8, rfl, sm, hm, hd, hPD, ha0, zb, zc, zq, zs⟩ N hN
    refine ⟨true, fun Q' q' => ?_, fun _ => ?_, fun z => by cases z⟩
    · exact ⟨true, rfl, q'⟩
    have ha := hPD.1
    have hc0 := hPD.c
    have za : Sz 200 a := by unfold Sz at *; omega
    have eva : valF f0 f1 f2 p r = a := congrArg Prod.fst hm
    obtain ⟨br, bp⟩ := col_bd hP eva ha0
    have z4 : Sz 3 4 := by unfold Sz; decide
    have zr : Sz 203 r := sq_sz br ((z4.mul (z0.mul z0)).le (by decide))
    have zp : Sz 203 p := sq_sz bp ((z4.mul (z2.mul z0)).le (by decide))
    have st := step_k (b := b) ha rfl
    have zk : Sz 202 ((a - b) / (2 * a)) := by
      refine sz_div (a := 2 * a) (by omega) ?_
      unfold Sz at *
      omega
    rw [CB.rd_seq]
    walk_at "rs"
    refine ⟨mulL (by decide), ⟨by omega, Nat.lt_of_le_of_lt (log_lt (k := 202) (by unfold Sz at za; omega)) (by decide)⟩, ?_⟩
    have hm1 := step_m (k := (a - b) / (2 * a)) hm
    have hd1 := step_d (k := (a - b) / (2 * a)) hd
    have hP1 : PD a (b + 2 * a * ((a - b) / (2 * a))) (c + b * ((a - b) / (2 * a)) + a * ((a - b) / (2 * a)) * ((a - b) / (2 * a))) := by
      have := hP.mov hd1
      rw [hm1] at this
      exact this
    have ms := mu_step (b := b) (c := c) ha rfl rfl rfl hP1.c
    generalize (a - b) / (2 * a) = k at *
    rw [CB.rd_seq]
    walk_at "rs"
    refine ⟨zb.ok zk (by decide) (by decide), za.ok zk (by decide) (by decide), (za.mul zk).ok zk (by decide) (by decide), ?_⟩
    rw [CB.rd_seq]
    walk_at "rs"
    refine ⟨mulL (by decide), ((show Sz 3 2 by unfold Sz; decide).mul za).ok zk (by decide) (by decide), ?_⟩
    rw [CB.rd_seq]
    walk_at "rs"
    refine ⟨zp.ok zk (by decide) (by decide), ?_⟩
    rw [CB.rd_seq]
    walk_at "rs"
    refine ⟨zr.ok zk (by decide) (by decide), ?_⟩
    rw [CB.rd_seq]
    walk_at "rs"
    rw [← Int.add_assoc]
    have zM : SzM 420 ((p, q' + p * k), (r, s' + r * k)) := ⟨zp.le (by decide), ((zq.le (by decide)).add (zp.mul zk)).le (by decide), zr.le (by decide), ((zs.le (by decide)).add (zr.mul zk)).le (by decide)⟩
    have zq2 : Sz 203 (-p) ∧ Sz 203 (-r) := ⟨zp.neg, zr.neg⟩
    generalize b + 2 * a * k = b1 at *
    generalize c + b * k + a * k * k = c1 at *
    have red : (a < c1 ∨ (a = c1 ∧ 0 ≤ b1)) → Red a b1 c1 := fun h => ⟨ha, st.1, st.2, by omega, fun _ => by omega⟩
    have hm2 := swap_m hm1
    have hd2 := swap_d hd1
    have hP2 : PD c1 (-b1) a := by
      have := hP.mov hd2
      rw [hm2] at this
      exact this
    have nxt : ∀ H2, Same H' H2 → ¬ (a < c1 ∨ (a = c1 ∧ 0 ≤ b1)) → N [some (.ref fp), some (.int c1), some (.int (-b1)), some (.int a), some (.int (q' + p * k)), some (.int (-p)), some (.int (s' + r * k)), some (.int (-r)), some (.int k)] H2 := fun H2 s2 no => by
      refine hN _ _ ⟨c1, -b1, a, _, _, _, _, _, rfl, sm.trans s2, hm2, hd2, hP2, by omega, ?_, za, zq2.1, zq2.2⟩ (ms no)
      unfold Sz at *
      omega
    clear hN
    refine ite2 (fun h1 => ?_) (fun h1 => ite2 (fun h2 => ite2 (fun h3 => ?_) (fun h3 => ?_)) (fun h2 => ?_))
    · skip
      refine ⟨by decide, fun p1 n1 => ⟨by decide, fun p2 n2 => ⟨by decide, fun p3 n3 => ⟨by decide, fun p4 n4 => ⟨by decide, fun p5 n5 => ?_⟩⟩⟩⟩⟩
      have sA := same_upd (o := HO.tup [.int a, .int b1, .int c1]) n1
      obtain ⟨sB, mB⟩ := newM n2 n3 n4
      have sC := same_upd (o := HO.tup [.ref p1, .ref p4]) n5
      exact q p5 p1 p4 _ _ _ ((p, q' + p * k), (r, s' + r * k)) _ (((sm.trans sA).trans sB).trans sC) ((sm.trans (sA.trans sB)).free n5) upd_same (sC _ _ (sB _ _ upd_same)) (mB.same sC) hd1 zM (red (.inl h1)) hm1
    · skip
      refine ⟨by decide, fun p1 n1 => ⟨by decide, fun p2 n2 => ⟨by decide, fun p3 n3 => ⟨by decide, fun p4 n4 => ⟨by decide, fun p5 n5 => ?_⟩⟩⟩⟩⟩
      have sA := same_upd (o := HO.tup [.int a, .int b1, .int c1]) n1
      obtain ⟨sB, mB⟩ := newM n2 n3 n4
      have sC := same_upd (o := HO.tup [.ref p1, .ref p4]) n5
      exact q p5 p1 p4 _ _ _ ((p, q' + p * k), (r, s' + r * k)) _ (((sm.trans sA).trans sB).trans sC) ((sm.trans (sA.trans sB)).free n5) upd_same (sC _ _ (sB _ _ upd_same)) (mB.same sC) hd1 zM (red (.inr ⟨h2, h3⟩)) hm1
    · rw [CB.rd_seq, rd_par3]
      walk_at "rs"
      refine ⟨by decide, fun p1 n1 => ⟨_, SqT.of upd_same, rfl, _, _, rfl, _, _, rfl, _, _, rfl, _, _, rfl, rfl, ?_⟩⟩
      exact nxt _ (same_upd n1) (by omega)
    · rw [CB.rd_seq, rd_par3]
      walk_at "rs"
      refine ⟨by decide, fun p1 n1 => ⟨_, SqT.of upd_same, rfl, _, _, rfl, _, _, rfl, _, _, rfl, _, _, rfl, rfl, ?_⟩⟩
      exact nxt _ (same_upd n1) (by omega)
end

section
variable {P : Program} {w : World} {K : PySem.W.Frag} {mg : Str → Option Value} {base : Heap} {CM CR aU a1 a2 : Addr}
abbrev s__law_lowered : Stmt := top 59
theorem sc__law_lowered : FnScope ["f", "a", "b", "c", "k"] ["f"] (defScope s__law_lowered) := ⟨rfl, rfl, rfl, by decide +kernel, rfl, by decide +kernel, by decide +kernel⟩

def spLow : Sp := fun vs H Q _ => ∃ (p : Addr) (a b c : Int), vs = [.ref p] ∧ H p = some (.tup [.int a, .int b, .int c]) ∧ PD a b c ∧ Sz 200 a ∧ Sz 200 b ∧ Sz 200 c ∧
  ∀ q g0 g1 g2 M H', Same H H' → H' q = some (.tup [.int g0, .int g1, .int g2]) → detM M = 1 → Red g0 g1 g2 → movT a b c M = (g0, g1, g2) → Q (.ref q) H'
theorem cal_low (D : Dn K mg "_law_lowered" s__law_lowered ["f"]) (B : Bl mg) : Cal P w K mg base "_law_lowered" 1 ["f"] spLow := by
  refine D.cal sc__law_lowered (fun vs H Q E h => ?_) (fun f cdv A outer s H vs Q E hr h => ?_)
  · obtain ⟨p, a, b, c, rfl, _⟩ := h
    rfl
  · obtain ⟨fp, f0, f1, f2, rfl, hp, hP, z0, z1, z2, q⟩ := h
    refine ⟨_, (pss_cons (ps_asg (pv 0) (pg_tup rfl (pgs_cons (pg_name (i := 1) sc__law_lowered.nd rfl (Or.inl rfl)) (pgs_cons (pg_name (i := 2) sc__law_lowered.nd rfl (Or.inl rfl)) (pgs_cons (pg_name (i := 3) sc__law_lowered.nd rfl (Or.inl rfl)) pgs_nil)))))
  (pss_one (ps_while PassesOwn.never (pt_truth pe_bl (by intro _; rfl)) (pss_cons (ps_set (i := 4) sc__law_lowered.nd rfl (Or.inl rfl) (pe_op op_fdivW (pe_op op_sub (pv 1) (pv 2)) (pe_op op_mulI pe_int (pv 1))))
  (pss_cons (ps_par (i := 2) (j := 3) rfl sc__law_lowered.nd rfl rfl (by decide) rfl rfl (pa_cons (pe_op op_add (pv 2) (pe_op op_mulI (pe_op op_mulI pe_int (pv 1)) (pv 4))) (pa_cons (pe_op op_add (pe_op op_add (pe_op op_mulI (pe_op op_mulI (pv 1) (pv 4)) (pv 4)) (pe_op op_mulI (pv 2) (pv 4))) (pv 3)) pa_nil)) (by rfl))
  (pss_cons (ps_if (PW.pt (pw_or (pt_cmpR op_lt (pv 1) (pv 3) (nomark _)) (pw_or1 (PW.pt (pw_and (pt_cmpR op_eq (pv 1) (pv 3) (nomark _)) (pw_and1 (pt_cmpR op_ge (pv 2) pe_int (nomark _)))))))) (pss_one (ps_ret (pe_tup (pa_cons (pv 1) (pa_cons (pv 2) (pa_cons (pv 3) pa_nil)))))) pss_nil)
  (pss_one (ps_par3 (i := 1) (j := 2) (l := 3) rfl sc__law_lowered.nd rfl rfl rfl (by decide) (by decide) (by decide) rfl rfl rfl (pa_cons (pv 3) (pa_cons (pe_un un_neg (pv 2)) (pa_cons (pv 1) pa_nil))) (by rfl))))))))), ?_⟩
    rw [CB.rd_seq]
    walk_at "rs"
    refine ⟨_, SqT.of hp, rfl, _, _, rfl, _, _, rfl, _, _, rfl, rfl, ?_⟩
    refine while_w (fun σ H' => ∃ a b c M s8, σ = [some (.ref fp), some (.int a), some (.int b), some (.int c), s8] ∧ H' = H ∧ movT f0 f1 f2 M = (a, b, c) ∧ detM M = 1 ∧ PD a b c ∧ a ≤ f0 ∧ Sz 200 b ∧ Sz 200 c)
      (fun σ _ => match σ with | [_, some (.int a), some (.int b), some (.int c), _] => mu a b c | _ => 0) ⟨f0, f1, f2, ((1, 0), (0, 1)), _, rfl, rfl, ?_, by decide, hP, Int.le_refl _, z1, z2⟩ ?_
    · simp [movT, valF, midF]
    rintro σ H' ⟨a, b, c, ⟨⟨p, q'⟩, ⟨r, s'⟩⟩, s8, rfl, rfl, hm, hd, hPD, ha0, zb, zc⟩ N hN
    refine ⟨true, fun Q' q' => ?_, fun _ => ?_, fun z => by cases z⟩
    · exact ⟨true, rfl, q'⟩
    have ha := hPD.1
    have hc0 := hPD.c
    have za : Sz 200 a := by unfold Sz at *; omega
    have st := step_k (b := b) ha rfl
    have zk : Sz 202 ((a - b) / (2 * a)) := by
      refine sz_div (a := 2 * a) (by omega) ?_
      unfold Sz at *
      omega
    rw [CB.rd_seq]
    walk_at "rs"
    refine ⟨mulL (by decide), ⟨by omega, Nat.lt_of_le_of_lt (log_lt (k := 202) (by unfold Sz at za; omega)) (by decide)⟩, ?_⟩
    have hm1 := step_m (k := (a - b) / (2 * a)) hm
    have hd1 := step_d (k := (a - b) / (2 * a)) hd
    have hP1 : PD a (b + 2 * a * ((a - b) / (2 * a))) (c + b * ((a - b) / (2 * a)) + a * ((a - b) / (2 * a)) * ((a - b) / (2 * a))) := by
      have := hP.mov hd1
      rw [hm1] at this
      exact this
    have ms := mu_step (b := b) (c := c) ha rfl rfl rfl hP1.c
    generalize (a - b) / (2 * a) = k at *
    rw [CB.rd_seq]
    walk_at "rs"
    refine ⟨mulL (by decide), ((show Sz 3 2 by unfold Sz; decide).mul za).ok zk (by decide) (by decide), za.ok zk (by decide) (by decide), (za.mul zk).ok zk (by decide) (by decide), zb.ok zk (by decide) (by decide), ?_⟩
    have ec : a * k * k + b * k + c = c + b * k + a * k * k := by omega
    rw [ec]
    rw [CB.rd_seq]
    walk_at "rs"
    generalize b + 2 * a * k = b1 at *
    generalize c + b * k + a * k * k = c1 at *
    have red : (a < c1 ∨ (a = c1 ∧ 0 ≤ b1)) → Red a b1 c1 := fun h => ⟨ha, st.1, st.2, by omega, fun _ => by omega⟩
    have hm2 := swap_m hm1
    have hd2 := swap_d hd1
    have hP2 : PD c1 (-b1) a := by
      have := hP.mov hd2
      rw [hm2] at this
      exact this
    have nxt : ¬ (a < c1 ∨ (a = c1 ∧ 0 ≤ b1)) → N [some (.ref fp), some (.int c1), some (.int (-b1)), some (.int a), some (.int k)] H' := fun no => by
      refine hN _ _ ⟨c1, -b1, a, _, _, rfl, rfl, hm2, hd2, hP2, by omega, ?_, za⟩ (ms no)
      unfold Sz at *
      omega
    clear hN
    refine ite2 (fun h1 => ?_) (fun h1 => ite2 (fun h2 => ite2 (fun h3 => ?_) (fun h3 => ?_)) (fun h2 => ?_))
    · exact ⟨by decide, fun p1 n1 => q p1 _ _ _ _ _ (same_upd n1) upd_same hd1 (red (.inl h1)) hm1⟩
    · exact ⟨by decide, fun p1 n1 => q p1 _ _ _ _ _ (same_upd n1) upd_same hd1 (red (.inr ⟨h2, h3⟩)) hm1⟩
    · rw [rd_par3]
      walk_at "rs"
      exact nxt (by omega)
    · rw [rd_par3]
      walk_at "rs"
      exact nxt (by omega)
abbrev s__law_is_low : Stmt := top 62
theorem sc__law_is_low : FnScope ["f", "a", "b", "c"] ["f"] (defScope s__law_is_low) := ⟨rfl, rfl, rfl, by decide +kernel, rfl, by decide +kernel, by decide +kernel⟩

def lowB (a b c : Int) : Bool := decide ((b.natAbs : Int) ≤ a ∧ a ≤ c ∧ (0 ≤ b ∨ (-b < a ∧ a < c)))
def spLow2 : Sp := fun vs H Q _ => ∃ (p : Addr) (a b c : Int), vs = [.ref p] ∧ H p = some (.tup [.int a, .int b, .int c]) ∧ Q (.bl (lowB a b c)) H
theorem cal_islow (D : Dn K mg "_law_is_low" s__law_is_low ["f"]) (B : Bl mg) : Cal P w K mg base "_law_is_low" 1 ["f"] spLow2 := by
  refine D.cal sc__law_is_low (fun vs H Q E h => ?_) (fun f cdv A outer s H vs Q E hr h => ?_)
  · obtain ⟨p, a, b, c, rfl, _⟩ := h
    rfl
  · obtain ⟨p, a, b, c, rfl, hp, q⟩ := h
    refine ⟨_, (pss_cons (ps_asg (pv 0) (pg_tup rfl (pgs_cons (pg_name (i := 1) sc__law_is_low.nd rfl (Or.inl rfl)) (pgs_cons (pg_name (i := 2) sc__law_is_low.nd rfl (Or.inl rfl)) (pgs_cons (pg_name (i := 3) sc__law_is_low.nd rfl (Or.inl rfl)) pgs_nil)))))
  (pss_one (ps_ret (pe_and (pe_chain op_le op_le (pe_callB call_abs rfl B.abs (by decide +kernel) (pa_cons (pv 2) pa_nil)) (pv 1) (pv 3)) (pe_one (pe_or (pe_cmpR op_ge (pv 2) pe_int (nomark _)) (pe_one (pe_chain op_lt op_lt (pe_un un_neg (pv 2)) (pv 1) (pv 3))))))))), ?_⟩
    rw [CB.rd_seq]
    walk_at "rs"
    refine ⟨_, SqT.of hp, rfl, _, _, rfl, _, _, rfl, _, _, rfl, rfl, ?_⟩
    walk_at "rs"
    rw [iabs]
    have key : ∀ x : Bool, (x = true ↔ ((b.natAbs : Int) ≤ a ∧ a ≤ c ∧ (0 ≤ b ∨ (-b < a ∧ a < c)))) → Q (.bl x) H := fun x hx => by
      have e : lowB a b c = x := by
        unfold lowB
        cases x with
        | true => exact decide_eq_true (hx.mp rfl)
        | false => exact decide_eq_false fun z => by cases hx.mpr z
      rw [← e]
      exact q
    refine ite2 (fun c1 => ite2 (fun c2 => ite2 (fun c3 => key true ⟨fun _ => ⟨c1, c2, .inl c3⟩, fun _ => rfl⟩) (fun c3 => ite2 (fun c4 => key _ ?_) (fun c4 => key false ⟨(fun z => by cases z), (fun z => by omega)⟩))) (fun c2 => key false ⟨(fun z => by cases z), (fun z => by omega)⟩)) (fun c1 => key false ⟨(fun z => by cases z), (fun z => by omega)⟩)
    rw [decide_eq_true_eq]
    exact ⟨fun z => ⟨c1, c2, .inr ⟨c4, z⟩⟩, fun z => by omega⟩
abbrev s_told_reduced : Stmt := top 30
theorem sc_told_reduced : FnScope ["f", "a", "b", "c"] ["f"] (defScope s_told_reduced) := ⟨rfl, rfl, rfl, by decide +kernel, rfl, by decide +kernel, by decide +kernel⟩

theorem low_red {a b c : Int} (ha : 0 < a) : lowB a b c = true ↔ Red a b c := by
  unfold lowB Red
  rw [decide_eq_true_eq]
  omega
theorem cal_tred (D : Dn K mg "told_reduced" s_told_reduced ["f"]) (B : Bl mg) : Cal P w K mg base "told_reduced" 1 ["f"] spLow2 := by
  refine D.cal sc_told_reduced (fun vs H Q E h => ?_) (fun f cdv A outer s H vs Q E hr h => ?_)
  · obtain ⟨p, a, b, c, rfl, _⟩ := h
    rfl
  · obtain ⟨p, a, b, c, rfl, hp, q⟩ := h
    refine ⟨_, (pss_cons (ps_asg (pv 0) (pg_tup rfl (pgs_cons (pg_name (i := 1) sc_told_reduced.nd rfl (Or.inl rfl)) (pgs_cons (pg_name (i := 2) sc_told_reduced.nd rfl (Or.inl rfl)) (pgs_cons (pg_name (i := 3) sc_told_reduced.nd rfl (Or.inl rfl)) pgs_nil)))))
  (pss_cons (ps_if (PW.pt (pw_or (pt_cmpR op_gt (pe_callB call_abs rfl B.abs (by decide +kernel) (pa_cons (pv 2) pa_nil)) (pv 1) (nomark _)) (pw_or1 (pt_cmpR op_gt (pv 1) (pv 3) (nomark _))))) (pss_one (ps_ret pe_bl)) pss_nil)
  (pss_one (ps_ret (pe_or (pe_cmpR op_ge (pv 2) pe_int (nomark _)) (pe_one (pe_chain op_lt op_lt (pe_callB call_abs rfl B.abs (by decide +kernel) (pa_cons (pv 2) pa_nil)) (pv 1) (pv 3)))))))), ?_⟩
    rw [CB.rd_seq]
    walk_at "rs"
    refine ⟨_, SqT.of hp, rfl, _, _, rfl, _, _, rfl, _, _, rfl, rfl, ?_⟩
    show tSeq _ _ _ _ _
    rw [CB.rd_seq]
    walk_at "rs"
    have key : ∀ x : Bool, (x = true ↔ ((b.natAbs : Int) ≤ a ∧ a ≤ c ∧ (0 ≤ b ∨ (-b < a ∧ a < c)))) → Q (.bl x) H := fun x hx => by
      have e : lowB a b c = x := by
        unfold lowB
        cases x with
        | true => exact decide_eq_true (hx.mp rfl)
        | false => exact decide_eq_false fun z => by cases hx.mpr z
      rw [← e]
      exact q
    rw [iabs]
    have no : ¬ ((b.natAbs : Int) ≤ a ∧ a ≤ c ∧ (0 ≤ b ∨ (-b < a ∧ a < c))) → Q (.bl false) H := fun h => key false ⟨(fun z => by cases z), (fun z => absurd z h)⟩
    refine ite2 (fun c1 => no (by omega)) (fun c1 => ite2 (fun c2 => no (by omega)) (fun c2 => ite2 (fun c3 => key true ⟨fun _ => ⟨by omega, by omega, .inl c3⟩, fun _ => rfl⟩) (fun c3 => ite2 (fun c4 => key _ ?_) (fun c4 => no (by omega)))))
    rw [decide_eq_true_eq]
    exact ⟨fun z => ⟨by omega, by omega, .inr ⟨by omega, z⟩⟩, fun z => by omega⟩
abbrev s_is_reduced : Stmt := top 31
theorem sc_is_reduced : FnScope ["f"] ["f"] (defScope s_is_reduced) := ⟨rfl, rfl, rfl, by decide +kernel, rfl, by decide +kernel, by decide +kernel⟩

def spIsR (K : PySem.W.Frag) (CM : Addr) : Sp := fun vs H Q E => ∃ v : V, vs = [v] ∧ ((NotDf K H v ∧ ∀ H', Same H H' → E (.ref CM) none H') ∨ ∃ (p : Addr) (a b c : Int), v = .ref p ∧ H p = some (.tup [.int a, .int b, .int c]) ∧ formB a b c = true ∧ dsc a b c ≤ 0 ∧ ∀ H', Same H H' → Q (.bl (lowB a b c)) H')
theorem cal_isred (D : Dn K mg "is_reduced" s_is_reduced ["f"]) (B : Bl mg) (c_check_definite : CalX P w K mg base "check_definite" 5 ["f"] (spDef K CM)) (c_told_reduced : Cal P w K mg base "told_reduced" 1 ["f"] spLow2) : CalX P w K mg base "is_reduced" 6 ["f"] (spIsR K CM) := by
  refine D.calX sc_is_reduced (fun vs H Q E h => ?_) (fun f cdv A outer s H vs Q E hr h => ?_)
  · obtain ⟨v, rfl, _⟩ := h
    rfl
  · obtain ⟨v, rfl, h⟩ := h
    refine ⟨_, (pss_cons (ps_expr (pe_calS c_check_definite (takes_of rfl rfl rfl rfl) (hr.mono (by decide)) rfl (pa_cons (pv 0) pa_nil)))
  (pss_one (ps_ret (pe_cal c_told_reduced (hr.mono (by decide)) rfl (pa_cons (pv 0) pa_nil))))), ?_⟩
    rw [CB.rd_seq]
    walk_at "rs"
    refine ⟨v, rfl, ?_⟩
    rcases h with ⟨hn, e⟩ | ⟨p, a, b, c, rfl, hp, hf, hd, q⟩
    · exact .inl ⟨hn, e⟩
    refine .inr ⟨p, a, b, c, rfl, hp, hf, hd, fun H1 s1 => ?_⟩
    exact ⟨p, a, b, c, rfl, s1 _ _ hp, q H1 s1⟩
abbrev s_check_walked : Stmt := top 36
theorem sc_check_walked : FnScope ["D"] ["D"] (defScope s_check_walked) := ⟨rfl, rfl, rfl, by decide +kernel, rfl, by decide +kernel, by decide +kernel⟩

def spChkW : Sp := fun vs H Q _ => ∃ D : Int, vs = [.int D] ∧ D ≤ 1000000 ∧ Q .non H
theorem cal_chkw (D : Dn K mg "check_walked" s_check_walked ["D"]) (B : Bl mg) (e_E : ErrI P w K mg base CM CR) : CalX P w K mg base "check_walked" 3 ["D"] spChkW := by
  refine D.calX sc_check_walked (fun vs H Q E h => ?_) (fun f cdv A outer s H vs Q E hr h => ?_)
  · obtain ⟨n, rfl, _⟩ := h
    rfl
  · obtain ⟨n, rfl, hn, q⟩ := h
    refine ⟨_, (pss_one (ps_if (pt_cmpR op_gt (pv 0) (pe_glob (v := .int 1000000) rfl B.c_LARGEST.choose_spec ⟨_, rfl⟩) (nomark _)) (pss_one (ps_ref e_E rfl (takes_of rfl rfl rfl rfl) (hr.mono (by decide)) rfl)) pss_nil)), ?_⟩
    walk_at "rd"
    rw [if_neg (by omega)]
    exact q
abbrev s_told_by_steps : Stmt := top 44
theorem sc_told_by_steps : FnScope ["f", "g", "m", "forms", "turns", "least", "t"] ["f"] (defScope s_told_by_steps) := ⟨rfl, rfl, rfl, by decide +kernel, rfl, by decide +kernel, by decide +kernel⟩

theorem cal_tbs (D : Dn K mg "told_by_steps" s_told_by_steps ["f"]) (B : Bl mg) (c_told_discriminant : Cal P w K mg base "told_discriminant" 1 ["f"] spTDisc) (c_reduction : Cal P w K mg base "reduction" 1 ["f"] spRdc) : Cal P w K mg base "told_by_steps" 2 ["f"] spRdc := by
  refine D.cal sc_told_by_steps (fun vs H Q E h => ?_) (fun f cdv A outer s H vs Q E hr h => ?_)
  · obtain ⟨p, a, b, c, rfl, _⟩ := h
    rfl
  · obtain ⟨p, a, b, c, rfl, hp, hP, za, zb, zc, q⟩ := h
    refine ⟨_, (pss_cons (ps_if (pt_cmpR op_lt (pe_cal c_told_discriminant (hr.mono (by decide)) rfl (pa_cons (pv 0) pa_nil)) pe_int (nomark _)) (pss_one (ps_ret (pe_cal c_reduction (hr.mono (by decide)) rfl (pa_cons (pv 0) pa_nil)))) pss_nil)
  pss_never), ?_⟩
    rw [CB.rd_seq]
    walk_at "rs"
    refine ⟨p, a, b, c, rfl, hp, zb.ok zb (by decide) (by decide), ((show Sz 3 4 by unfold Sz; decide).mul za).ok zc (by decide) (by decide), _, rfl, ?_⟩
    rw [if_pos (show b * b - 4 * a * c < 0 from hP.2)]
    exact ⟨p, a, b, c, rfl, hp, hP, za, zb, zc, q⟩
abbrev s_reduced_form : Stmt := top 33
theorem sc_reduced_form : FnScope ["f", "g", "m"] ["f"] (defScope s_reduced_form) := ⟨rfl, rfl, rfl, by decide +kernel, rfl, by decide +kernel, by decide +kernel⟩

theorem form_pd {a b c : Int} (h : formB a b c = true) (hd : dsc a b c ≤ 0) : PD a b c ∧ Sz 200 a ∧ Sz 200 b ∧ Sz 200 c := by
  have s := form_sz (form_lg h)
  unfold formB at h
  simp only [Bool.and_eq_true, decide_eq_true_eq] at h
  have h0 : dsc a b c ≠ 0 := fun z => by
    have := h.2.1
    rw [z] at this
    revert this
    decide +kernel
  exact ⟨⟨by omega, by omega⟩, s⟩
/-- what is told: a reduced form and a matrix -/
def Told (H : Hp) (a b c : Int) (Q : VK) : Prop := ∀ q t m g0 g1 g2 M H', Same H H' → H' q = some (.tup [.ref t, .ref m]) → H' t = some (.tup [.int g0, .int g1, .int g2]) → IsM H' (.ref m) M → detM M = 1 → SzM 420 M → Red g0 g1 g2 → movT a b c M = (g0, g1, g2) → Q (.ref q) H'
/-- its reduced form has not too many digits -/
def Lit (a b c : Int) : Prop := ∀ g0 g1 g2 M, detM M = 1 → Red g0 g1 g2 → movT a b c M = (g0, g1, g2) → lgB g0 g1 g2 = false
def spRFm (K : PySem.W.Frag) (CM : Addr) : Sp := fun vs H Q E => ∃ v : V, vs = [v] ∧ ((NotDf K H v ∧ ∀ H', Same H H' → E (.ref CM) none H') ∨ ∃ (p : Addr) (a b c : Int), v = .ref p ∧ H p = some (.tup [.int a, .int b, .int c]) ∧ formB a b c = true ∧ dsc a b c ≤ 0 ∧ Lit a b c ∧ Told H a b c Q)
theorem cal_rfm (D : Dn K mg "reduced_form" s_reduced_form ["f"]) (B : Bl mg) (c_check_definite : CalX P w K mg base "check_definite" 5 ["f"] (spDef K CM)) (c_reduction : Cal P w K mg base "reduction" 1 ["f"] spRdc) (c_check_items : CalX P w K mg base "check_items" 3 ["f"] (spChkI CR)) : CalX P w K mg base "reduced_form" 6 ["f"] (spRFm K CM) := by
  refine D.calX sc_reduced_form (fun vs H Q E h => ?_) (fun f cdv A outer s H vs Q E hr h => ?_)
  · obtain ⟨v, rfl, _⟩ := h
    rfl
  · obtain ⟨v, rfl, h⟩ := h
    refine ⟨_, (pss_cons (ps_expr (pe_calS c_check_definite (takes_of rfl rfl rfl rfl) (hr.mono (by decide)) rfl (pa_cons (pv 0) pa_nil)))
  (pss_cons (ps_asg (pe_cal c_reduction (hr.mono (by decide)) rfl (pa_cons (pv 0) pa_nil)) (pg_tup rfl (pgs_cons (pg_name (i := 1) sc_reduced_form.nd rfl (Or.inl rfl)) (pgs_cons (pg_name (i := 2) sc_reduced_form.nd rfl (Or.inl rfl)) pgs_nil))))
  (pss_cons (ps_expr (pe_calS c_check_items (takes_of rfl rfl rfl rfl) (hr.mono (by decide)) rfl (pa_cons (pv 1) pa_nil)))
  (pss_one (ps_ret (pe_tup (pa_cons (pv 1) (pa_cons (pv 2) pa_nil)))))))), ?_⟩
    rw [CB.rd_seq]
    walk_at "rs"
    refine ⟨v, rfl, ?_⟩
    rcases h with ⟨hn, e⟩ | ⟨p, a, b, c, rfl, hp, hf, hd, lit, q⟩
    · exact .inl ⟨hn, e⟩
    refine .inr ⟨p, a, b, c, rfl, hp, hf, hd, fun H1 s1 => ?_⟩
    obtain ⟨hP, za, zb, zc⟩ := form_pd hf hd
    show tSeq _ _ _ _ _
    rw [CB.rd_seq]
    walk_at "rs"
    refine ⟨p, a, b, c, rfl, s1 _ _ hp, hP, za, zb, zc, fun q1 t m g0 g1 g2 M H2 s2 nq h1 ht hM dM sM hR hm => ?_⟩
    refine ⟨q1, rfl, _, SqT.of h1, rfl, _, _, rfl, _, _, rfl, rfl, ?_⟩
    show tSeq _ _ _ _ _
    rw [CB.rd_seq]
    walk_at "rs"
    refine ⟨t, g0, g1, g2, rfl, ht, .inr ⟨lit g0 g1 g2 M dM hR hm, fun H3 s3 => ?_⟩⟩
    walk_at "rs"
    refine ⟨by decide, fun q2 n2 => ?_⟩
    have s4 := same_upd (o := HO.tup [.ref t, .ref m]) n2
    exact q q2 t m g0 g1 g2 M _ (((s1.trans s2).trans s3).trans s4) upd_same (s4 _ _ (s3 _ _ ht)) ((hM.same s3).same s4) dM sM hR hm
abbrev s_told_form : Stmt := top 45
theorem sc_told_form : FnScope ["f", "g", "m"] ["f"] (defScope s_told_form) := ⟨rfl, rfl, rfl, by decide +kernel, rfl, by decide +kernel, by decide +kernel⟩

def spTFm (K : PySem.W.Frag) (CM : Addr) : Sp := fun vs H Q E => ∃ v : V, vs = [v] ∧ ((NotF K H v ∧ ∀ H', Same H H' → E (.ref CM) none H') ∨ ∃ (p : Addr) (a b c : Int), v = .ref p ∧ H p = some (.tup [.int a, .int b, .int c]) ∧ formB a b c = true ∧ dsc a b c ≤ 0 ∧ Lit a b c ∧ Told H a b c Q)
theorem cal_tfm (D : Dn K mg "told_form" s_told_form ["f"]) (B : Bl mg) (c_check_form : CalX P w K mg base "check_form" 4 ["f"] (spChkF K CM)) (c_told_discriminant : Cal P w K mg base "told_discriminant" 1 ["f"] spTDisc) (c_check_walked : CalX P w K mg base "check_walked" 3 ["D"] spChkW)
    (c_told_by_steps : Cal P w K mg base "told_by_steps" 2 ["f"] spRdc) (c_check_items : CalX P w K mg base "check_items" 3 ["f"] (spChkI CR)) : CalX P w K mg base "told_form" 5 ["f"] (spTFm K CM) := by
  refine D.calX sc_told_form (fun vs H Q E h => ?_) (fun f cdv A outer s H vs Q E hr h => ?_)
  · obtain ⟨v, rfl, _⟩ := h
    rfl
  · obtain ⟨v, rfl, h⟩ := h
    refine ⟨_, (pss_cons (ps_expr (pe_calS c_check_form (takes_of rfl rfl rfl rfl) (hr.mono (by decide)) rfl (pa_cons (pv 0) pa_nil)))
  (pss_cons (ps_expr (pe_calS c_check_walked (takes_of rfl rfl rfl rfl) (hr.mono (by decide)) rfl (pa_cons (pe_cal c_told_discriminant (hr.mono (by decide)) rfl (pa_cons (pv 0) pa_nil)) pa_nil)))
  (pss_cons (ps_asg (pe_cal c_told_by_steps (hr.mono (by decide)) rfl (pa_cons (pv 0) pa_nil)) (pg_tup rfl (pgs_cons (pg_name (i := 1) sc_told_form.nd rfl (Or.inl rfl)) (pgs_cons (pg_name (i := 2) sc_told_form.nd rfl (Or.inl rfl)) pgs_nil))))
  (pss_cons (ps_expr (pe_calS c_check_items (takes_of rfl rfl rfl rfl) (hr.mono (by decide)) rfl (pa_cons (pv 1) pa_nil)))
  (pss_one (ps_ret (pe_tup (pa_cons (pv 1) (pa_cons (pv 2) pa_nil))))))))), ?_⟩
    rw [CB.rd_seq]
    walk_at "rs"
    refine ⟨v, rfl, ?_⟩
    rcases h with ⟨hn, e⟩ | ⟨p, a, b, c, rfl, hp, hf, hd, lit, q⟩
    · exact .inl ⟨hn, e⟩
    refine .inr ⟨p, a, b, c, rfl, hp, hf, fun H1 s1 => ?_⟩
    obtain ⟨hP, za, zb, zc⟩ := form_pd hf hd
    have hp1 := s1 _ _ hp
    show tSeq _ _ _ _ _
    rw [CB.rd_seq]
    walk_at "rs"
    refine ⟨p, a, b, c, rfl, hp1, zb.ok zb (by decide) (by decide), ((show Sz 3 4 by unfold Sz; decide).mul za).ok zc (by decide) (by decide), _, rfl, ?_, ?_⟩
    · have := hP.2
      unfold dsc at this
      omega
    show tSeq _ _ _ _ _
    rw [CB.rd_seq]
    walk_at "rs"
    refine ⟨p, a, b, c, rfl, hp1, hP, za, zb, zc, fun q1 t m g0 g1 g2 M H2 s2 nq h1 ht hM dM sM hR hm => ?_⟩
    refine ⟨q1, rfl, _, SqT.of h1, rfl, _, _, rfl, _, _, rfl, rfl, ?_⟩
    show tSeq _ _ _ _ _
    rw [CB.rd_seq]
    walk_at "rs"
    refine ⟨t, g0, g1, g2, rfl, ht, .inr ⟨lit g0 g1 g2 M dM hR hm, fun H3 s3 => ?_⟩⟩
    walk_at "rs"
    refine ⟨by decide, fun q2 n2 => ?_⟩
    have s4 := same_upd (o := HO.tup [.ref t, .ref m]) n2
    exact q q2 t m g0 g1 g2 M _ (((s1.trans s2).trans s3).trans s4) upd_same (s4 _ _ (s3 _ _ ht)) ((hM.same s3).same s4) dM sM hR hm
end

section
variable {P : Program} {w : World} {K : PySem.W.Frag} {mg : Str → Option Value} {base : Heap} {CM CR aU a1 a2 : Addr}
theorem col_bd2 {a b c p r v : Int} (h : PD a b c) (e : valF a b c p r = v) : r * r ≤ 4 * (a * v) ∧ p * p ≤ 4 * (c * v) := by
  have hc := h.c
  obtain ⟨ha, hd⟩ := h
  have v1 := val1 (a := a) (b := b) (c := c) (p := p) (r := r)
  have v2 := val2 (a := a) (b := b) (c := c) (p := p) (r := r)
  rw [e] at v1 v2
  have q1 := sq_nn (2 * a * p + b * r)
  have q2 := sq_nn (2 * c * r + b * p)
  have w1 : 1 * (r * r) ≤ (- dsc a b c) * (r * r) := Int.mul_le_mul_of_nonneg_right (by omega) (sq_nn r)
  have w2 : 1 * (p * p) ≤ (- dsc a b c) * (p * p) := Int.mul_le_mul_of_nonneg_right (by omega) (sq_nn p)
  omega
theorem mat_sz {a b c a' b' c' : Int} {M : M4} (h : PD a b c) (e : movT a b c M = (a', b', c')) (za : Sz 200 a) (zc : Sz 200 c) (za' : Sz 200 a') (zc' : Sz 200 c') : SzM 203 M := by
  obtain ⟨⟨p, q⟩, ⟨r, s⟩⟩ := M
  simp only [movT, Prod.mk.injEq] at e
  obtain ⟨e1, _, e3⟩ := e
  have z4 : Sz 3 4 := by unfold Sz; decide
  obtain ⟨x1, x2⟩ := col_bd2 h e1
  obtain ⟨y1, y2⟩ := col_bd2 h e3
  exact ⟨sq_sz x2 ((z4.mul (zc.mul za')).le (by decide)), sq_sz y2 ((z4.mul (zc.mul zc')).le (by decide)), sq_sz x1 ((z4.mul (za.mul za')).le (by decide)), sq_sz y1 ((z4.mul (za.mul zc')).le (by decide))⟩
theorem eqv_t3 (x y : T3) : PyData.eqv (dT3 x) (dT3 y) = decide (x = y) := by
  obtain ⟨a, b, c⟩ := x
  obtain ⟨a', b', c'⟩ := y
  have e : PyData.eqv (dT3 (a, b, c)) (dT3 (a', b', c')) = ((a == a') && ((b == b') && ((c == c') && true))) := rfl
  rw [e]
  by_cases h1 : a = a'
  · by_cases h2 : b = b'
    · by_cases h3 : c = c'
      · simp [h1, h2, h3]
      · simp [h3]
    · simp [h2]
  · simp [h1]
theorem shaped_one (x : T3) : SeqAt.shaped (dT3 x) = true := rfl
theorem dp_t {H : Hp} {p : Addr} {a b c : Int} (h : H p = some (.tup [.int a, .int b, .int c])) : Dp K H (.ref p) (dT3 (a, b, c)) := .tup (SqT.of h) (.cons (.int _) (.cons (.int _) (.cons (.int _) .nil)))
/-- one class -/
def Cls (s t : T3) : Prop := ∃ M, detM M = 1 ∧ movT s.1 s.2.1 s.2.2 M = t
theorem Cls.symm {s t : T3} (h : Cls s t) : Cls t s := by
  obtain ⟨M, d, rfl⟩ := h
  exact ⟨invM M, det_inv d, mov_inv d⟩
theorem detM_mulM {m n : M4} (h : detM m = 1) (h' : detM n = 1) : detM (mulM m n) = 1 := by
  obtain ⟨⟨a, b⟩, ⟨c, d⟩⟩ := m
  obtain ⟨⟨e, f⟩, ⟨g, i⟩⟩ := n
  simp only [detM, mulM] at *
  grind
theorem Cls.trans {s t u : T3} (h : Cls s t) (h' : Cls t u) : Cls s u := by
  obtain ⟨M, d, rfl⟩ := h
  obtain ⟨N, e, rfl⟩ := h'
  exact ⟨mulM M N, detM_mulM d e, mov_mul.symm⟩
theorem Cls.red {s t : T3} (h : Red s.1 s.2.1 s.2.2) (h' : Red t.1 t.2.1 t.2.2) (c : Cls s t) : s = t := by
  obtain ⟨M, d, e⟩ := c
  exact red_uniq h h' d e
abbrev s_matrix_between : Stmt := top 47
theorem sc_matrix_between : FnScope ["f", "g", "one", "m", "two", "n"] ["f", "g"] (defScope s_matrix_between) := ⟨rfl, rfl, rfl, by decide +kernel, rfl, by decide +kernel, by decide +kernel⟩

def spMB : Sp := fun vs H Q _ => ∃ (p p' : Addr) (a b c a' b' c' : Int), vs = [.ref p, .ref p'] ∧ H p = some (.tup [.int a, .int b, .int c]) ∧ H p' = some (.tup [.int a', .int b', .int c']) ∧ PD a b c ∧ PD a' b' c' ∧ Sz 200 a ∧ Sz 200 b ∧ Sz 200 c ∧ Sz 200 a' ∧ Sz 200 b' ∧ Sz 200 c' ∧
  (¬ Cls (a, b, c) (a', b', c') → ∀ H', Same H H' → Q .non H') ∧ ∀ q M H', Same H H' → IsM H' (.ref q) M → detM M = 1 → SzM 203 M → movT a b c M = (a', b', c') → Q (.ref q) H'
theorem cal_mb (D : Dn K mg "matrix_between" s_matrix_between ["f", "g"]) (B : Bl mg) (c_told_by_steps : Cal P w K mg base "told_by_steps" 2 ["f"] spRdc) (c_matrix_product : CalX P w K mg base "matrix_product" 5 ["m", "n"] (spPrdM CM)) (c_inverse_matrix : CalX P w K mg base "inverse_matrix" 5 ["m"] (spInvM CM)) :
    CalX P w K mg base "matrix_between" 6 ["f", "g"] spMB := by
  refine D.calX sc_matrix_between (fun vs H Q E h => ?_) (fun f cdv A outer s H vs Q E hr h => ?_)
  · obtain ⟨p, p', a, b, c, a', b', c', rfl, _⟩ := h
    rfl
  · obtain ⟨p, p', a, b, c, a', b', c', rfl, hp, hp', hP, hP', za, zb, zc, za', zb', zc', qn, qm⟩ := h
    refine ⟨_, (pss_cons (ps_asg (pe_cal c_told_by_steps (hr.mono (by decide)) rfl (pa_cons (pv 0) pa_nil)) (pg_tup rfl (pgs_cons (pg_name (i := 2) sc_matrix_between.nd rfl (Or.inl rfl)) (pgs_cons (pg_name (i := 3) sc_matrix_between.nd rfl (Or.inl rfl)) pgs_nil))))
  (pss_cons (ps_asg (pe_cal c_told_by_steps (hr.mono (by decide)) rfl (pa_cons (pv 1) pa_nil)) (pg_tup rfl (pgs_cons (pg_name (i := 4) sc_matrix_between.nd rfl (Or.inl rfl)) (pgs_cons (pg_name (i := 5) sc_matrix_between.nd rfl (Or.inl rfl)) pgs_nil))))
  (pss_cons (ps_if (pt_cmpR (op_neD hr.units) (pv 2) (pv 4) (nomark _)) (pss_one (ps_ret pe_non)) pss_nil)
  (pss_one (ps_ret (pe_calS c_matrix_product (takes_of rfl rfl rfl rfl) (hr.mono (by decide)) rfl (pa_cons (pv 3) (pa_cons (pe_calS c_inverse_matrix (takes_of rfl rfl rfl rfl) (hr.mono (by decide)) rfl (pa_cons (pv 5) pa_nil)) pa_nil)))))))), ?_⟩
    rw [CB.rd_seq]
    walk_at "rs"
    refine ⟨p, a, b, c, rfl, hp, hP, za, zb, zc, fun q1 t m g0 g1 g2 M H1 s1 nq h1 ht hM dM sM hR hm => ?_⟩
    refine ⟨q1, rfl, _, SqT.of h1, rfl, _, _, rfl, _, _, rfl, rfl, ?_⟩
    show tSeq _ _ _ _ _
    rw [CB.rd_seq]
    walk_at "rs"
    refine ⟨p', a', b', c', rfl, s1 _ _ hp', hP', za', zb', zc', fun q2 t2 m2 k0 k1 k2 N H2 s2 nq2 h2 ht2 hN dN sN hR2 hn => ?_⟩
    refine ⟨q2, rfl, _, SqT.of h2, rfl, _, _, rfl, _, _, rfl, rfl, ?_⟩
    show tSeq _ _ _ _ _
    rw [CB.rd_seq]
    walk_at "rs"
    have c1 : Cls (a, b, c) (g0, g1, g2) := ⟨M, dM, hm⟩
    have c2 : Cls (a', b', c') (k0, k1, k2) := ⟨N, dN, hn⟩
    refine ⟨dT3 (g0, g1, g2), dT3 (k0, k1, k2), dp_t (s2 _ _ ht), dp_t ht2, shaped_one _, shaped_one _, _, rfl, ?_⟩
    rw [eqv_t3]
    by_cases e : (g0, g1, g2) = (k0, k1, k2)
    · rw [decide_eq_true e, if_neg (by decide)]
      have le7 : ∀ {k : Nat} {m : M4}, SzM k m → k ≤ 700 → SzM 700 m := fun {k m} h c => ⟨h.1.le c, h.2.1.le c, h.2.2.1.le c, h.2.2.2.le c⟩
      refine ⟨0, _, rfl, .inr ⟨N, hN, le7 sN (by decide), dN, fun p5 H5 s5 n5 h5 => ?_⟩⟩
      have sI : SzM 420 (invM N) := ⟨sN.2.2.2, sN.2.1.neg, sN.2.2.1.neg, sN.1⟩
      refine ⟨0, _, _, rfl, .inr ⟨M, (hM.same s2).same s5, le7 sM (by decide), dM, .inr ⟨invM N, h5, le7 sI (by decide), det_inv dN, fun p6 H6 s6 n6 h6 => ?_⟩⟩⟩
      have emv : movT a b c (mulM M (invM N)) = (a', b', c') := by
        rw [← mov_mul, hm, e, ← hn]
        exact mov_inv dN
      exact qm p6 _ H6 (((s1.trans s2).trans s5).trans s6) h6 (detM_mulM dM (det_inv dN)) (mat_sz hP emv za zc za' zc') emv
    · rw [decide_eq_false e, if_pos (by decide)]
      refine qn (fun z => e ?_) _ (s1.trans s2)
      exact Cls.red hR hR2 ((c1.symm.trans z).trans c2)
abbrev s_equivalence : Stmt := top 46
theorem sc_equivalence : FnScope ["f", "g"] ["f", "g"] (defScope s_equivalence) := ⟨rfl, rfl, rfl, by decide +kernel, rfl, by decide +kernel, by decide +kernel⟩

def spEqv (K : PySem.W.Frag) (CM : Addr) : Sp := fun vs H Q E => ∃ v v' : V, vs = [v, v'] ∧ ((NotF K H v ∧ ∀ H', Same H H' → E (.ref CM) none H') ∨ ∃ (p : Addr) (a b c : Int), v = .ref p ∧ H p = some (.tup [.int a, .int b, .int c]) ∧ formB a b c = true ∧
  (((∃ st, NotFH st H v') ∧ ∀ H', Same H H' → E (.ref CM) none H') ∨ ∃ (p' : Addr) (a' b' c' : Int), v' = .ref p' ∧ H p' = some (.tup [.int a', .int b', .int c']) ∧ formB a' b' c' = true ∧ dsc a b c ≤ 0 ∧ dsc a' b' c' ≤ 0 ∧
    (¬ Cls (a, b, c) (a', b', c') → ∀ H', Same H H' → Q .non H') ∧ ∀ q M H', Same H H' → IsM H' (.ref q) M → detM M = 1 → SzM 203 M → movT a b c M = (a', b', c') → Q (.ref q) H'))
theorem cal_eqv (D : Dn K mg "equivalence" s_equivalence ["f", "g"]) (B : Bl mg) (c_check_form : CalX P w K mg base "check_form" 4 ["f"] (spChkF K CM)) (c_told_discriminant : Cal P w K mg base "told_discriminant" 1 ["f"] spTDisc) (c_check_walked : CalX P w K mg base "check_walked" 3 ["D"] spChkW)
    (c_matrix_between : CalX P w K mg base "matrix_between" 6 ["f", "g"] spMB) : CalX P w K mg base "equivalence" 7 ["f", "g"] (spEqv K CM) := by
  refine D.calX sc_equivalence (fun vs H Q E h => ?_) (fun f cdv A outer s H vs Q E hr h => ?_)
  · obtain ⟨v, v', rfl, _⟩ := h
    rfl
  · obtain ⟨v, v', rfl, h⟩ := h
    refine ⟨_, (pss_cons (ps_expr (pe_calS c_check_form (takes_of rfl rfl rfl rfl) (hr.mono (by decide)) rfl (pa_cons (pv 0) pa_nil)))
  (pss_cons (ps_expr (pe_calS c_check_form (takes_of rfl rfl rfl rfl) (hr.mono (by decide)) rfl (pa_cons (pv 1) pa_nil)))
  (pss_cons (ps_expr (pe_calS c_check_walked (takes_of rfl rfl rfl rfl) (hr.mono (by decide)) rfl (pa_cons (pe_cal c_told_discriminant (hr.mono (by decide)) rfl (pa_cons (pv 0) pa_nil)) pa_nil)))
  (pss_cons (ps_expr (pe_calS c_check_walked (takes_of rfl rfl rfl rfl) (hr.mono (by decide)) rfl (pa_cons (pe_cal c_told_discriminant (hr.mono (by decide)) rfl (pa_cons (pv 1) pa_nil)) pa_nil)))
  (pss_cons (ps_if (pt_cmpR op_ne (pe_cal c_told_discriminant (hr.mono (by decide)) rfl (pa_cons (pv 0) pa_nil)) (pe_cal c_told_discriminant (hr.mono (by decide)) rfl (pa_cons (pv 1) pa_nil)) (nomark _)) (pss_one (ps_ret pe_non)) pss_nil)
  (pss_one (ps_ret (pe_calS c_matrix_between (takes_of rfl rfl rfl rfl) (hr.mono (by decide)) rfl (pa_cons (pv 0) (pa_cons (pv 1) pa_nil)))))))))), ?_⟩
    rw [CB.rd_seq]
    walk_at "rs"
    refine ⟨v, rfl, ?_⟩
    rcases h with ⟨hn, e⟩ | ⟨p, a, b, c, rfl, hp, hf, h⟩
    · exact .inl ⟨hn, e⟩
    refine .inr ⟨p, a, b, c, rfl, hp, hf, fun H1 s1 => ?_⟩
    show tSeq _ _ _ _ _
    rw [CB.rd_seq]
    walk_at "rs"
    refine ⟨v', rfl, ?_⟩
    rcases h with ⟨⟨st, hn⟩, e⟩ | ⟨p', a', b', c', rfl, hp', hf', hd, hd', qn, qm⟩
    · exact .inl ⟨(hn.kp (.of s1)).notF, fun H' s => e H' (s1.trans s)⟩
    refine .inr ⟨p', a', b', c', rfl, s1 _ _ hp', hf', fun H2 s2 => ?_⟩
    obtain ⟨hP, za, zb, zc⟩ := form_pd hf hd
    obtain ⟨hP', za', zb', zc'⟩ := form_pd hf' hd'
    have sA := s1.trans s2
    have hp2 := sA _ _ hp
    have hp2' := sA _ _ hp'
    have z4 : Sz 3 4 := by unfold Sz; decide
    have m1 := zb.ok zb (by decide) (by decide)
    have m2 := (z4.mul za).ok zc (by decide) (by decide)
    have m1' := zb'.ok zb' (by decide) (by decide)
    have m2' := (z4.mul za').ok zc' (by decide) (by decide)
    have d0 : b * b - 4 * a * c < 0 := hP.2
    have d0' : b' * b' - 4 * a' * c' < 0 := hP'.2
    show tSeq _ _ _ _ _
    rw [CB.rd_seq]
    walk_at "rs"
    refine ⟨p, a, b, c, rfl, hp2, m1, m2, _, rfl, by omega, ?_⟩
    show tSeq _ _ _ _ _
    rw [CB.rd_seq]
    walk_at "rs"
    refine ⟨p', a', b', c', rfl, hp2', m1', m2', _, rfl, by omega, ?_⟩
    show tSeq _ _ _ _ _
    rw [CB.rd_seq]
    walk_at "rs"
    refine ⟨p, a, b, c, rfl, hp2, m1, m2, p', a', b', c', rfl, hp2', m1', m2', by simp [scal], ?_⟩
    refine ite2 (fun _ => ⟨p, p', a, b, c, a', b', c', rfl, hp2, hp2', hP, hP', za, zb, zc, za', zb', zc', fun n H' s => qn n _ (sA.trans s), fun q M H' s => qm q M H' (sA.trans s)⟩) (fun ne => qn (fun z => ne ?_) _ sA)
    obtain ⟨M, dM, hm⟩ := z
    have := dsc_mov (a := a) (b := b) (c := c) dM
    rw [show movT a b c M = (a', b', c') from hm] at this
    show V.int (dsc a b c) = V.int (dsc a' b' c')
    rw [this]
end

section
variable {P : Program} {w : World} {K : PySem.W.Frag} {mg : Str → Option Value} {base : Heap} {CM CR aU a1 a2 : Addr}
abbrev s__law_leads : Stmt := top 63
theorem sc__law_leads : FnScope ["told", "f", "due"] ["told", "f", "due"] (defScope s__law_leads) := ⟨rfl, rfl, rfl, by decide +kernel, rfl, by decide +kernel, by decide +kernel⟩

def spLeads : Sp := fun vs H Q _ => ∃ (r t m p d : Addr) (a b c g0 g1 g2 : Int) (M : M4), vs = [.ref r, .ref p, .ref d] ∧ H r = some (.tup [.ref t, .ref m]) ∧ H t = some (.tup [.int g0, .int g1, .int g2]) ∧ IsM H (.ref m) M ∧ detM M = 1 ∧ SzM 420 M ∧
  H p = some (.tup [.int a, .int b, .int c]) ∧ Sz 200 a ∧ Sz 200 b ∧ Sz 200 c ∧ H d = some (.tup [.int g0, .int g1, .int g2]) ∧ movT a b c M = (g0, g1, g2) ∧ ∀ H', Same H H' → Q (.bl true) H'
theorem cal_leads (D : Dn K mg "_law_leads" s__law_leads ["told", "f", "due"]) (B : Bl mg) (c__law_is_matrix : Cal P w K mg base "_law_is_matrix" 2 ["value"] spLMat) (c__law_moved : Cal P w K mg base "_law_moved" 2 ["f", "m"] spMov) : Cal P w K mg base "_law_leads" 3 ["told", "f", "due"] spLeads := by
  refine D.cal sc__law_leads (fun vs H Q E h => ?_) (fun f cdv A outer s H vs Q E hr h => ?_)
  · obtain ⟨r, t, m, p, d, a, b, c, g0, g1, g2, M, rfl, _⟩ := h
    rfl
  · obtain ⟨r, t, m, p, d, a, b, c, g0, g1, g2, M, rfl, h0, ht, hM, dM, sM, hp, za, zb, zc, hd, hm, q⟩ := h
    refine ⟨_, (pss_cons (ps_if (PW.pt (pw_or (pt_not (pt_val (pe_callB call_isi rfl B.isinstance (by decide +kernel) (pa_cons (pv 0) (pa_cons (pe_bltn (v := .ty "tuple") rfl B.tuple boot_tuple rfl) pa_nil))))) (pw_or (pt_cmpR op_ne (pe_callB cr_lenS rfl B.len (by decide +kernel) (pa_cons (pv 0) pa_nil)) pe_int (nomark _)) (pw_or1 (pt_cmpR (op_neD hr.units) (pe_ix ix_tup (pv 0) pe_int (fun _ _ => rfl)) (pv 2) (nomark _)))))) (pss_one (ps_ret pe_bl)) pss_nil)
  (pss_one (ps_ret (pe_and (pe_cal c__law_is_matrix (hr.mono (by decide)) rfl (pa_cons (pe_ix ix_tup (pv 0) pe_int (fun _ _ => rfl)) pa_nil)) (pe_one (pe_cmpR (op_eqD hr.units) (pe_cal c__law_moved (hr.mono (by decide)) rfl (pa_cons (pv 1) (pa_cons (pe_ix ix_tup (pv 0) pe_int (fun _ _ => rfl)) pa_nil))) (pv 2) (nomark _))))))), ?_⟩
    have F0 := SqT.of (K := K) h0
    have le7 : ∀ {k : Nat} {m : M4}, SzM k m → k ≤ 700 → SzM 700 m := fun {k m} h c => ⟨h.1.le c, h.2.1.le c, h.2.2.1.le c, h.2.2.2.le c⟩
    rw [CB.rd_seq]
    walk_at "rs"
    refine isi_mk (.base (.tup h0)) (b := true) (by decide +kernel) ⟨true, rfl, ?_⟩
    rw [if_neg (by decide)]
    refine ⟨2, .inr ⟨_, F0, rfl⟩, ?_⟩
    rw [if_pos (show ((2 : Nat) : Int) = 2 from rfl)]
    refine ⟨_, F0, _, rfl, dT3 (g0, g1, g2), dT3 (g0, g1, g2), dp_t ht, dp_t hd, shaped_one _, shaped_one _, false, ?_, ?_⟩
    · rw [eqv_t3, decide_eq_true rfl]
      rfl
    rw [if_neg (by decide)]
    refine ⟨_, F0, _, rfl, 0, _, rfl, .inr ⟨M, hM, le7 sM (by decide), dM, true, rfl, ?_⟩⟩
    rw [if_pos rfl]
    refine ⟨_, F0, _, rfl, p, m, a, b, c, M, rfl, hp, hM, za.le (by decide), zb.le (by decide), zc.le (by decide), le7 sM (by decide), fun p9 n9 => ?_⟩
    have s9 := same_upd (o := HO.tup [.int (movT a b c M).1, .int (movT a b c M).2.1, .int (movT a b c M).2.2]) n9
    refine ⟨dT3 (movT a b c M), dT3 (g0, g1, g2), dp_t upd_same, dp_t (s9 _ _ hd), shaped_one _, shaped_one _, ?_⟩
    rw [eqv_t3, decide_eq_true hm]
    exact q _ s9
abbrev s__law_malformed : Stmt := top 64
theorem sc__law_malformed : FnScope ["which", "f"] ["which", "f"] (defScope s__law_malformed) := ⟨rfl, rfl, rfl, by decide +kernel, rfl, by decide +kernel, by decide +kernel⟩

def spMal (K : PySem.W.Frag) : Sp := fun vs H Q _ => ∃ (st : Addr) (wh : Int) (v : V), vs = [.int wh, v] ∧ ((0 ≤ wh ∧ wh ≤ 4 ∧ NotFH st H v) ∨ (wh = 0 ∧ NotDf K H v)) ∧ ∀ H', Same H H' → Q (.bl true) H'
theorem cal_mal (D : Dn K mg "_law_malformed" s__law_malformed ["which", "f"]) (B : Bl mg) (c_is_reduced : CalX P w K mg base "is_reduced" 6 ["f"] (spIsR K CM)) (c_reduced_form : CalX P w K mg base "reduced_form" 6 ["f"] (spRFm K CM)) (c_told_form : CalX P w K mg base "told_form" 5 ["f"] (spTFm K CM))
    (c_equivalence : CalX P w K mg base "equivalence" 7 ["f", "g"] (spEqv K CM)) (c__law_plain : Cal P w K mg base "_law_plain" 5 ["value"] spPlainR) (e_E : ErrI P w K mg base CM CR) : Cal P w K mg base "_law_malformed" 8 ["which", "f"] (spMal K) := by
  refine D.cal sc__law_malformed (fun vs H Q E h => ?_) (fun f cdv A outer s H vs Q E hr h => ?_)
  · obtain ⟨st, wh, v, rfl, _⟩ := h
    rfl
  · obtain ⟨st, wh, v, rfl, h, q⟩ := h
    refine ⟨_, (pss_cons (ps_tryA rfl rfl sc__law_malformed.nd takes0 (fun W pn xe tk _ => (pss_cons (ps_if (pt_cmpR op_eq (pv 0) pe_int (nomark _)) (pss_one (ps_expr (pe_calS c_is_reduced tk (hr.mono (by decide)) rfl (pa_cons (pv 1) pa_nil)))) pss_nil)
  (pss_cons (ps_if (pt_cmpR op_eq (pv 0) pe_int (nomark _)) (pss_one (ps_expr (pe_cal c__law_plain (hr.mono (by decide)) rfl (pa_cons (pe_calS c_reduced_form tk (hr.mono (by decide)) rfl (pa_cons (pv 1) pa_nil)) pa_nil)))) pss_nil)
  (pss_cons (ps_if (pt_cmpR op_eq (pv 0) pe_int (nomark _)) (pss_one (ps_expr (pe_cal c__law_plain (hr.mono (by decide)) rfl (pa_cons (pe_calS c_told_form tk (hr.mono (by decide)) rfl (pa_cons (pv 1) pa_nil)) pa_nil)))) pss_nil)
  (pss_cons (ps_if (pt_cmpR op_eq (pv 0) pe_int (nomark _)) (pss_one (ps_expr (pe_cal c__law_plain (hr.mono (by decide)) rfl (pa_cons (pe_calS c_equivalence tk (hr.mono (by decide)) rfl (pa_cons (pv 1) (pa_cons (pe_tup (pa_cons pe_int (pa_cons pe_int (pa_cons pe_int pa_nil)))) pa_nil))) pa_nil)))) pss_nil)
  (pss_one (ps_if (pt_cmpR op_eq (pv 0) pe_int (nomark _)) (pss_one (ps_expr (pe_cal c__law_plain (hr.mono (by decide)) rfl (pa_cons (pe_calS c_equivalence tk (hr.mono (by decide)) rfl (pa_cons (pe_tup (pa_cons pe_int (pa_cons pe_int (pa_cons pe_int pa_nil)))) (pa_cons (pv 1) pa_nil))) pa_nil)))) pss_nil))))))) (HdA.bare ⟨rfl, by decide, .inl e_E.m.g⟩ (fun a oe cls d pn _ _ => (pss_one (ps_ret pe_bl))) HdA.nil))
  (pss_one (ps_ret pe_bl))), ?_⟩
    walk_at "rd"
    rcases h with ⟨h0, h4, nf⟩ | ⟨rfl, nd⟩
    · have nf' := nf.notF (K := K)
      refine ite2 (fun _ => ⟨v, rfl, .inl ⟨.inl nf', fun H' sm => ⟨true, e_E.m.mm, fun _ a na => q H' sm, fun z => by cases z⟩⟩⟩) (fun c0 => ?_)
      refine ite2 (fun _ => ⟨v, rfl, .inl ⟨.inl nf', fun H' sm => ⟨true, e_E.m.mm, fun _ a na => q H' sm, fun z => by cases z⟩⟩⟩) (fun c1 => ?_)
      refine ite2 (fun _ => ⟨v, rfl, .inl ⟨nf', fun H' sm => ⟨true, e_E.m.mm, fun _ a na => q H' sm, fun z => by cases z⟩⟩⟩) (fun c2 => ?_)
      refine ite2 (fun _ => ⟨by decide, fun p n => ⟨v, .ref p, rfl, .inl ⟨(nf.kp (.of (same_upd n))).notF, fun H' sm => ⟨true, e_E.m.mm, fun _ a na => q H' ((same_upd n).trans sm), fun z => by cases z⟩⟩⟩⟩) (fun c3 => ?_)
      exact ite2 (fun _ => ⟨by decide, fun p n => ⟨.ref p, v, rfl, .inr ⟨p, 1, 1, 6, rfl, upd_same, by decide +kernel, .inl ⟨⟨st, nf.kp (.of (same_upd n))⟩, fun H' sm => ⟨true, e_E.m.mm, fun _ a na => q H' ((same_upd n).trans sm), fun z => by cases z⟩⟩⟩⟩⟩) (fun c4 => by omega)
    · rw [if_pos rfl]
      exact ⟨v, rfl, .inl ⟨nd, fun H' sm => ⟨true, e_E.m.mm, fun _ a na => q H' sm, fun z => by cases z⟩⟩⟩
abbrev s__law_near_holds : Stmt := top 65
theorem sc__law_near_holds : FnScope ["state", "f", "a", "b", "c", "near"] ["state", "f"] (defScope s__law_near_holds) := ⟨rfl, rfl, rfl, by decide +kernel, rfl, by decide +kernel, by decide +kernel⟩

theorem form_ok {a b c : Int} (ha : (a.natAbs : Int) < B60) (hb : (b.natAbs : Int) < B60) (hc : (c.natAbs : Int) < B60) (h : PD a b c) : formB a b c = true := by
  have l : lgB a b c = false := by
    unfold lgB
    simp only [List.map_cons, List.map_nil, List.any_cons, List.any_nil, id, Bool.or_eq_false_iff, decide_eq_false_iff_not]
    exact ⟨by omega, by omega, by omega, trivial⟩
  have md : dsc a b c % 4 < 2 := by
    unfold dsc
    have e : 4 * a * c = 4 * (a * c) := Int.mul_assoc _ _ _
    rw [e]
    rcases Int.emod_two_eq b with h | h
    · obtain ⟨j, rfl⟩ : ∃ j, b = 2 * j := ⟨b / 2, by omega⟩
      have e2 : 2 * j * (2 * j) = 4 * (j * j) := by grind
      omega
    · obtain ⟨j, rfl⟩ : ∃ j, b = 2 * j + 1 := ⟨b / 2, by omega⟩
      have e2 : (2 * j + 1) * (2 * j + 1) = 4 * (j * j + j) + 1 := by grind
      omega
  have d : discB (dsc a b c) = true := by
    unfold discB
    rw [isq_neg h.2, decide_eq_true (by omega)]
    rfl
  unfold formB
  rw [l, d, decide_eq_true (.inr h.1)]
  rfl
def spNear : Sp := fun vs H Q _ => ∃ (s p : Addr) (a b c : Int), vs = [.ref s, .ref p] ∧ H p = some (.tup [.int a, .int b, .int c]) ∧ Red a b c ∧ c ≤ 2000000000000000000000 ∧ ∀ H', Same H H' → Q (.bl true) H'
theorem cal_near (D : Dn K mg "_law_near_holds" s__law_near_holds ["state", "f"]) (B : Bl mg) (c_is_reduced : CalX P w K mg base "is_reduced" 6 ["f"] (spIsR K CM)) (c__law_is_low : Cal P w K mg base "_law_is_low" 1 ["f"] spLow2) (c__law_says : Cal P w K mg base "_law_says" 1 ["value", "due"] spSays) :
    Cal P w K mg base "_law_near_holds" 7 ["state", "f"] spNear := by
  refine D.cal sc__law_near_holds (fun vs H Q E h => ?_) (fun f cdv A outer s H vs Q E hr h => ?_)
  · obtain ⟨s, p, a, b, c, rfl, _⟩ := h
    rfl
  · obtain ⟨st, p, a, b, c, rfl, hp, hR, hc, q⟩ := h
    refine ⟨_, (pss_cons (ps_asg (pv 1) (pg_tup rfl (pgs_cons (pg_name (i := 2) sc__law_near_holds.nd rfl (Or.inl rfl)) (pgs_cons (pg_name (i := 3) sc__law_near_holds.nd rfl (Or.inl rfl)) (pgs_cons (pg_name (i := 4) sc__law_near_holds.nd rfl (Or.inl rfl)) pgs_nil)))))
  (pss_cons (ps_for PassesOwn.never rfl (pi_list (pe_lst (pa_cons (pe_tup (pa_cons (pv 4) (pa_cons (pv 3) (pa_cons (pv 2) pa_nil)))) (pa_cons (pe_tup (pa_cons (pv 2) (pa_cons (pe_un un_neg (pv 3)) (pa_cons (pv 4) pa_nil)))) (pa_cons (pe_tup (pa_cons (pv 2) (pa_cons (pe_op op_add (pv 3) (pe_op op_mulI pe_int (pv 2))) (pa_cons (pe_op op_add (pe_op op_add (pv 2) (pv 3)) (pv 4)) pa_nil)))) (pa_cons (pe_tup (pa_cons (pv 4) (pa_cons (pe_un un_neg (pv 3)) (pa_cons (pv 2) pa_nil)))) (pa_cons (pe_tup (pa_cons (pv 2) (pa_cons (pe_op op_sub (pe_op op_mulI pe_int (pv 2)) (pv 3)) (pa_cons (pe_op op_add (pe_op op_sub (pv 2) (pv 3)) (pv 4)) pa_nil)))) pa_nil))))))) (pg_name (i := 5) sc__law_near_holds.nd rfl (Or.inl rfl)) (pss_one (ps_if (pt_not (pt_val (pe_cal c__law_says (hr.mono (by decide)) rfl (pa_cons (pe_calS c_is_reduced takes0 (hr.mono (by decide)) rfl (pa_cons (pv 5) pa_nil)) (pa_cons (pe_cal c__law_is_low (hr.mono (by decide)) rfl (pa_cons (pv 5) pa_nil)) pa_nil))))) (pss_one (ps_ret pe_bl)) pss_nil)))
  (pss_one (ps_ret pe_bl)))), ?_⟩
    rw [CB.rd_seq]
    walk_at "rs"
    refine ⟨_, SqT.of hp, rfl, _, _, rfl, _, _, rfl, _, _, rfl, rfl, ?_⟩
    show tSeq _ _ _ _ _
    rw [CB.rd_seq]
    walk_at "rs"
    refine ⟨by decide, fun q1 n1 => ?_⟩
    have s1 : Same H (upd H q1 (HO.tup [V.int c, V.int b, V.int a])) := same_upd n1
    have e1 : upd H q1 (HO.tup [V.int c, V.int b, V.int a]) q1 = some (HO.tup [V.int c, V.int b, V.int a]) := upd_same
    generalize upd H q1 (HO.tup [V.int c, V.int b, V.int a]) = G1 at *
    refine ⟨by decide, fun q2 n2 => ?_⟩
    have s2 : Same G1 (upd G1 q2 (HO.tup [V.int a, V.int (-b), V.int c])) := same_upd n2
    have e2 : upd G1 q2 (HO.tup [V.int a, V.int (-b), V.int c]) q2 = some (HO.tup [V.int a, V.int (-b), V.int c]) := upd_same
    generalize upd G1 q2 (HO.tup [V.int a, V.int (-b), V.int c]) = G2 at *
    refine ⟨mulL (by decide), by decide, fun q3 n3 => ?_⟩
    have s3 : Same G2 (upd G2 q3 (HO.tup [V.int a, V.int (b + 2 * a), V.int (a + b + c)])) := same_upd n3
    have e3 : upd G2 q3 (HO.tup [V.int a, V.int (b + 2 * a), V.int (a + b + c)]) q3 = some (HO.tup [V.int a, V.int (b + 2 * a), V.int (a + b + c)]) := upd_same
    generalize upd G2 q3 (HO.tup [V.int a, V.int (b + 2 * a), V.int (a + b + c)]) = G3 at *
    refine ⟨by decide, fun q4 n4 => ?_⟩
    have s4 : Same G3 (upd G3 q4 (HO.tup [V.int c, V.int (-b), V.int a])) := same_upd n4
    have e4 : upd G3 q4 (HO.tup [V.int c, V.int (-b), V.int a]) q4 = some (HO.tup [V.int c, V.int (-b), V.int a]) := upd_same
    generalize upd G3 q4 (HO.tup [V.int c, V.int (-b), V.int a]) = G4 at *
    refine ⟨mulL (by decide), by decide, fun q5 n5 => ?_⟩
    have s5 : Same G4 (upd G4 q5 (HO.tup [V.int a, V.int (2 * a - b), V.int (a - b + c)])) := same_upd n5
    have e5 : upd G4 q5 (HO.tup [V.int a, V.int (2 * a - b), V.int (a - b + c)]) q5 = some (HO.tup [V.int a, V.int (2 * a - b), V.int (a - b + c)]) := upd_same
    generalize upd G4 q5 (HO.tup [V.int a, V.int (2 * a - b), V.int (a - b + c)]) = G5 at *
    refine ⟨by decide, fun q6 n6 => ?_⟩
    have s6 : Same G5 (upd G5 q6 (HO.lst [V.ref q1, V.ref q2, V.ref q3, V.ref q4, V.ref q5])) := same_upd n6
    have e6 : upd G5 q6 (HO.lst [V.ref q1, V.ref q2, V.ref q3, V.ref q4, V.ref q5]) q6 = some (HO.lst [V.ref q1, V.ref q2, V.ref q3, V.ref q4, V.ref q5]) := upd_same
    generalize upd G5 q6 (HO.lst [V.ref q1, V.ref q2, V.ref q3, V.ref q4, V.ref q5]) = G6 at *
    have k6 : Same G6 G6 := Same.refl _
    have k5 := s6.trans k6
    have k4 := s5.trans k5
    have k3 := s4.trans k4
    have k2 := s3.trans k3
    have k1 := s2.trans k2
    have kH := s1.trans k1
    have bd : (a.natAbs : Int) ≤ 2000000000000000000000 ∧ (b.natAbs : Int) ≤ 2000000000000000000000 ∧ (c.natAbs : Int) ≤ 2000000000000000000000 := by
      obtain ⟨r1, r2, r3, r4, r5⟩ := hR
      omega
    have hB : (100000000000000000000000 : Int) < B60 := by decide +kernel
    have hP := hR.pd
    have hc0 := hP.c
    have mk : ∀ (q : Addr) (x y z : Int), G6 q = some (.tup [.int x, .int y, .int z]) → 0 < x → dsc x y z = dsc a b c → (x.natAbs : Int) < B60 → (y.natAbs : Int) < B60 → (z.natAbs : Int) < B60 → ∃ (r : Addr) (x y z : Int), V.ref q = .ref r ∧ G6 r = some (.tup [.int x, .int y, .int z]) ∧ formB x y z = true ∧ dsc x y z ≤ 0 :=
      fun q x y z h hx hd b1 b2 b3 => ⟨q, x, y, z, rfl, h, form_ok b1 b2 b3 ⟨hx, by rw [hd]; exact hP.2⟩, by rw [hd]; exact Int.le_of_lt hP.2⟩
    have hys : ∀ v ∈ [V.ref q1, V.ref q2, V.ref q3, V.ref q4, V.ref q5], ∃ (r : Addr) (x y z : Int), v = .ref r ∧ G6 r = some (.tup [.int x, .int y, .int z]) ∧ formB x y z = true ∧ dsc x y z ≤ 0 := fun v hv => by
      simp only [List.mem_cons, List.not_mem_nil, or_false] at hv
      have ha := hP.1
      rcases hv with rfl | rfl | rfl | rfl | rfl
      · exact mk q1 _ _ _ (k1 _ _ e1) hc0 (by unfold dsc; grind) (by omega) (by omega) (by omega)
      · exact mk q2 _ _ _ (k2 _ _ e2) ha (by unfold dsc; grind) (by omega) (by omega) (by omega)
      · exact mk q3 _ _ _ (k3 _ _ e3) ha (by unfold dsc; grind) (by omega) (by omega) (by omega)
      · exact mk q4 _ _ _ (k4 _ _ e4) hc0 (by unfold dsc; grind) (by omega) (by omega) (by omega)
      · exact mk q5 _ _ _ (k5 _ _ e5) ha (by unfold dsc; grind) (by omega) (by omega) (by omega)
    generalize [V.ref q1, V.ref q2, V.ref q3, V.ref q4, V.ref q5] = ys at *
    refine ⟨⟨_, SqL.of e6⟩, ForL.w (xs := ys) (fun i σ H3 => ∃ s5, σ = [some (.ref st), some (.ref p), some (.int a), some (.int b), some (.int c), s5] ∧ Same G6 H3) ⟨_, rfl, Same.refl _⟩ ?_ ?_ ?_⟩
    · rintro i σ H3 _ ⟨s5, rfl, sm⟩
      exact SqL.of (sm _ _ e6)
    · rintro i v σ H3 hv ⟨s5, rfl, sm⟩ N hN
      obtain ⟨r, x, y, z, rfl, hr, hf, hd⟩ := hys v (List.mem_of_getElem? hv)
      walk_at "rs"
      refine ⟨_, rfl, .inr ⟨r, x, y, z, rfl, sm _ _ hr, hf, hd, fun H4 s4 => ⟨r, x, y, z, rfl, s4 _ _ (sm _ _ hr), _, _, rfl, true, ?_, ?_⟩⟩⟩
      · rw [beq_self_eq_true]
      rw [if_neg (by decide)]
      exact hN _ _ ⟨_, rfl, sm.trans s4⟩
    · rintro σ H3 ⟨s5, rfl, sm⟩
      walk_at "rs"
      exact q _ (kH.trans sm)
end

section
variable {P : Program} {w : World} {K : PySem.W.Frag} {mg : Str → Option Value} {base : Heap} {CM CR aU a1 a2 : Addr}
/-- a pair of a triple and a matrix, a matrix, or None -/
def spPlainA : Sp := fun vs H Q E => spPlainR vs H Q E ∨ ∃ v : V, vs = [v] ∧ ((∃ (r : Addr) (m : M4), v = .ref r ∧ IsM H (.ref r) m ∧ ∀ p H', Same H H' → H p = none → IsM H' (.ref p) m → Q (.ref p) H') ∨ (v = .non ∧ Q .non H))
theorem cal_plainA (D : Dn K mg "_law_plain" s__law_plain ["value"]) (B : Bl mg) (c__law_whole : Cal P w K mg base "_law_whole" 1 ["value"] (spInt K)) (cT : Cal P w K mg base "_law_plain" 4 ["value"] spPlainTM) (cP : Cal P w K mg base "_law_plain" 3 ["value"] spPlainP) : Cal P w K mg base "_law_plain" 5 ["value"] spPlainA := by
  refine D.cal sc__law_plain (fun vs H Q E h => ?_) (fun f cdv A outer s H vs Q E hr h => ?_)
  · rcases h with ⟨r, t, m, a, b, c, M, rfl, _⟩ | ⟨v, rfl, _⟩
    · rfl
    · rfl
  · rcases h with ⟨r, t, m, a, b, c, M, rfl, h0, ht, hM, q⟩ | ⟨v, rfl, ⟨r, m, rfl, hM, q⟩ | ⟨rfl, q⟩⟩
    · have c__law_plain := cT
      refine ⟨_, (pss_cons (ps_if (pt_val (pe_callB call_isi rfl B.isinstance (by decide +kernel) (pa_cons (pv 0) (pa_cons (pe_bltn (v := .ty "tuple") rfl B.tuple boot_tuple rfl) pa_nil)))) (pss_one (ps_ret (pe_callTy cr_tupOf rfl B.tuple boot_tuple (pa_cons (pe_lc (own := [("item", 1)]) rfl sc__law_plain.nd (pi_tup (pv 0)) (blkOk_by (N := ["value", "item"]) (sc := defScope s__law_plain) (own := [("item", 1)]) (by decide +kernel)) (fun _ _ _ _ _ => (pg_name (i := 1) sc__law_plain.nd rfl (Or.inl rfl))) (fun _ _ _ _ _ => pts_nil) (fun _ _ _ _ _ => (pe_cal c__law_plain (hr.mono (by decide)) rfl (pa_cons (pv 1) pa_nil)))) pa_nil)))) pss_nil)
  (pss_one (ps_ret (pe_ifExp (PW.pt (pw_or (pt_cmpR op_isN (pv 0) pe_non (nomark _)) (pw_or1 (pt_val (pe_cal c__law_whole (hr.mono (by decide)) rfl (pa_cons (pv 0) pa_nil)))))) (pv 0) pe_str)))), ?_⟩
      walk_at "rd"
      refine isi_mk (.base (.tup h0)) (b := true) (by decide +kernel) ⟨true, rfl, ?_⟩
      rw [if_pos rfl]
      refine ⟨⟨_, SqT.of h0⟩, LcT.w (xs := [V.ref t, V.ref m]) (fun i D zs H3 => Same H H3 ∧ H3 D = some (.lst zs) ∧ H D = none ∧ ((i = 0 ∧ zs = []) ∨ (i = 1 ∧ ∃ t', zs = [.ref t'] ∧ H3 t' = some (.tup [.int a, .int b, .int c])) ∨ (i = 2 ∧ ∃ t' m', zs = [.ref t', .ref m'] ∧ H3 t' = some (.tup [.int a, .int b, .int c]) ∧ IsM H3 (.ref m') M)))
        (fun D nD => ⟨same_upd nD, upd_same, nD, .inl ⟨rfl, rfl⟩⟩) ?_ ?_ ?_⟩
      · rintro D i zs H3 _ ⟨sm, _, _, _⟩
        exact SqT.of (sm _ _ h0)
      · rintro D i v zs H3 hv ⟨sm, hD, nD, hz⟩ N hN
        walk_at "rd"
        rcases hz with ⟨rfl, rfl⟩ | ⟨rfl, t', rfl, ht'⟩ | ⟨rfl, _⟩
        · cases hv
          refine ⟨_, rfl, .inl ⟨t, a, b, c, rfl, sm _ _ ht, fun p' H4 s4 np hp4 => ⟨_, s4 _ _ hD, small_size (by show 0 ≤ _; omega), hN _ _ ⟨same_at (sm.trans s4) nD, upd_same, nD, .inr (.inl ⟨rfl, p', rfl, ?_⟩)⟩⟩⟩⟩
          rw [upd_ne (ne_of hp4 (s4 _ _ hD) (by intro z; cases z))]
          exact hp4
        · cases hv
          refine ⟨_, rfl, .inr (.inl ⟨m, M, rfl, hM.same sm, fun p' H4 s4 np hp4 => ⟨_, s4 _ _ hD, small_size (by show 1 ≤ _; omega), hN _ _ ⟨same_at (sm.trans s4) nD, upd_same, nD, .inr (.inr ⟨rfl, t', p', rfl, ?_, ?_⟩)⟩⟩⟩)⟩
          · rw [upd_ne (ne_of (s4 _ _ ht') (s4 _ _ hD) (by intro z; cases z))]
            exact s4 _ _ ht'
          · obtain ⟨r', r1, r2, e, e0, e1, e2⟩ := hp4
            have k : ∀ {b us}, H4 b = some (.tup us) → (upd H4 D (.lst ([V.ref t'] ++ [V.ref p']))) b = some (.tup us) := fun {b us} e => by
              rw [upd_ne (ne_of e (s4 _ _ hD) (by intro z; cases z))]
              exact e
            exact ⟨r', r1, r2, e, k e0, k e1, k e2⟩
        · have := (List.getElem?_eq_some_iff.mp hv).1
          simp at this
      · rintro D zs H3 nD ⟨sm, hD, _, hz⟩
        try walk_at "rd"
        rcases hz with ⟨e, _⟩ | ⟨e, _⟩ | ⟨_, t', m', rfl, ht', hM'⟩
        · cases e
        · cases e
        · exact ⟨_, .inl ⟨SqL.of hD, fun l nl => q l t' m' _ (sm.trans (same_upd nl)) upd_same (same_upd nl _ _ ht') (hM'.same (same_upd nl))⟩⟩
    · have c__law_plain := cP
      obtain ⟨r1, r2, h0, h1, h2⟩ := atM hM
      refine ⟨_, (pss_cons (ps_if (pt_val (pe_callB call_isi rfl B.isinstance (by decide +kernel) (pa_cons (pv 0) (pa_cons (pe_bltn (v := .ty "tuple") rfl B.tuple boot_tuple rfl) pa_nil)))) (pss_one (ps_ret (pe_callTy cr_tupOf rfl B.tuple boot_tuple (pa_cons (pe_lc (own := [("item", 1)]) rfl sc__law_plain.nd (pi_tup (pv 0)) (blkOk_by (N := ["value", "item"]) (sc := defScope s__law_plain) (own := [("item", 1)]) (by decide +kernel)) (fun _ _ _ _ _ => (pg_name (i := 1) sc__law_plain.nd rfl (Or.inl rfl))) (fun _ _ _ _ _ => pts_nil) (fun _ _ _ _ _ => (pe_cal c__law_plain (hr.mono (by decide)) rfl (pa_cons (pv 1) pa_nil)))) pa_nil)))) pss_nil)
  (pss_one (ps_ret (pe_ifExp (PW.pt (pw_or (pt_cmpR op_isN (pv 0) pe_non (nomark _)) (pw_or1 (pt_val (pe_cal c__law_whole (hr.mono (by decide)) rfl (pa_cons (pv 0) pa_nil)))))) (pv 0) pe_str)))), ?_⟩
      walk_at "rd"
      refine isi_mk (.base (.tup h0)) (b := true) (by decide +kernel) ⟨true, rfl, ?_⟩
      rw [if_pos rfl]
      refine ⟨⟨_, SqT.of h0⟩, LcT.w (xs := [V.ref r1, V.ref r2]) (fun i D zs H3 => Same H H3 ∧ H3 D = some (.lst zs) ∧ H D = none ∧ Prs H3 zs ([m.1, m.2].take i)) (fun D nD => ⟨same_upd nD, upd_same, nD, trivial⟩) ?_ ?_ ?_⟩
      · rintro D i zs H3 _ ⟨sm, _, _, _⟩
        exact SqT.of (sm _ _ h0)
      · rintro D i v zs H3 hv ⟨sm, hD, nD, hP⟩ N hN
        have hi : i < 2 := (List.getElem?_eq_some_iff.mp hv).1
        have hz := hP.len
        have src : ∃ t q, v = .ref t ∧ H t = some (.tup [.int q.1, .int q.2]) ∧ [m.1, m.2][i]? = some q := by
          have c : i = 0 ∨ i = 1 := by omega
          rcases c with rfl | rfl
          · cases hv
            exact ⟨r1, m.1, rfl, h1, rfl⟩
          · cases hv
            exact ⟨r2, m.2, rfl, h2, rfl⟩
        obtain ⟨t, ⟨qa, qb⟩, rfl, ht, hq⟩ := src
        walk_at "rd"
        refine ⟨t, qa, qb, rfl, sm _ _ ht, fun p' H4 s4 np hp4 => ⟨zs, s4 _ _ hD, ?_, hN _ _ ⟨same_at (sm.trans s4) nD, upd_same, nD, ?_⟩⟩⟩
        · rw [hz, List.length_take]
          exact small_size (by omega)
        · rw [List.take_add_one, hq]
          have pl : Prs H4 [V.ref p'] [(qa, qb)] := ⟨⟨p', rfl, hp4⟩, trivial⟩
          exact ((hP.same s4).app pl).updL (s4 _ _ hD)
      · rintro D zs H3 nD ⟨sm, hD, _, hP⟩
        try walk_at "rd"
        have hP' : Prs H3 zs [m.1, m.2] := hP
        match zs, hP', hD with
        | [x, y], ⟨⟨t1, e1, g1⟩, ⟨t2, e2, g2⟩, _⟩, hD =>
          subst e1 e2
          exact ⟨_, .inl ⟨SqL.of hD, fun l nl => q l _ (sm.trans (same_upd nl)) (sm.free nl) ⟨l, t1, t2, rfl, upd_same, same_upd nl _ _ g1, same_upd nl _ _ g2⟩⟩⟩
    · refine ⟨_, (pss_cons (ps_if (pt_val (pe_callB call_isi rfl B.isinstance (by decide +kernel) (pa_cons (pv 0) (pa_cons (pe_bltn (v := .ty "tuple") rfl B.tuple boot_tuple rfl) pa_nil)))) pss_never pss_nil)
  (pss_one (ps_ret (pe_ifExp (PW.pt (pw_or (pt_cmpR op_isN (pv 0) pe_non (nomark _)) (pw_or1 (pt_val (pe_cal c__law_whole (hr.mono (by decide)) rfl (pa_cons (pv 0) pa_nil)))))) (pv 0) pe_str)))), ?_⟩
      walk_at "rd"
      refine isi_mk (.base .non) (b := false) (by decide +kernel) ⟨false, rfl, ?_⟩
      rw [if_neg Bool.false_ne_true]
      exact q
abbrev s_law : Stmt := top 66
theorem sc_law : FnScope ["script", "state", "low", "other", "turns", "f", "g", "due", "beside", "m", "bad", "item", "which"] ["script"] (defScope s_law) := ⟨rfl, rfl, rfl, by decide +kernel, rfl, by decide +kernel, by decide +kernel⟩

def spLaw (K : PySem.W.Frag) : Sp := fun vs H Q _ => ∃ (a : Addr) (ns : List Int), vs = [.ref a] ∧ SqL K H a (ns.map V.int) ∧ ns.length ≤ 63 ∧ ∀ H', Q (.bl true) H'
def Sm21 (a b c : Int) : Prop := (a.natAbs : Int) ≤ 2000000000000000000000 ∧ (b.natAbs : Int) ≤ 2000000000000000000000 ∧ (c.natAbs : Int) ≤ 2000000000000000000000
theorem Sm21.sz {a b c : Int} (h : Sm21 a b c) : Sz 200 a ∧ Sz 200 b ∧ Sz 200 c := by
  obtain ⟨x, y, z⟩ := h
  unfold Sz
  refine ⟨?_, ?_, ?_⟩ <;> omega
theorem Sm21.bd {a b c : Int} (h : Sm21 a b c) : (a.natAbs : Int) < B60 ∧ (b.natAbs : Int) < B60 ∧ (c.natAbs : Int) < B60 := by
  obtain ⟨x, y, z⟩ := h
  have hB : (100000000000000000000000 : Int) < B60 := by decide +kernel
  omega
theorem red_21 {a b c : Int} (h : Red a b c) (hc : c ≤ 2000000000000000000000) : Sm21 a b c := by
  obtain ⟨r1, r2, r3, r4, r5⟩ := h
  unfold Sm21
  omega
theorem dsc_neg {a b c : Int} : dsc a (-b) c = dsc a b c := by
  unfold dsc
  grind
theorem ok_law {f : Addr} {fd : FuncData} (F : Fun K "law" "law" s_law f fd) (B : Bl mg) (c__law_state : Cal P w K mg base "_law_state" 1 ["script"] (spState K)) (c__law_take : Cal P w K mg base "_law_take" 1 ["state", "m"] spTake) (c__law_drawn_definite : Cal P w K mg base "_law_drawn_definite" 2 ["state", "most"] spDrawn)
    (c__law_matrix : Cal P w K mg base "_law_matrix" 2 ["state", "turns", "most"] spMat) (c__law_moved : Cal P w K mg base "_law_moved" 2 ["f", "m"] spMov) (c__law_lowered : Cal P w K mg base "_law_lowered" 1 ["f"] spLow) (c__law_leads : Cal P w K mg base "_law_leads" 3 ["told", "f", "due"] spLeads)
    (c__law_plain : Cal P w K mg base "_law_plain" 5 ["value"] spPlainA) (c_reduced_form : CalX P w K mg base "reduced_form" 6 ["f"] (spRFm K CM)) (c_told_form : CalX P w K mg base "told_form" 5 ["f"] (spTFm K CM)) (c_is_reduced : CalX P w K mg base "is_reduced" 6 ["f"] (spIsR K CM))
    (c_equivalence : CalX P w K mg base "equivalence" 7 ["f", "g"] (spEqv K CM)) (c__law_says : Cal P w K mg base "_law_says" 1 ["value", "due"] spSays) (c__law_near_holds : Cal P w K mg base "_law_near_holds" 7 ["state", "f"] spNear) (c__law_is_matrix : Cal P w K mg base "_law_is_matrix" 2 ["value"] spLMat)
    (c__law_strange : Cal P w K mg base "_law_strange" 2 ["state"] spStrange) (c__law_malformed : Cal P w K mg base "_law_malformed" 8 ["which", "f"] (spMal K)) : FnOk P w K mg base CX0 9 f fd ["script"] (spLaw K) := by
  refine F.ok sc_law (fun vs H Q E h => ?_) (fun cdv A outer s H vs Q E hr h => ?_)
  · obtain ⟨a, ns, rfl, _⟩ := h
    rfl
  · obtain ⟨a0, ns, rfl, hS, hl, q⟩ := h
    refine ⟨_, (pss_cons (ps_set (i := 1) sc_law.nd rfl (Or.inl rfl) (pe_cal c__law_state (hr.mono (by decide)) rfl (pa_cons (pv 0) pa_nil)))
  (pss_cons (ps_set (i := 2) sc_law.nd rfl (Or.inl rfl) (pe_cal c__law_drawn_definite (hr.mono (by decide)) rfl (pa_cons (pv 1) (pa_cons (pe_ix ix_list (pe_lst (pa_cons pe_int (pa_cons pe_int (pa_cons (pe_op op_powI pe_int pe_int) pa_nil)))) (pe_cal c__law_take (hr.mono (by decide)) rfl (pa_cons (pv 1) (pa_cons pe_int pa_nil))) (fun _ _ => rfl)) pa_nil))))
  (pss_cons (ps_set (i := 3) sc_law.nd rfl (Or.inl rfl) (pe_cal c__law_drawn_definite (hr.mono (by decide)) rfl (pa_cons (pv 1) (pa_cons (pe_ix ix_list (pe_lst (pa_cons pe_int (pa_cons pe_int pa_nil))) (pe_cal c__law_take (hr.mono (by decide)) rfl (pa_cons (pv 1) (pa_cons pe_int pa_nil))) (fun _ _ => rfl)) pa_nil))))
  (pss_cons (ps_if (pt_cmpR op_eq (pe_cal c__law_take (hr.mono (by decide)) rfl (pa_cons (pv 1) (pa_cons pe_int pa_nil))) pe_int (nomark _)) (pss_one (ps_set (i := 3) sc_law.nd rfl (Or.inl rfl) (pe_ix ix_list (pe_lst (pa_cons (pe_tup (pa_cons (pe_ix ix_tup (pv 2) pe_int (fun _ _ => rfl)) (pa_cons (pe_un un_neg (pe_ix ix_tup (pv 2) pe_int (fun _ _ => rfl))) (pa_cons (pe_ix ix_tup (pv 2) pe_int (fun _ _ => rfl)) pa_nil)))) (pa_cons (pv 2) (pa_cons (pv 2) pa_nil)))) (pe_cal c__law_take (hr.mono (by decide)) rfl (pa_cons (pv 1) (pa_cons pe_int pa_nil))) (fun _ _ => rfl)))) pss_nil)
  (pss_cons (ps_set (i := 4) sc_law.nd rfl (Or.inl rfl) (pe_cal c__law_take (hr.mono (by decide)) rfl (pa_cons (pv 1) (pa_cons pe_int pa_nil))))
  (pss_cons (ps_set (i := 5) sc_law.nd rfl (Or.inl rfl) (pe_cal c__law_moved (hr.mono (by decide)) rfl (pa_cons (pv 2) (pa_cons (pe_cal c__law_matrix (hr.mono (by decide)) rfl (pa_cons (pv 1) (pa_cons (pv 4) (pa_cons (pe_ix ix_list (pe_lst (pa_cons pe_int (pa_cons pe_int (pa_cons pe_int pa_nil)))) (pe_cal c__law_take (hr.mono (by decide)) rfl (pa_cons (pv 1) (pa_cons pe_int pa_nil))) (fun _ _ => rfl)) pa_nil)))) pa_nil))))
  (pss_cons (ps_set (i := 6) sc_law.nd rfl (Or.inl rfl) (pe_cal c__law_moved (hr.mono (by decide)) rfl (pa_cons (pv 3) (pa_cons (pe_cal c__law_matrix (hr.mono (by decide)) rfl (pa_cons (pv 1) (pa_cons (pe_cal c__law_take (hr.mono (by decide)) rfl (pa_cons (pv 1) (pa_cons pe_int pa_nil))) (pa_cons pe_int pa_nil)))) pa_nil))))
  (pss_cons (ps_par (i := 7) (j := 8) rfl sc_law.nd rfl rfl (by decide) rfl rfl (pa_cons (pe_cal c__law_lowered (hr.mono (by decide)) rfl (pa_cons (pv 2) pa_nil)) (pa_cons (pe_cal c__law_lowered (hr.mono (by decide)) rfl (pa_cons (pv 3) pa_nil)) pa_nil)) (by rfl))
  (pss_cons (ps_if (pt_cmpR op_ge (pe_callB (cr_max rfl) rfl B.max (by decide +kernel) (pa_cons (pe_lc (own := [("item", 11)]) rfl sc_law.nd (pi_tup (pe_op op_catT (pv 5) (pv 6))) (blkOk_by (N := ["script", "state", "low", "other", "turns", "f", "g", "due", "beside", "m", "bad", "item", "which"]) (sc := defScope s_law) (own := [("item", 11)]) (by decide +kernel)) (fun _ _ _ _ _ => (pg_name (i := 11) sc_law.nd rfl (Or.inl rfl))) (fun _ _ _ _ _ => pts_nil) (fun _ _ _ _ _ => (pe_callB call_abs rfl B.abs (by decide +kernel) (pa_cons (pv 11) pa_nil)))) pa_nil)) (pe_op op_powI pe_int pe_int) (nomark _)) (pss_one (ps_ret pe_bl)) pss_nil)
  (pss_cons (ps_if (PW.pt (pw_or (pt_cmpR (op_neD hr.units) (pv 7) (pv 2) (nomark _)) (pw_or (pt_not (pt_val (pe_cal c__law_leads (hr.mono (by decide)) rfl (pa_cons (pe_cal c__law_plain (hr.mono (by decide)) rfl (pa_cons (pe_calS c_reduced_form takes0 (hr.mono (by decide)) rfl (pa_cons (pv 5) pa_nil)) pa_nil)) (pa_cons (pv 5) (pa_cons (pv 7) pa_nil)))))) (pw_or1 (pt_not (pt_val (pe_cal c__law_leads (hr.mono (by decide)) rfl (pa_cons (pe_cal c__law_plain (hr.mono (by decide)) rfl (pa_cons (pe_calS c_told_form takes0 (hr.mono (by decide)) rfl (pa_cons (pv 5) pa_nil)) pa_nil)) (pa_cons (pv 5) (pa_cons (pv 7) pa_nil)))))))))) (pss_one (ps_ret pe_bl)) pss_nil)
  (pss_cons (ps_if (PW.pt (pw_or (pt_not (pt_val (pe_cal c__law_leads (hr.mono (by decide)) rfl (pa_cons (pe_cal c__law_plain (hr.mono (by decide)) rfl (pa_cons (pe_calS c_reduced_form takes0 (hr.mono (by decide)) rfl (pa_cons (pv 6) pa_nil)) pa_nil)) (pa_cons (pv 6) (pa_cons (pv 8) pa_nil)))))) (pw_or1 (pt_not (pt_val (pe_cal c__law_leads (hr.mono (by decide)) rfl (pa_cons (pe_cal c__law_plain (hr.mono (by decide)) rfl (pa_cons (pe_calS c_reduced_form takes0 (hr.mono (by decide)) rfl (pa_cons (pv 2) pa_nil)) pa_nil)) (pa_cons (pv 2) (pa_cons (pv 2) pa_nil))))))))) (pss_one (ps_ret pe_bl)) pss_nil)
  (pss_cons (ps_if (PW.pt (pw_or (pt_cmpR op_notBl (pe_calS c_is_reduced takes0 (hr.mono (by decide)) rfl (pa_cons (pv 2) pa_nil)) pe_bl (nomark _)) (pw_or (pt_not (pt_val (pe_cal c__law_says (hr.mono (by decide)) rfl (pa_cons (pe_calS c_is_reduced takes0 (hr.mono (by decide)) rfl (pa_cons (pv 5) pa_nil)) (pa_cons (pe_cmpR (op_eqD hr.units) (pv 5) (pv 2) (nomark _)) pa_nil))))) (pw_or1 (pt_not (pt_val (pe_cal c__law_near_holds (hr.mono (by decide)) rfl (pa_cons (pv 1) (pa_cons (pv 2) pa_nil))))))))) (pss_one (ps_ret pe_bl)) pss_nil)
  (pss_cons (ps_set (i := 9) sc_law.nd rfl (Or.inl rfl) (pe_cal c__law_plain (hr.mono (by decide)) rfl (pa_cons (pe_calS c_equivalence takes0 (hr.mono (by decide)) rfl (pa_cons (pv 5) (pa_cons (pv 6) pa_nil))) pa_nil)))
  (pss_cons (ps_if (pt_cmpR (op_neD hr.units) (pv 7) (pv 8) (nomark _)) (pss_one (ps_if (PW.pt (pw_or (pt_cmpR op_notN (pv 9) pe_non (nomark _)) (pw_or1 (pt_cmpR op_notN (pe_cal c__law_plain (hr.mono (by decide)) rfl (pa_cons (pe_calS c_equivalence takes0 (hr.mono (by decide)) rfl (pa_cons (pv 6) (pa_cons (pv 5) pa_nil))) pa_nil)) pe_non (nomark _))))) (pss_one (ps_ret pe_bl)) pss_nil)) (pss_one (ps_if (PW.pt (pw_or (pt_not (pt_val (pe_cal c__law_is_matrix (hr.mono (by decide)) rfl (pa_cons (pv 9) pa_nil)))) (pw_or1 (pt_cmpR (op_neD hr.units) (pe_cal c__law_moved (hr.mono (by decide)) rfl (pa_cons (pv 5) (pa_cons (pv 9) pa_nil))) (pv 6) (nomark _))))) (pss_one (ps_ret pe_bl)) pss_nil)))
  (pss_cons (ps_set (i := 10) sc_law.nd rfl (Or.inr rfl) (pe_cal c__law_strange (hr.mono (by decide)) rfl (pa_cons (pv 1) pa_nil)))
  (pss_one (ps_ret (pe_and (pe_callB (cr_all rfl) rfl B.all (by decide +kernel) (pa_cons (pe_lc (own := [("which", 12)]) rfl sc_law.nd (pi_range1 rfl B.range (pa_cons pe_int pa_nil)) (blkOk_by (N := ["script", "state", "low", "other", "turns", "f", "g", "due", "beside", "m", "bad", "item", "which"]) (sc := defScope s_law) (own := [("which", 12)]) (by decide +kernel)) (fun _ _ _ _ _ => (pg_name (i := 12) sc_law.nd rfl (Or.inl rfl))) (fun _ _ _ _ _ => pts_nil) (fun _ _ _ _ _ => (pe_cal c__law_malformed (hr.mono (by decide)) rfl (pa_cons (pv 12) (pa_cons (pv 10) pa_nil))))) pa_nil)) (pe_and (pe_cal c__law_malformed (hr.mono (by decide)) rfl (pa_cons pe_int (pa_cons (pe_tup (pa_cons pe_int (pa_cons pe_int (pa_cons (pe_un un_neg pe_int) pa_nil)))) pa_nil))) (pe_one (pe_cal c__law_malformed (hr.mono (by decide)) rfl (pa_cons pe_int (pa_cons (pe_tup (pa_cons pe_int (pa_cons pe_int (pa_cons (pe_un un_neg pe_int) pa_nil)))) pa_nil))))))))))))))))))))))), ?_⟩
    rw [CB.rd_seq]
    walk_at "rs"
    refine ⟨a0, ns, rfl, hS, hl, fun st x y H1 sm1 nst hst => ?_⟩
    clear hS sm1 nst
    refine seq_cut (fun σ H => ∃ p a b c x y, σ = [some (.ref a0), some (.ref st), some (.ref p), none, none, none, none, none, none, none, none, none, none] ∧ H st = some (.lst [.int x, .int y]) ∧ H p = some (.tup [.int a, .int b, .int c]) ∧ Red a b c ∧ c ≤ 2000000000000000000000) (fun R hR => ?_) ?_
    · walk_at "rs"
      refine ⟨powI (n := 4) (by decide) (by decide) (by decide) (by decide), by decide, fun p np => ?_⟩
      have sp : st ≠ p := ne_of_none hst np
      refine ⟨st, x, y, 3, rfl, by rw [upd_ne sp]; exact hst, by decide, by decide +kernel, fun v x1 y1 v0 v1 => ?_⟩
      have pick : ∃ n, atI [V.int 4, V.int 30, V.int (10 ^ Int.toNat 12)] v = some (.int n) ∧ 1 ≤ n ∧ n ≤ 100000000000000000000 := by
        have c : v = 0 ∨ v = 1 ∨ v = 2 := by omega
        rcases c with rfl | rfl | rfl <;> exact ⟨_, rfl, by decide +kernel, by decide +kernel⟩
      obtain ⟨n, en, n1, n2⟩ := pick
      exact ⟨_, v, rfl, SqL.of (by rw [upd_ne sp.symm, upd_same]), _, en, st, x1, y1, n, rfl, upd_same, n1, n2, fun g a b c x' y' H' _ h' hg hr hc => hR _ _ ⟨g, a, b, c, x', y', rfl, h', hg, hr, hc⟩⟩
    clear hst
    rintro σ H1 ⟨p, a, b, c, x, y, rfl, hst, hp, hRd, hc⟩
    have s21 := red_21 hRd hc
    have hPl := hRd.pd
    refine seq_cut (fun σ H => ∃ o a' b' c' x y, σ = [some (.ref a0), some (.ref st), some (.ref p), some (.ref o), none, none, none, none, none, none, none, none, none] ∧ H st = some (.lst [.int x, .int y]) ∧ H p = some (.tup [.int a, .int b, .int c]) ∧ H o = some (.tup [.int a', .int b', .int c']) ∧ PD a' b' c' ∧ Sm21 a' b' c') (fun R hR => ?_) ?_
    · walk_at "rs"
      refine ⟨by decide, fun p2 np => ?_⟩
      have sp : st ≠ p2 := ne_of_none hst np
      refine ⟨st, x, y, 2, rfl, by rw [upd_ne sp]; exact hst, by decide, by decide +kernel, fun v x1 y1 v0 v1 => ?_⟩
      have pick : ∃ n, atI [V.int 4, V.int 30] v = some (.int n) ∧ 1 ≤ n ∧ n ≤ 100000000000000000000 := by
        have c : v = 0 ∨ v = 1 := by omega
        rcases c with rfl | rfl <;> exact ⟨_, rfl, by decide +kernel, by decide +kernel⟩
      obtain ⟨n, en, n1, n2⟩ := pick
      have b1 : But st H1 (upd (upd H1 p2 (.lst [V.int 4, V.int 30])) st (.lst [.int x1, .int y1])) := (But.of (same_upd np)).upd
      refine ⟨_, v, rfl, SqL.of (by rw [upd_ne sp.symm, upd_same]), _, en, st, x1, y1, n, rfl, upd_same, n1, n2, fun g a' b' c' x' y' H' bt h' hg hr hc' => hR _ _ ⟨g, a', b', c', x', y', rfl, h', ((b1.trans bt).kp hst).1 _ _ hp, hg, hr.pd, red_21 hr hc'⟩⟩
    rintro σ H2 ⟨o, a', b', c', x2, y2, rfl, h2, hp2, ho, hPo, so⟩
    refine seq_cut (fun σ H => ∃ o a' b' c' x y, σ = [some (.ref a0), some (.ref st), some (.ref p), some (.ref o), none, none, none, none, none, none, none, none, none] ∧ H st = some (.lst [.int x, .int y]) ∧ H p = some (.tup [.int a, .int b, .int c]) ∧ H o = some (.tup [.int a', .int b', .int c']) ∧ PD a' b' c' ∧ Sm21 a' b' c') (fun R hR => ?_) ?_
    · walk_at "rs"
      refine ⟨st, x2, y2, 2, rfl, h2, by decide, by decide +kernel, fun v x3 y3 v0 v1 => ⟨by simp [scal], ?_⟩⟩
      have b1 : But st H2 (upd H2 st (.lst [.int x3, .int y3])) := But.refl.upd
      have h3 : (upd H2 st (.lst [.int x3, .int y3])) st = some (.lst [.int x3, .int y3]) := upd_same
      have hp3 := (b1.kp h2).1 _ _ hp2
      have ho3 := (b1.kp h2).1 _ _ ho
      generalize upd H2 st (.lst [.int x3, .int y3]) = H3 at *
      refine ite2 (fun _ => ?_) (fun _ => hR _ _ ⟨o, a', b', c', x3, y3, rfl, h3, hp3, ho3, hPo, so⟩)
      have Fp := SqT.of (K := K) hp3
      refine ⟨_, Fp, _, rfl, _, Fp, _, rfl, b, rfl, _, Fp, _, rfl, by decide, fun p1 n1 => ⟨by decide, fun p2 n2 => ?_⟩⟩
      have e1 : (upd (upd H3 p1 (.tup [.int a, .int (-b), .int c])) p2 (.lst [.ref p1, .ref p, .ref p])) p1 = some (.tup [.int a, .int (-b), .int c]) := same_upd n2 _ _ upd_same
      have e2 : (upd (upd H3 p1 (.tup [.int a, .int (-b), .int c])) p2 (.lst [.ref p1, .ref p, .ref p])) p2 = some (.lst [.ref p1, .ref p, .ref p]) := upd_same
      have s4 : Same H3 (upd (upd H3 p1 (.tup [.int a, .int (-b), .int c])) p2 (.lst [.ref p1, .ref p, .ref p])) := (same_upd n1).trans (same_upd n2)
      generalize upd (upd H3 p1 (.tup [.int a, .int (-b), .int c])) p2 (.lst [.ref p1, .ref p, .ref p]) = H4 at *
      have h4 := s4 _ _ h3
      have sl : st ≠ p2 := fun z => by
        have := same_upd (o := HO.tup [V.int a, V.int (-b), V.int c]) n1 _ _ h3
        rw [z] at this
        rw [this] at n2
        cases n2
      refine ⟨st, x3, y3, 3, rfl, h4, by decide, by decide +kernel, fun v x5 y5 v0 v1 => ?_⟩
      have b5 : But st H4 (upd H4 st (.lst [.int x5, .int y5])) := But.refl.upd
      have h5 : (upd H4 st (.lst [.int x5, .int y5])) st = some (.lst [.int x5, .int y5]) := upd_same
      have f1 := (b5.kp h4).1 _ _ e1
      have fp := (b5.kp h4).1 _ _ (s4 _ _ hp3)
      have f2 := b5 _ _ sl.symm e2
      generalize upd H4 st (.lst [.int x5, .int y5]) = H5 at *
      have sn : Sm21 a (-b) c := ⟨s21.1, by rw [Int.natAbs_neg]; exact s21.2.1, s21.2.2⟩
      have cc : v = 0 ∨ v = 1 ∨ v = 2 := by omega
      rcases cc with rfl | rfl | rfl
      · exact ⟨_, 0, rfl, SqL.of f2, _, rfl, hR _ _ ⟨p1, a, -b, c, x5, y5, rfl, h5, fp, f1, ⟨hPl.1, by rw [dsc_neg]; exact hPl.2⟩, sn⟩⟩
      · exact ⟨_, 1, rfl, SqL.of f2, _, rfl, hR _ _ ⟨p, a, b, c, x5, y5, rfl, h5, fp, fp, hPl, s21⟩⟩
      · exact ⟨_, 2, rfl, SqL.of f2, _, rfl, hR _ _ ⟨p, a, b, c, x5, y5, rfl, h5, fp, fp, hPl, s21⟩⟩
    clear hPo so ho hp2 h2 hp hst a' b' c' o
    rintro σ H2 ⟨o, a', b', c', x2, y2, rfl, h2, hp2, ho, hPo, so⟩
    rw [CB.rd_seq]
    walk_at "rs"
    refine ⟨st, x2, y2, 9, rfl, h2, by decide, by decide +kernel, fun t x3 y3 t0 t1 => ?_⟩
    have b1 : But st H2 (upd H2 st (.lst [.int x3, .int y3])) := But.refl.upd
    have h3 : (upd H2 st (.lst [.int x3, .int y3])) st = some (.lst [.int x3, .int y3]) := upd_same
    have hp3 := (b1.kp h2).1 _ _ hp2
    have ho3 := (b1.kp h2).1 _ _ ho
    generalize upd H2 st (.lst [.int x3, .int y3]) = H3 at *
    clear b1 h2 hp2 ho
    have le7 : ∀ {k : Nat} {m : M4}, SzM k m → k ≤ 700 → SzM 700 m := fun {k m} h c => ⟨h.1.le c, h.2.1.le c, h.2.2.1.le c, h.2.2.2.le c⟩
    refine seq_cut (fun σ H => ∃ p5 M x y, σ = [some (.ref a0), some (.ref st), some (.ref p), some (.ref o), some (.int t), some (.ref p5), none, none, none, none, none, none, none] ∧ H st = some (.lst [.int x, .int y]) ∧ H p = some (.tup [.int a, .int b, .int c]) ∧ H o = some (.tup [.int a', .int b', .int c']) ∧
        H p5 = some (.tup [.int (movT a b c M).1, .int (movT a b c M).2.1, .int (movT a b c M).2.2]) ∧ detM M = 1) (fun R hR => ?_) ?_
    · walk_at "rs"
      refine ⟨by decide, fun l1 nl1 => ?_⟩
      have sl : st ≠ l1 := ne_of_none h3 nl1
      refine ⟨st, x3, y3, 3, rfl, by rw [upd_ne sl]; exact h3, by decide, by decide +kernel, fun v x6 y6 v0 v1 => ?_⟩
      have pick : ∃ n, atI [V.int 2, V.int 9, V.int 100] v = some (.int n) ∧ 1 ≤ n ∧ n ≤ 100000000000000000000 := by
        have c : v = 0 ∨ v = 1 ∨ v = 2 := by omega
        rcases c with rfl | rfl | rfl <;> exact ⟨_, rfl, by decide, by decide⟩
      obtain ⟨n, en, n1, n2⟩ := pick
      have b6 : But st H3 (upd (upd H3 l1 (.lst [V.int 2, V.int 9, V.int 100])) st (.lst [.int x6, .int y6])) := (But.of (same_upd nl1)).upd
      refine ⟨_, v, rfl, SqL.of (by rw [upd_ne sl.symm, upd_same]), _, en, st, x6, y6, t, n, rfl, upd_same, t0, by omega, n1, n2, fun g m x7 y7 H7 bt h7 hm hd hs => ?_⟩
      have kp := (b6.trans bt).kp h3
      refine ⟨p, g, a, b, c, m, rfl, kp.1 _ _ hp3, hm, (s21.sz.1).le (by decide), (s21.sz.2.1).le (by decide), (s21.sz.2.2).le (by decide), le7 hs (by decide), fun q8 n8 => ?_⟩
      have s8 := same_upd (o := HO.tup [.int (movT a b c m).1, .int (movT a b c m).2.1, .int (movT a b c m).2.2]) n8
      exact hR _ _ ⟨q8, m, x7, y7, rfl, s8 _ _ h7, s8 _ _ (kp.1 _ _ hp3), s8 _ _ (kp.1 _ _ ho3), upd_same, hd⟩
    clear hp3 ho3 h3 H3
    rintro σ H3 ⟨p5, M, x3, y3, rfl, h3, hp3, ho3, hf3, dM⟩
    refine seq_cut (fun σ H => ∃ p6 N x y, σ = [some (.ref a0), some (.ref st), some (.ref p), some (.ref o), some (.int t), some (.ref p5), some (.ref p6), none, none, none, none, none, none] ∧ H st = some (.lst [.int x, .int y]) ∧ H p = some (.tup [.int a, .int b, .int c]) ∧ H o = some (.tup [.int a', .int b', .int c']) ∧
        H p5 = some (.tup [.int (movT a b c M).1, .int (movT a b c M).2.1, .int (movT a b c M).2.2]) ∧ H p6 = some (.tup [.int (movT a' b' c' N).1, .int (movT a' b' c' N).2.1, .int (movT a' b' c' N).2.2]) ∧ detM N = 1) (fun R hR => ?_) ?_
    · walk_at "rs"
      refine ⟨st, x3, y3, 9, rfl, h3, by decide, by decide +kernel, fun t2 x6 y6 t20 t21 => ?_⟩
      have b6 : But st H3 (upd H3 st (.lst [.int x6, .int y6])) := But.refl.upd
      refine ⟨st, x6, y6, t2, 9, rfl, upd_same, t20, by omega, by decide, by decide, fun g m x7 y7 H7 bt h7 hm hd hs => ?_⟩
      have kp := (b6.trans bt).kp h3
      refine ⟨o, g, a', b', c', m, rfl, kp.1 _ _ ho3, hm, (so.sz.1).le (by decide), (so.sz.2.1).le (by decide), (so.sz.2.2).le (by decide), le7 hs (by decide), fun q8 n8 => ?_⟩
      have s8 := same_upd (o := HO.tup [.int (movT a' b' c' m).1, .int (movT a' b' c' m).2.1, .int (movT a' b' c' m).2.2]) n8
      exact hR _ _ ⟨q8, m, x7, y7, rfl, s8 _ _ h7, s8 _ _ (kp.1 _ _ hp3), s8 _ _ (kp.1 _ _ ho3), s8 _ _ (kp.1 _ _ hf3), upd_same, hd⟩
    clear hp3 ho3 hf3 h3 H3
    rintro σ H3 ⟨p6, N, x3, y3, rfl, h3, hp3, ho3, hf3, hg3, dN⟩
    have cf : Cls (a, b, c) (movT a b c M) := ⟨M, dM, rfl⟩
    have cg : Cls (a', b', c') (movT a' b' c' N) := ⟨N, dN, rfl⟩
    have hPf := hPl.mov dM
    have hPg := hPo.mov dN
    generalize ef : movT a b c M = F3 at *
    generalize eg : movT a' b' c' N = G3 at *
    obtain ⟨f0, f1, f2⟩ := F3
    obtain ⟨g0, g1, g2⟩ := G3
    simp only at hf3 hg3 hPf hPg
    rw [CB.rd_seq]
    walk_at "rs"
    refine ⟨p, a, b, c, rfl, hp3, hPl, s21.sz.1, s21.sz.2.1, s21.sz.2.2, fun d d0 d1 d2 M1 H4 s4 hd4 dM1 rd em1 => ?_⟩
    have ed : (a, b, c) = (d0, d1, d2) := Cls.red hRd rd ⟨M1, dM1, em1⟩
    cases ed
    refine ⟨o, a', b', c', rfl, s4 _ _ ho3, hPo, so.sz.1, so.sz.2.1, so.sz.2.2, fun e k0 k1 k2 M2 H5 s5 he5 dM2 re em2 => ?_⟩
    have ck : Cls (a', b', c') (k0, k1, k2) := ⟨M2, dM2, em2⟩
    have hd5 := s5 _ _ hd4
    have sA := s4.trans s5
    have h5 := sA _ _ h3
    have hp5 := sA _ _ hp3
    have hf5 := sA _ _ hf3
    have hg5 := sA _ _ hg3
    clear h3 hp3 ho3 hf3 hg3 hd4 sA s4 s5 H3 H4 em1 dM1 M1
    show tSeq _ _ _ _ _
    refine seq_cut (fun σ H => σ = [some (.ref a0), some (.ref st), some (.ref p), some (.ref o), some (.int t), some (.ref p5), some (.ref p6), some (.ref d), some (.ref e), none, none, none, none] ∧ Same H5 H ∧ ((f0.natAbs : Int) < B60 ∧ (f1.natAbs : Int) < B60 ∧ (f2.natAbs : Int) < B60) ∧ (g0.natAbs : Int) < B60 ∧ (g1.natAbs : Int) < B60 ∧ (g2.natAbs : Int) < B60) (fun R hR => ?_) ?_
    · walk_at "rs"
      refine ⟨p5, p6, _, _, rfl, rfl, SqT.of hf5, SqT.of hg5, (fun z => by cases z), by show 3 + 3 ≤ sizeLine; decide, (fun z => by cases z), fun _ pc nc => ?_⟩
      have s6 := same_upd (o := HO.tup ([V.int f0, V.int f1, V.int f2] ++ [V.int g0, V.int g1, V.int g2])) nc
      have hc6 : (upd H5 pc (.tup ([V.int f0, V.int f1, V.int f2] ++ [V.int g0, V.int g1, V.int g2]))) pc = some (.tup [V.int f0, V.int f1, V.int f2, V.int g0, V.int g1, V.int g2]) := upd_same
      show ∃ a : Addr, _
      generalize upd H5 pc (.tup ([V.int f0, V.int f1, V.int f2] ++ [V.int g0, V.int g1, V.int g2])) = H6 at *
      refine ⟨pc, rfl, ⟨_, SqT.of hc6⟩, LcT.w (xs := ([f0, f1, f2, g0, g1, g2] : List Int).map V.int) (fun i D zs H4 => zs = ((([f0, f1, f2, g0, g1, g2] : List Int).take i).map fun i : Int => (i.natAbs : Int)).map V.int ∧ Same H6 H4 ∧ H4 D = some (.lst zs) ∧ H6 D = none) (fun D nD => ⟨rfl, same_upd nD, upd_same, nD⟩) ?_ ?_ ?_⟩
      · rintro D i zs H4 _ ⟨_, sm, _, _⟩
        exact SqT.of (sm _ _ hc6)
      · rintro D i x zs H4 hv ⟨rfl, sm, hD, nD⟩ Nx hN
        rw [List.getElem?_map] at hv
        obtain ⟨n, hn, rfl⟩ := Option.map_eq_some_iff.mp hv
        have hi : i < 6 := (List.getElem?_eq_some_iff.mp hn).1
        walk_at "rs"
        refine ⟨_, hD, ?_, hN _ _ ⟨?_, same_at sm nD, upd_same, nD⟩⟩
        · rw [List.length_map, List.length_map, List.length_take]
          exact small_size (by omega)
        · rw [List.take_add_one, hn, List.map_append, List.map_append, iabs]
          rfl
      · rintro D zs H4 nD ⟨rfl, s4, hD, _⟩
        refine ⟨D, [(f0.natAbs : Int), (f1.natAbs : Int), (f2.natAbs : Int), (g0.natAbs : Int), (g1.natAbs : Int), (g2.natAbs : Int)], rfl, SqL.of hD, by show 0 < 6; decide, fun m hm hmax => ?_⟩
        have e60 : (10 : Int) ^ Int.toNat 60 = B60 := by decide +kernel
        refine ⟨powI (n := 4) (by decide) (by decide) (by decide) (by decide), m, rfl, ?_⟩
        rw [e60]
        refine ite2 (fun c1 => q H4) (fun c1 => hR _ _ ⟨rfl, s6.trans s4, ?_⟩)
        have w : ∀ y : Int, y ∈ [(f0.natAbs : Int), (f1.natAbs : Int), (f2.natAbs : Int), (g0.natAbs : Int), (g1.natAbs : Int), (g2.natAbs : Int)] → y < B60 := fun y hy => by
          have := hmax y hy
          omega
        exact ⟨⟨w _ (by simp), w _ (by simp), w _ (by simp)⟩, w _ (by simp), w _ (by simp), w _ (by simp)⟩
    rintro σ H6 ⟨rfl, s6, bf, bg⟩
    have h6 := s6 _ _ h5
    have hp6 := s6 _ _ hp5
    have hf6 := s6 _ _ hf5
    have hg6 := s6 _ _ hg5
    have hd6 := s6 _ _ hd5
    have he6 := s6 _ _ he5
    clear h5 hp5 hf5 hg5 hd5 he5 s6 H5
    have hF := form_ok bf.1 bf.2.1 bf.2.2 hPf
    have hG := form_ok bg.1 bg.2.1 bg.2.2 hPg
    have hL := form_ok s21.bd.1 s21.bd.2.1 s21.bd.2.2 hPl
    have zf := form_sz (form_lg hF)
    have zg := form_sz (form_lg hG)
    have df : dsc f0 f1 f2 ≤ 0 := Int.le_of_lt hPf.2
    have dg : dsc g0 g1 g2 ≤ 0 := Int.le_of_lt hPg.2
    have dl : dsc a b c ≤ 0 := Int.le_of_lt hPl.2
    have lgl : lgB a b c = false := form_lg hL
    have toF : ∀ x0 x1 x2 M', detM M' = 1 → Red x0 x1 x2 → movT f0 f1 f2 M' = (x0, x1, x2) → (a, b, c) = (x0, x1, x2) := fun x0 x1 x2 M' dM' hr' em' => Cls.red hRd hr' (cf.trans ⟨M', dM', em'⟩)
    have toG : ∀ x0 x1 x2 M', detM M' = 1 → Red x0 x1 x2 → movT g0 g1 g2 M' = (x0, x1, x2) → (k0, k1, k2) = (x0, x1, x2) := fun x0 x1 x2 M' dM' hr' em' => Cls.red re hr' (ck.symm.trans (cg.trans ⟨M', dM', em'⟩))
    have toL : ∀ x0 x1 x2 M', detM M' = 1 → Red x0 x1 x2 → movT a b c M' = (x0, x1, x2) → (a, b, c) = (x0, x1, x2) := fun x0 x1 x2 M' dM' hr' em' => Cls.red hRd hr' ⟨M', dM', em'⟩
    have lgk : lgB k0 k1 k2 = false := by
      obtain ⟨M', dM', em'⟩ := ck
      have dd := dsc_mov (a := a') (b := b') (c := c') dM'
      rw [show movT a' b' c' M' = (k0, k1, k2) from em'] at dd
      have dd : dsc k0 k1 k2 = dsc a' b' c' := dd
      obtain ⟨x1, x2, x3⟩ := red_le re
      rw [dd] at x1
      unfold dsc at x1
      have sq := sq_nn b'
      have e4 : 4 * a' * c' = 4 * (a' * c') := Int.mul_assoc _ _ _
      have pc := hPo.c
      have pa := hPo.1
      obtain ⟨y1, y2, y3⟩ := so
      have ac : a' * c' ≤ 2000000000000000000000 * 2000000000000000000000 := Int.mul_le_mul (by omega) (by omega) (by omega) (by omega)
      obtain ⟨r1, r2, r3, r4, r5⟩ := re
      have k2b : 1 * k2 ≤ k0 * k2 := Int.mul_le_mul_of_nonneg_right (by omega) (by omega)
      have hB : (100000000000000000000000000000000000000000000 : Int) < B60 := by decide +kernel
      unfold lgB
      simp only [List.map_cons, List.map_nil, List.any_cons, List.any_nil, id, Bool.or_eq_false_iff, decide_eq_false_iff_not]
      exact ⟨by omega, by omega, by omega, trivial⟩
    have litF : Lit f0 f1 f2 := fun x0 x1 x2 M' dM' hr' em' => by
      have := toF x0 x1 x2 M' dM' hr' em'
      cases this
      exact lgl
    have litG : Lit g0 g1 g2 := fun x0 x1 x2 M' dM' hr' em' => by
      have := toG x0 x1 x2 M' dM' hr' em'
      cases this
      exact lgk
    have litL : Lit a b c := fun x0 x1 x2 M' dM' hr' em' => by
      have := toL x0 x1 x2 M' dM' hr' em'
      cases this
      exact lgl
    refine seq_cut (fun σ H => σ = [some (.ref a0), some (.ref st), some (.ref p), some (.ref o), some (.int t), some (.ref p5), some (.ref p6), some (.ref d), some (.ref e), none, none, none, none] ∧ Same H6 H) (fun R hR => ?_) ?_
    · walk_at "rs"
      refine ⟨dT3 (a, b, c), dT3 (a, b, c), dp_t hd6, dp_t hp6, shaped_one _, shaped_one _, false, ?_, ?_⟩
      · rw [eqv_t3, decide_eq_true rfl]
        rfl
      rw [if_neg (by decide)]
      refine ⟨.ref p5, rfl, .inr ⟨p5, f0, f1, f2, rfl, hf6, hF, df, litF, fun r1 t1 m1 x0 x1 x2 M' H7 s7 hr1 ht1 hm1 dM' sM' hR' em' => ?_⟩⟩
      cases toF x0 x1 x2 M' dM' hR' em'
      refine .inl ⟨r1, t1, m1, a, b, c, M', rfl, hr1, ht1, hm1, fun r2 t2 m2 H8 s8 hr2 ht2 hm2 => ?_⟩
      have sA := s7.trans s8
      refine ⟨r2, t2, m2, p5, d, f0, f1, f2, a, b, c, M', rfl, hr2, ht2, hm2, dM', sM', sA _ _ hf6, zf.1, zf.2.1, zf.2.2, sA _ _ hd6, em', fun H9 s9 => ⟨true, rfl, ?_⟩⟩
      rw [if_neg (by decide)]
      have sB := sA.trans s9
      refine ⟨.ref p5, rfl, .inr ⟨p5, f0, f1, f2, rfl, sB _ _ hf6, hF, df, litF, fun r1 t1 m1 x0 x1 x2 M' H7 s7 hr1 ht1 hm1 dM' sM' hR' em' => ?_⟩⟩
      cases toF x0 x1 x2 M' dM' hR' em'
      refine .inl ⟨r1, t1, m1, a, b, c, M', rfl, hr1, ht1, hm1, fun r2 t2 m2 H8 s8 hr2 ht2 hm2 => ?_⟩
      have sC := (sB.trans s7).trans s8
      refine ⟨r2, t2, m2, p5, d, f0, f1, f2, a, b, c, M', rfl, hr2, ht2, hm2, dM', sM', sC _ _ hf6, zf.1, zf.2.1, zf.2.2, sC _ _ hd6, em', fun H9 s9 => ⟨true, rfl, ?_⟩⟩
      rw [if_neg (by decide)]
      exact hR _ _ ⟨rfl, sC.trans s9⟩
    rintro σ H7 ⟨rfl, s7⟩
    refine seq_cut (fun σ H => σ = [some (.ref a0), some (.ref st), some (.ref p), some (.ref o), some (.int t), some (.ref p5), some (.ref p6), some (.ref d), some (.ref e), none, none, none, none] ∧ Same H7 H) (fun R hR => ?_) ?_
    · walk_at "rs"
      refine ⟨.ref p6, rfl, .inr ⟨p6, g0, g1, g2, rfl, s7 _ _ hg6, hG, dg, litG, fun r1 t1 m1 x0 x1 x2 M' H8 s8 hr1 ht1 hm1 dM' sM' hR' em' => ?_⟩⟩
      cases toG x0 x1 x2 M' dM' hR' em'
      refine .inl ⟨r1, t1, m1, k0, k1, k2, M', rfl, hr1, ht1, hm1, fun r2 t2 m2 H9 s9 hr2 ht2 hm2 => ?_⟩
      have sA := s8.trans s9
      have sAA := s7.trans sA
      refine ⟨r2, t2, m2, p6, e, g0, g1, g2, k0, k1, k2, M', rfl, hr2, ht2, hm2, dM', sM', sAA _ _ hg6, zg.1, zg.2.1, zg.2.2, sAA _ _ he6, em', fun H10 s10 => ⟨true, rfl, ?_⟩⟩
      rw [if_neg (by decide)]
      have sB := sA.trans s10
      have sBB := s7.trans sB
      refine ⟨.ref p, rfl, .inr ⟨p, a, b, c, rfl, sBB _ _ hp6, hL, dl, litL, fun r1 t1 m1 x0 x1 x2 M' H7 s7 hr1 ht1 hm1 dM' sM' hR' em' => ?_⟩⟩
      cases toL x0 x1 x2 M' dM' hR' em'
      refine .inl ⟨r1, t1, m1, a, b, c, M', rfl, hr1, ht1, hm1, fun r2 t2 m2 H8 s8 hr2 ht2 hm2 => ?_⟩
      have sC := (sB.trans s7).trans s8
      have sCC := (sBB.trans s7).trans s8
      refine ⟨r2, t2, m2, p, p, a, b, c, a, b, c, M', rfl, hr2, ht2, hm2, dM', sM', sCC _ _ hp6, s21.sz.1, s21.sz.2.1, s21.sz.2.2, sCC _ _ hp6, em', fun H9 s9 => ⟨true, rfl, ?_⟩⟩
      rw [if_neg (by decide)]
      exact hR _ _ ⟨rfl, sC.trans s9⟩
    rintro σ H8 ⟨rfl, s8⟩
    have sA := s7.trans s8
    refine seq_cut (fun σ H => σ = [some (.ref a0), some (.ref st), some (.ref p), some (.ref o), some (.int t), some (.ref p5), some (.ref p6), some (.ref d), some (.ref e), none, none, none, none] ∧ Same H8 H) (fun R hR => ?_) ?_
    · walk_at "rs"
      have el : lowB f0 f1 f2 = decide ((f0, f1, f2) = (a, b, c)) := by
        by_cases z : (f0, f1, f2) = (a, b, c)
        · rw [decide_eq_true z]
          cases z
          exact (low_red hPl.1).mpr hRd
        · rw [decide_eq_false z]
          cases w : lowB f0 f1 f2 with
          | false => rfl
          | true => exact absurd (Cls.red (s := (a, b, c)) (t := (f0, f1, f2)) hRd ((low_red hPf.1).mp w) cf).symm z
      refine ⟨.ref p, rfl, .inr ⟨p, a, b, c, rfl, sA _ _ hp6, hL, dl, fun H9 s9 => ⟨lowB a b c, true, rfl, rfl, false, ?_, ?_⟩⟩⟩
      · rw [(low_red hPl.1).mpr hRd]
        rfl
      rw [if_neg (by decide)]
      have sB := sA.trans s9
      refine ⟨.ref p5, rfl, .inr ⟨p5, f0, f1, f2, rfl, sB _ _ hf6, hF, df, fun H10 s10 => ?_⟩⟩
      have sC := sB.trans s10
      refine ⟨dT3 (f0, f1, f2), dT3 (a, b, c), dp_t (sC _ _ hf6), dp_t (sC _ _ hp6), shaped_one _, shaped_one _, _, _, rfl, true, ?_, ?_⟩
      · rw [eqv_t3, el, beq_self_eq_true]
      rw [if_neg (by decide)]
      refine ⟨st, p, a, b, c, rfl, sC _ _ hp6, hRd, hc, fun H11 s11 => ⟨true, rfl, ?_⟩⟩
      rw [if_neg (by decide)]
      exact hR _ _ ⟨rfl, (s9.trans s10).trans s11⟩
    rintro σ H9 ⟨rfl, s9⟩
    have sB := sA.trans s9
    have hp9 := sB _ _ hp6
    have hf9 := sB _ _ hf6
    have hg9 := sB _ _ hg6
    have hd9 := sB _ _ hd6
    have he9 := sB _ _ he6
    have h9 := sB _ _ h6
    have cls : Cls (f0, f1, f2) (g0, g1, g2) ↔ (a, b, c) = (k0, k1, k2) := by
      refine ⟨fun z => Cls.red hRd re ((cf.trans z).trans (cg.symm.trans ck)), fun z => ?_⟩
      refine cf.symm.trans ?_
      rw [z]
      exact ck.symm.trans cg
    clear h6 hp6 hf6 hg6 hd6 he6 s7 s8 s9 sA sB H6 H7 H8
    refine seq_cut (fun σ H => ∃ u, σ = [some (.ref a0), some (.ref st), some (.ref p), some (.ref o), some (.int t), some (.ref p5), some (.ref p6), some (.ref d), some (.ref e), some u, none, none, none] ∧ Same H9 H ∧ (((a, b, c) = (k0, k1, k2) ∧ ∃ q M, u = .ref q ∧ IsM H (.ref q) M ∧ detM M = 1 ∧ SzM 203 M ∧ movT f0 f1 f2 M = (g0, g1, g2)) ∨ (¬ (a, b, c) = (k0, k1, k2) ∧ u = .non))) (fun R hR => ?_) ?_
    · walk_at "rs"
      refine ⟨_, _, rfl, .inr ⟨p5, f0, f1, f2, rfl, hf9, hF, .inr ⟨p6, g0, g1, g2, rfl, hg9, hG, df, dg, fun nc H1 s1 => ?_, fun q1 M1 H1 s1 hM1 dM1 sM1 em1 => ?_⟩⟩⟩
      · exact .inr ⟨_, rfl, .inr ⟨rfl, hR _ _ ⟨.non, rfl, s1, .inr ⟨fun z => nc (cls.mpr z), rfl⟩⟩⟩⟩
      · exact .inr ⟨_, rfl, .inl ⟨q1, M1, rfl, hM1, fun q2 H2 s2 n2 hM2 => hR _ _ ⟨_, rfl, s1.trans s2, .inl ⟨cls.mp ⟨M1, dM1, em1⟩, q2, M1, rfl, hM2, dM1, sM1, em1⟩⟩⟩⟩
    rintro σ H10 ⟨u, rfl, s10, hu⟩
    refine seq_cut (fun σ H => σ = [some (.ref a0), some (.ref st), some (.ref p), some (.ref o), some (.int t), some (.ref p5), some (.ref p6), some (.ref d), some (.ref e), some u, none, none, none] ∧ Same H10 H) (fun R hR => ?_) ?_
    · walk_at "rs"
      refine ⟨dT3 (a, b, c), dT3 (k0, k1, k2), dp_t (s10 _ _ hd9), dp_t (s10 _ _ he9), shaped_one _, shaped_one _, _, rfl, ?_⟩
      rw [eqv_t3]
      rcases hu with ⟨ee, q1, M1, rfl, hM1, dM1, sM1, em1⟩ | ⟨ne, rfl⟩
      · rw [decide_eq_true ee, if_neg (by decide)]
        refine ⟨0, _, rfl, .inr ⟨M1, hM1, le7 sM1 (by decide), dM1, true, rfl, ?_⟩⟩
        rw [if_neg (by decide)]
        refine ⟨p5, q1, f0, f1, f2, M1, rfl, s10 _ _ hf9, hM1, zf.1.le (by decide), zf.2.1.le (by decide), zf.2.2.le (by decide), le7 sM1 (by decide), fun p9 n9 => ?_⟩
        have s9 := same_upd (o := HO.tup [.int (movT f0 f1 f2 M1).1, .int (movT f0 f1 f2 M1).2.1, .int (movT f0 f1 f2 M1).2.2]) n9
        refine ⟨dT3 (movT f0 f1 f2 M1), dT3 (g0, g1, g2), dp_t upd_same, dp_t (s9 _ _ (s10 _ _ hg9)), shaped_one _, shaped_one _, false, ?_, ?_⟩
        · rw [eqv_t3, decide_eq_true em1]
          rfl
        rw [if_neg (by decide)]
        exact hR _ _ ⟨rfl, s9⟩
      · rw [decide_eq_false ne, if_pos (by decide), if_pos rfl]
        refine ⟨_, _, rfl, .inr ⟨p6, g0, g1, g2, rfl, s10 _ _ hg9, hG, .inr ⟨p5, f0, f1, f2, rfl, s10 _ _ hf9, hF, dg, df, fun nc H1 s1 => ?_, fun q1 M1 H1 s1 hM1 dM1 sM1 em1 => ?_⟩⟩⟩
        · refine .inr ⟨_, rfl, .inr ⟨rfl, ?_⟩⟩
          show if V.non = V.non then _ else _
          rw [if_pos rfl]
          exact hR _ _ ⟨rfl, s1⟩
        · exact absurd (cls.mp (Cls.symm ⟨M1, dM1, em1⟩)) ne
    rintro σ H11 ⟨rfl, s11⟩
    have sD := s10.trans s11
    have h11 := sD _ _ h9
    rw [CB.rd_seq]
    walk_at "rs"
    refine ⟨st, x3, y3, rfl, h11, fun v x4 y4 H12 b12 h12 nf => ?_⟩
    walk_at "rs"
    refine ⟨by decide, by decide, LcR.w (fun i D zs H3 => zs = (List.replicate i true).map V.bl ∧ Same H12 H3 ∧ H3 D = some (.lst zs) ∧ H12 D = none) (fun D nD => ⟨rfl, same_upd nD, upd_same, nD⟩) ?_ ?_⟩
    · rintro D i zs H3 hi ⟨rfl, sm, hD, nD⟩ Nx hN
      have hi : i < 5 := hi
      walk_at "rs"
      refine ⟨st, _, _, rfl, .inl ⟨by omega, by omega, nf.kp (.of sm)⟩, fun H4 s4 => ⟨_, s4 _ _ hD, ?_, hN _ _ ⟨?_, same_at (sm.trans s4) nD, upd_same, nD⟩⟩⟩
      · rw [List.length_map, List.length_replicate]
        exact small_size (by omega)
      · rw [List.replicate_succ', List.map_append]
        rfl
    · rintro D zs H3 nD ⟨rfl, sm, hD, _⟩
      refine ⟨D, rfl, _, SqL.of hD, ?_⟩
      rw [if_pos (by decide)]
      refine ⟨by decide, fun p1 n1 => ⟨st, 0, _, rfl, .inr ⟨rfl, .inr ⟨p1, 1, 1, -1, rfl, upd_same, by decide +kernel, by decide +kernel⟩⟩, fun H4 s4 => ⟨true, rfl, ?_⟩⟩⟩
      rw [if_pos rfl]
      exact ⟨by decide, fun p2 n2 => ⟨st, 1, _, rfl, .inl ⟨by decide, by decide, .inr ⟨p2, 2, 3, -5, rfl, upd_same, by decide +kernel⟩⟩, fun H5 s5 => q H5⟩⟩
end

abbrev s_RI : Stmt := inClass (top 4) 0
theorem sc_RI : FnScope ["self", "reason"] ["self", "reason"] (defScope s_RI) := ⟨rfl, rfl, rfl, by decide +kernel, rfl, by decide +kernel, by decide +kernel⟩
theorem ri_fn {P : Program} {w : World} {K : PySem.W.Frag} {mg : Str → Option Value} {base : Heap} {f : Addr} {fd : FuncData} (F : Fun K "__init__" "Refused.__init__" s_RI f fd) : FnOk P w K mg base CX0 1 f fd ["self", "reason"] (spRI K) := by
  refine F.ok sc_RI (fun vs H Q E h => by obtain ⟨a, C, v, rfl, _⟩ := h; rfl) (fun cdv A outer s H vs Q E hr h => ?_)
  obtain ⟨a, C, v, rfl, ox, n, ha, q⟩ := h
  refine ⟨_, pss_one (ps_ost (pv 0) (pv 1)), ?_⟩
  exact ⟨_, rfl, _, rfl, a, C, rfl, ox, n, .inl ⟨ha, fun dx hd ne => q dx hd ne⟩⟩
theorem all_mk {l : PySem.W.OpenLaw} {w : World} {K : PySem.W.Frag} {h : Heap} {mg : Str → Option Value} {fa f_is_integer f_is_square f_is_row f_is_discriminant f_is_form f_is_matrix f_is_large f_check_form f_check_matrix f_check_items f_told_discriminant f_matrix_product f_inverse_matrix f_check_definite f_told_reduced f_is_reduced f_reduction f_reduced_form f_check_walked f_told_by_steps f_told_form f_equivalence f_matrix_between f__law_state f__law_take f__law_plain f__law_says f__law_whole f__law_value f__law_moved f__law_product f__law_is_matrix f__law_matrix f__law_lowered f__law_drawn_definite f__law_strange f__law_is_low f__law_leads f__law_malformed f__law_near_holds f_law CM CR fI NR aU a1 a2 : Addr} (X : K.In h) (G : h.Ns mainGlobals mg) (hfa : mg "law" = some (.ref fa))
    {od_is_integer an_is_integer od_is_square an_is_square od_is_row an_is_row od_is_discriminant an_is_discriminant od_is_form an_is_form od_is_matrix an_is_matrix od_is_large an_is_large od_check_form an_check_form od_check_matrix an_check_matrix od_check_items an_check_items od_told_discriminant an_told_discriminant od_matrix_product an_matrix_product od_inverse_matrix an_inverse_matrix od_check_definite an_check_definite od_told_reduced an_told_reduced od_is_reduced an_is_reduced od_reduction an_reduction od_reduced_form an_reduced_form od_check_walked an_check_walked od_told_by_steps an_told_by_steps od_told_form an_told_form od_equivalence an_equivalence od_matrix_between an_matrix_between od__law_state an__law_state od__law_take an__law_take od__law_plain an__law_plain od__law_says an__law_says od__law_whole an__law_whole od__law_value an__law_value od__law_moved an__law_moved od__law_product an__law_product od__law_is_matrix an__law_is_matrix od__law_matrix an__law_matrix od__law_lowered an__law_lowered od__law_drawn_definite an__law_drawn_definite od__law_strange an__law_strange od__law_is_low an__law_is_low od__law_leads an__law_leads od__law_malformed an__law_malformed od__law_near_holds an__law_near_holds od_law an_law od_I an_I dd_R od_U od_1 od_2 : Option Addr} {sl_is_integer sl_is_square sl_is_row sl_is_discriminant sl_is_form sl_is_matrix sl_is_large sl_check_form sl_check_matrix sl_check_items sl_told_discriminant sl_matrix_product sl_inverse_matrix sl_check_definite sl_told_reduced sl_is_reduced sl_reduction sl_reduced_form sl_check_walked sl_told_by_steps sl_told_form sl_equivalence sl_matrix_between sl__law_state sl__law_take sl__law_plain sl__law_says sl__law_whole sl__law_value sl__law_moved sl__law_product sl__law_is_matrix sl__law_matrix sl__law_lowered sl__law_drawn_definite sl__law_strange sl__law_is_low sl__law_leads sl__law_malformed sl__law_near_holds sl_law sl_I sl_U sl_1 sl_2 : Array (Option Value)} {oc_is_integer kV_is_integer dc_is_integer pm_is_integer cd_is_integer ct_is_integer oc_is_square kV_is_square dc_is_square pm_is_square cd_is_square ct_is_square oc_is_row kV_is_row dc_is_row pm_is_row cd_is_row ct_is_row oc_is_discriminant kV_is_discriminant dc_is_discriminant pm_is_discriminant cd_is_discriminant ct_is_discriminant oc_is_form kV_is_form dc_is_form pm_is_form cd_is_form ct_is_form oc_is_matrix kV_is_matrix dc_is_matrix pm_is_matrix cd_is_matrix ct_is_matrix oc_is_large kV_is_large dc_is_large pm_is_large cd_is_large ct_is_large oc_check_form kV_check_form dc_check_form pm_check_form cd_check_form ct_check_form oc_check_matrix kV_check_matrix dc_check_matrix pm_check_matrix cd_check_matrix ct_check_matrix oc_check_items kV_check_items dc_check_items pm_check_items cd_check_items ct_check_items oc_told_discriminant kV_told_discriminant dc_told_discriminant pm_told_discriminant cd_told_discriminant ct_told_discriminant oc_matrix_product kV_matrix_product dc_matrix_product pm_matrix_product cd_matrix_product ct_matrix_product oc_inverse_matrix kV_inverse_matrix dc_inverse_matrix pm_inverse_matrix cd_inverse_matrix ct_inverse_matrix oc_check_definite kV_check_definite dc_check_definite pm_check_definite cd_check_definite ct_check_definite oc_told_reduced kV_told_reduced dc_told_reduced pm_told_reduced cd_told_reduced ct_told_reduced oc_is_reduced kV_is_reduced dc_is_reduced pm_is_reduced cd_is_reduced ct_is_reduced oc_reduction kV_reduction dc_reduction pm_reduction cd_reduction ct_reduction oc_reduced_form kV_reduced_form dc_reduced_form pm_reduced_form cd_reduced_form ct_reduced_form oc_check_walked kV_check_walked dc_check_walked pm_check_walked cd_check_walked ct_check_walked oc_told_by_steps kV_told_by_steps dc_told_by_steps pm_told_by_steps cd_told_by_steps ct_told_by_steps oc_told_form kV_told_form dc_told_form pm_told_form cd_told_form ct_told_form oc_equivalence kV_equivalence dc_equivalence pm_equivalence cd_equivalence ct_equivalence oc_matrix_between kV_matrix_between dc_matrix_between pm_matrix_between cd_matrix_between ct_matrix_between oc__law_state kV__law_state dc__law_state pm__law_state cd__law_state ct__law_state oc__law_take kV__law_take dc__law_take pm__law_take cd__law_take ct__law_take oc__law_plain kV__law_plain dc__law_plain pm__law_plain cd__law_plain ct__law_plain oc__law_says kV__law_says dc__law_says pm__law_says cd__law_says ct__law_says oc__law_whole kV__law_whole dc__law_whole pm__law_whole cd__law_whole ct__law_whole oc__law_value kV__law_value dc__law_value pm__law_value cd__law_value ct__law_value oc__law_moved kV__law_moved dc__law_moved pm__law_moved cd__law_moved ct__law_moved oc__law_product kV__law_product dc__law_product pm__law_product cd__law_product ct__law_product oc__law_is_matrix kV__law_is_matrix dc__law_is_matrix pm__law_is_matrix cd__law_is_matrix ct__law_is_matrix oc__law_matrix kV__law_matrix dc__law_matrix pm__law_matrix cd__law_matrix ct__law_matrix oc__law_lowered kV__law_lowered dc__law_lowered pm__law_lowered cd__law_lowered ct__law_lowered oc__law_drawn_definite kV__law_drawn_definite dc__law_drawn_definite pm__law_drawn_definite cd__law_drawn_definite ct__law_drawn_definite oc__law_strange kV__law_strange dc__law_strange pm__law_strange cd__law_strange ct__law_strange oc__law_is_low kV__law_is_low dc__law_is_low pm__law_is_low cd__law_is_low ct__law_is_low oc__law_leads kV__law_leads dc__law_leads pm__law_leads cd__law_leads ct__law_leads oc__law_malformed kV__law_malformed dc__law_malformed pm__law_malformed cd__law_malformed ct__law_malformed oc__law_near_holds kV__law_near_holds dc__law_near_holds pm__law_near_holds cd__law_near_holds ct__law_near_holds oc_law kV_law dc_law pm_law cd_law ct_law oc_I kV_I dc_I pm_I cd_I ct_I : Value} {t_HALVED_BITS t_ITEM_BOUND t_LARGEST t_u1 t_u2 t_u3 t_u4 : Tok} {n_U n_1 n_2 : Nat} {nm_R q_R : Str} {bs_R bm_R sub_R : List Value} {sn_R : List Str} {ab_R : Bool} {col_R : Option Bool} {m0_R m1_R m2_R m3_R m5_R : Option Value}
    (a_is_integer : PySem.W.nsIn K mainGlobals "is_integer" = some (some (.ref f_is_integer)))
    (l_is_integer : K.lookup f_is_integer = some ⟨oc_is_integer, od_is_integer, .func (PySem.W.fnOf "is_integer" "is_integer" (defArgs s_is_integer) (defBody s_is_integer) (defScope s_is_integer) .none kV_is_integer dc_is_integer pm_is_integer an_is_integer cd_is_integer ct_is_integer), sl_is_integer⟩)
    (c_is_integer : PySem.W.codeIn K cd_is_integer "is_integer" = true)
    (k_is_integer : PySem.W.keepIn K (.ref f_is_integer) = true)
    (a_is_square : PySem.W.nsIn K mainGlobals "is_square" = some (some (.ref f_is_square)))
    (l_is_square : K.lookup f_is_square = some ⟨oc_is_square, od_is_square, .func (PySem.W.fnOf "is_square" "is_square" (defArgs s_is_square) (defBody s_is_square) (defScope s_is_square) .none kV_is_square dc_is_square pm_is_square an_is_square cd_is_square ct_is_square), sl_is_square⟩)
    (c_is_square : PySem.W.codeIn K cd_is_square "is_square" = true)
    (k_is_square : PySem.W.keepIn K (.ref f_is_square) = true)
    (a_is_row : PySem.W.nsIn K mainGlobals "is_row" = some (some (.ref f_is_row)))
    (l_is_row : K.lookup f_is_row = some ⟨oc_is_row, od_is_row, .func (PySem.W.fnOf "is_row" "is_row" (defArgs s_is_row) (defBody s_is_row) (defScope s_is_row) .none kV_is_row dc_is_row pm_is_row an_is_row cd_is_row ct_is_row), sl_is_row⟩)
    (c_is_row : PySem.W.codeIn K cd_is_row "is_row" = true)
    (k_is_row : PySem.W.keepIn K (.ref f_is_row) = true)
    (a_is_discriminant : PySem.W.nsIn K mainGlobals "is_discriminant" = some (some (.ref f_is_discriminant)))
    (l_is_discriminant : K.lookup f_is_discriminant = some ⟨oc_is_discriminant, od_is_discriminant, .func (PySem.W.fnOf "is_discriminant" "is_discriminant" (defArgs s_is_discriminant) (defBody s_is_discriminant) (defScope s_is_discriminant) .none kV_is_discriminant dc_is_discriminant pm_is_discriminant an_is_discriminant cd_is_discriminant ct_is_discriminant), sl_is_discriminant⟩)
    (c_is_discriminant : PySem.W.codeIn K cd_is_discriminant "is_discriminant" = true)
    (k_is_discriminant : PySem.W.keepIn K (.ref f_is_discriminant) = true)
    (a_is_form : PySem.W.nsIn K mainGlobals "is_form" = some (some (.ref f_is_form)))
    (l_is_form : K.lookup f_is_form = some ⟨oc_is_form, od_is_form, .func (PySem.W.fnOf "is_form" "is_form" (defArgs s_is_form) (defBody s_is_form) (defScope s_is_form) .none kV_is_form dc_is_form pm_is_form an_is_form cd_is_form ct_is_form), sl_is_form⟩)
    (c_is_form : PySem.W.codeIn K cd_is_form "is_form" = true)
    (k_is_form : PySem.W.keepIn K (.ref f_is_form) = true)
    (a_is_matrix : PySem.W.nsIn K mainGlobals "is_matrix" = some (some (.ref f_is_matrix)))
    (l_is_matrix : K.lookup f_is_matrix = some ⟨oc_is_matrix, od_is_matrix, .func (PySem.W.fnOf "is_matrix" "is_matrix" (defArgs s_is_matrix) (defBody s_is_matrix) (defScope s_is_matrix) .none kV_is_matrix dc_is_matrix pm_is_matrix an_is_matrix cd_is_matrix ct_is_matrix), sl_is_matrix⟩)
    (c_is_matrix : PySem.W.codeIn K cd_is_matrix "is_matrix" = true)
    (k_is_matrix : PySem.W.keepIn K (.ref f_is_matrix) = true)
    (a_is_large : PySem.W.nsIn K mainGlobals "is_large" = some (some (.ref f_is_large)))
    (l_is_large : K.lookup f_is_large = some ⟨oc_is_large, od_is_large, .func (PySem.W.fnOf "is_large" "is_large" (defArgs s_is_large) (defBody s_is_large) (defScope s_is_large) .none kV_is_large dc_is_large pm_is_large an_is_large cd_is_large ct_is_large), sl_is_large⟩)
    (c_is_large : PySem.W.codeIn K cd_is_large "is_large" = true)
    (k_is_large : PySem.W.keepIn K (.ref f_is_large) = true)
    (a_check_form : PySem.W.nsIn K mainGlobals "check_form" = some (some (.ref f_check_form)))
    (l_check_form : K.lookup f_check_form = some ⟨oc_check_form, od_check_form, .func (PySem.W.fnOf "check_form" "check_form" (defArgs s_check_form) (defBody s_check_form) (defScope s_check_form) .none kV_check_form dc_check_form pm_check_form an_check_form cd_check_form ct_check_form), sl_check_form⟩)
    (c_check_form : PySem.W.codeIn K cd_check_form "check_form" = true)
    (k_check_form : PySem.W.keepIn K (.ref f_check_form) = true)
    (a_check_matrix : PySem.W.nsIn K mainGlobals "check_matrix" = some (some (.ref f_check_matrix)))
    (l_check_matrix : K.lookup f_check_matrix = some ⟨oc_check_matrix, od_check_matrix, .func (PySem.W.fnOf "check_matrix" "check_matrix" (defArgs s_check_matrix) (defBody s_check_matrix) (defScope s_check_matrix) .none kV_check_matrix dc_check_matrix pm_check_matrix an_check_matrix cd_check_matrix ct_check_matrix), sl_check_matrix⟩)
    (c_check_matrix : PySem.W.codeIn K cd_check_matrix "check_matrix" = true)
    (k_check_matrix : PySem.W.keepIn K (.ref f_check_matrix) = true)
    (a_check_items : PySem.W.nsIn K mainGlobals "check_items" = some (some (.ref f_check_items)))
    (l_check_items : K.lookup f_check_items = some ⟨oc_check_items, od_check_items, .func (PySem.W.fnOf "check_items" "check_items" (defArgs s_check_items) (defBody s_check_items) (defScope s_check_items) .none kV_check_items dc_check_items pm_check_items an_check_items cd_check_items ct_check_items), sl_check_items⟩)
    (c_check_items : PySem.W.codeIn K cd_check_items "check_items" = true)
    (k_check_items : PySem.W.keepIn K (.ref f_check_items) = true)
    (a_told_discriminant : PySem.W.nsIn K mainGlobals "told_discriminant" = some (some (.ref f_told_discriminant)))
    (l_told_discriminant : K.lookup f_told_discriminant = some ⟨oc_told_discriminant, od_told_discriminant, .func (PySem.W.fnOf "told_discriminant" "told_discriminant" (defArgs s_told_discriminant) (defBody s_told_discriminant) (defScope s_told_discriminant) .none kV_told_discriminant dc_told_discriminant pm_told_discriminant an_told_discriminant cd_told_discriminant ct_told_discriminant), sl_told_discriminant⟩)
    (c_told_discriminant : PySem.W.codeIn K cd_told_discriminant "told_discriminant" = true)
    (k_told_discriminant : PySem.W.keepIn K (.ref f_told_discriminant) = true)
    (a_matrix_product : PySem.W.nsIn K mainGlobals "matrix_product" = some (some (.ref f_matrix_product)))
    (l_matrix_product : K.lookup f_matrix_product = some ⟨oc_matrix_product, od_matrix_product, .func (PySem.W.fnOf "matrix_product" "matrix_product" (defArgs s_matrix_product) (defBody s_matrix_product) (defScope s_matrix_product) .none kV_matrix_product dc_matrix_product pm_matrix_product an_matrix_product cd_matrix_product ct_matrix_product), sl_matrix_product⟩)
    (c_matrix_product : PySem.W.codeIn K cd_matrix_product "matrix_product" = true)
    (k_matrix_product : PySem.W.keepIn K (.ref f_matrix_product) = true)
    (a_inverse_matrix : PySem.W.nsIn K mainGlobals "inverse_matrix" = some (some (.ref f_inverse_matrix)))
    (l_inverse_matrix : K.lookup f_inverse_matrix = some ⟨oc_inverse_matrix, od_inverse_matrix, .func (PySem.W.fnOf "inverse_matrix" "inverse_matrix" (defArgs s_inverse_matrix) (defBody s_inverse_matrix) (defScope s_inverse_matrix) .none kV_inverse_matrix dc_inverse_matrix pm_inverse_matrix an_inverse_matrix cd_inverse_matrix ct_inverse_matrix), sl_inverse_matrix⟩)
    (c_inverse_matrix : PySem.W.codeIn K cd_inverse_matrix "inverse_matrix" = true)
    (k_inverse_matrix : PySem.W.keepIn K (.ref f_inverse_matrix) = true)
    (a_check_definite : PySem.W.nsIn K mainGlobals "check_definite" = some (some (.ref f_check_definite)))
    (l_check_definite : K.lookup f_check_definite = some ⟨oc_check_definite, od_check_definite, .func (PySem.W.fnOf "check_definite" "check_definite" (defArgs s_check_definite) (defBody s_check_definite) (defScope s_check_definite) .none kV_check_definite dc_check_definite pm_check_definite an_check_definite cd_check_definite ct_check_definite), sl_check_definite⟩)
    (c_check_definite : PySem.W.codeIn K cd_check_definite "check_definite" = true)
    (k_check_definite : PySem.W.keepIn K (.ref f_check_definite) = true)
    (a_told_reduced : PySem.W.nsIn K mainGlobals "told_reduced" = some (some (.ref f_told_reduced)))
    (l_told_reduced : K.lookup f_told_reduced = some ⟨oc_told_reduced, od_told_reduced, .func (PySem.W.fnOf "told_reduced" "told_reduced" (defArgs s_told_reduced) (defBody s_told_reduced) (defScope s_told_reduced) .none kV_told_reduced dc_told_reduced pm_told_reduced an_told_reduced cd_told_reduced ct_told_reduced), sl_told_reduced⟩)
    (c_told_reduced : PySem.W.codeIn K cd_told_reduced "told_reduced" = true)
    (k_told_reduced : PySem.W.keepIn K (.ref f_told_reduced) = true)
    (a_is_reduced : PySem.W.nsIn K mainGlobals "is_reduced" = some (some (.ref f_is_reduced)))
    (l_is_reduced : K.lookup f_is_reduced = some ⟨oc_is_reduced, od_is_reduced, .func (PySem.W.fnOf "is_reduced" "is_reduced" (defArgs s_is_reduced) (defBody s_is_reduced) (defScope s_is_reduced) .none kV_is_reduced dc_is_reduced pm_is_reduced an_is_reduced cd_is_reduced ct_is_reduced), sl_is_reduced⟩)
    (c_is_reduced : PySem.W.codeIn K cd_is_reduced "is_reduced" = true)
    (k_is_reduced : PySem.W.keepIn K (.ref f_is_reduced) = true)
    (a_reduction : PySem.W.nsIn K mainGlobals "reduction" = some (some (.ref f_reduction)))
    (l_reduction : K.lookup f_reduction = some ⟨oc_reduction, od_reduction, .func (PySem.W.fnOf "reduction" "reduction" (defArgs s_reduction) (defBody s_reduction) (defScope s_reduction) .none kV_reduction dc_reduction pm_reduction an_reduction cd_reduction ct_reduction), sl_reduction⟩)
    (c_reduction : PySem.W.codeIn K cd_reduction "reduction" = true)
    (k_reduction : PySem.W.keepIn K (.ref f_reduction) = true)
    (a_reduced_form : PySem.W.nsIn K mainGlobals "reduced_form" = some (some (.ref f_reduced_form)))
    (l_reduced_form : K.lookup f_reduced_form = some ⟨oc_reduced_form, od_reduced_form, .func (PySem.W.fnOf "reduced_form" "reduced_form" (defArgs s_reduced_form) (defBody s_reduced_form) (defScope s_reduced_form) .none kV_reduced_form dc_reduced_form pm_reduced_form an_reduced_form cd_reduced_form ct_reduced_form), sl_reduced_form⟩)
    (c_reduced_form : PySem.W.codeIn K cd_reduced_form "reduced_form" = true)
    (k_reduced_form : PySem.W.keepIn K (.ref f_reduced_form) = true)
    (a_check_walked : PySem.W.nsIn K mainGlobals "check_walked" = some (some (.ref f_check_walked)))
    (l_check_walked : K.lookup f_check_walked = some ⟨oc_check_walked, od_check_walked, .func (PySem.W.fnOf "check_walked" "check_walked" (defArgs s_check_walked) (defBody s_check_walked) (defScope s_check_walked) .none kV_check_walked dc_check_walked pm_check_walked an_check_walked cd_check_walked ct_check_walked), sl_check_walked⟩)
    (c_check_walked : PySem.W.codeIn K cd_check_walked "check_walked" = true)
    (k_check_walked : PySem.W.keepIn K (.ref f_check_walked) = true)
    (a_told_by_steps : PySem.W.nsIn K mainGlobals "told_by_steps" = some (some (.ref f_told_by_steps)))
    (l_told_by_steps : K.lookup f_told_by_steps = some ⟨oc_told_by_steps, od_told_by_steps, .func (PySem.W.fnOf "told_by_steps" "told_by_steps" (defArgs s_told_by_steps) (defBody s_told_by_steps) (defScope s_told_by_steps) .none kV_told_by_steps dc_told_by_steps pm_told_by_steps an_told_by_steps cd_told_by_steps ct_told_by_steps), sl_told_by_steps⟩)
    (c_told_by_steps : PySem.W.codeIn K cd_told_by_steps "told_by_steps" = true)
    (k_told_by_steps : PySem.W.keepIn K (.ref f_told_by_steps) = true)
    (a_told_form : PySem.W.nsIn K mainGlobals "told_form" = some (some (.ref f_told_form)))
    (l_told_form : K.lookup f_told_form = some ⟨oc_told_form, od_told_form, .func (PySem.W.fnOf "told_form" "told_form" (defArgs s_told_form) (defBody s_told_form) (defScope s_told_form) .none kV_told_form dc_told_form pm_told_form an_told_form cd_told_form ct_told_form), sl_told_form⟩)
    (c_told_form : PySem.W.codeIn K cd_told_form "told_form" = true)
    (k_told_form : PySem.W.keepIn K (.ref f_told_form) = true)
    (a_equivalence : PySem.W.nsIn K mainGlobals "equivalence" = some (some (.ref f_equivalence)))
    (l_equivalence : K.lookup f_equivalence = some ⟨oc_equivalence, od_equivalence, .func (PySem.W.fnOf "equivalence" "equivalence" (defArgs s_equivalence) (defBody s_equivalence) (defScope s_equivalence) .none kV_equivalence dc_equivalence pm_equivalence an_equivalence cd_equivalence ct_equivalence), sl_equivalence⟩)
    (c_equivalence : PySem.W.codeIn K cd_equivalence "equivalence" = true)
    (k_equivalence : PySem.W.keepIn K (.ref f_equivalence) = true)
    (a_matrix_between : PySem.W.nsIn K mainGlobals "matrix_between" = some (some (.ref f_matrix_between)))
    (l_matrix_between : K.lookup f_matrix_between = some ⟨oc_matrix_between, od_matrix_between, .func (PySem.W.fnOf "matrix_between" "matrix_between" (defArgs s_matrix_between) (defBody s_matrix_between) (defScope s_matrix_between) .none kV_matrix_between dc_matrix_between pm_matrix_between an_matrix_between cd_matrix_between ct_matrix_between), sl_matrix_between⟩)
    (c_matrix_between : PySem.W.codeIn K cd_matrix_between "matrix_between" = true)
    (k_matrix_between : PySem.W.keepIn K (.ref f_matrix_between) = true)
    (a__law_state : PySem.W.nsIn K mainGlobals "_law_state" = some (some (.ref f__law_state)))
    (l__law_state : K.lookup f__law_state = some ⟨oc__law_state, od__law_state, .func (PySem.W.fnOf "_law_state" "_law_state" (defArgs s__law_state) (defBody s__law_state) (defScope s__law_state) .none kV__law_state dc__law_state pm__law_state an__law_state cd__law_state ct__law_state), sl__law_state⟩)
    (c__law_state : PySem.W.codeIn K cd__law_state "_law_state" = true)
    (k__law_state : PySem.W.keepIn K (.ref f__law_state) = true)
    (a__law_take : PySem.W.nsIn K mainGlobals "_law_take" = some (some (.ref f__law_take)))
    (l__law_take : K.lookup f__law_take = some ⟨oc__law_take, od__law_take, .func (PySem.W.fnOf "_law_take" "_law_take" (defArgs s__law_take) (defBody s__law_take) (defScope s__law_take) .none kV__law_take dc__law_take pm__law_take an__law_take cd__law_take ct__law_take), sl__law_take⟩)
    (c__law_take : PySem.W.codeIn K cd__law_take "_law_take" = true)
    (k__law_take : PySem.W.keepIn K (.ref f__law_take) = true)
    (a__law_plain : PySem.W.nsIn K mainGlobals "_law_plain" = some (some (.ref f__law_plain)))
    (l__law_plain : K.lookup f__law_plain = some ⟨oc__law_plain, od__law_plain, .func (PySem.W.fnOf "_law_plain" "_law_plain" (defArgs s__law_plain) (defBody s__law_plain) (defScope s__law_plain) .none kV__law_plain dc__law_plain pm__law_plain an__law_plain cd__law_plain ct__law_plain), sl__law_plain⟩)
    (c__law_plain : PySem.W.codeIn K cd__law_plain "_law_plain" = true)
    (k__law_plain : PySem.W.keepIn K (.ref f__law_plain) = true)
    (a__law_says : PySem.W.nsIn K mainGlobals "_law_says" = some (some (.ref f__law_says)))
    (l__law_says : K.lookup f__law_says = some ⟨oc__law_says, od__law_says, .func (PySem.W.fnOf "_law_says" "_law_says" (defArgs s__law_says) (defBody s__law_says) (defScope s__law_says) .none kV__law_says dc__law_says pm__law_says an__law_says cd__law_says ct__law_says), sl__law_says⟩)
    (c__law_says : PySem.W.codeIn K cd__law_says "_law_says" = true)
    (k__law_says : PySem.W.keepIn K (.ref f__law_says) = true)
    (a__law_whole : PySem.W.nsIn K mainGlobals "_law_whole" = some (some (.ref f__law_whole)))
    (l__law_whole : K.lookup f__law_whole = some ⟨oc__law_whole, od__law_whole, .func (PySem.W.fnOf "_law_whole" "_law_whole" (defArgs s__law_whole) (defBody s__law_whole) (defScope s__law_whole) .none kV__law_whole dc__law_whole pm__law_whole an__law_whole cd__law_whole ct__law_whole), sl__law_whole⟩)
    (c__law_whole : PySem.W.codeIn K cd__law_whole "_law_whole" = true)
    (k__law_whole : PySem.W.keepIn K (.ref f__law_whole) = true)
    (a__law_value : PySem.W.nsIn K mainGlobals "_law_value" = some (some (.ref f__law_value)))
    (l__law_value : K.lookup f__law_value = some ⟨oc__law_value, od__law_value, .func (PySem.W.fnOf "_law_value" "_law_value" (defArgs s__law_value) (defBody s__law_value) (defScope s__law_value) .none kV__law_value dc__law_value pm__law_value an__law_value cd__law_value ct__law_value), sl__law_value⟩)
    (c__law_value : PySem.W.codeIn K cd__law_value "_law_value" = true)
    (k__law_value : PySem.W.keepIn K (.ref f__law_value) = true)
    (a__law_moved : PySem.W.nsIn K mainGlobals "_law_moved" = some (some (.ref f__law_moved)))
    (l__law_moved : K.lookup f__law_moved = some ⟨oc__law_moved, od__law_moved, .func (PySem.W.fnOf "_law_moved" "_law_moved" (defArgs s__law_moved) (defBody s__law_moved) (defScope s__law_moved) .none kV__law_moved dc__law_moved pm__law_moved an__law_moved cd__law_moved ct__law_moved), sl__law_moved⟩)
    (c__law_moved : PySem.W.codeIn K cd__law_moved "_law_moved" = true)
    (k__law_moved : PySem.W.keepIn K (.ref f__law_moved) = true)
    (a__law_product : PySem.W.nsIn K mainGlobals "_law_product" = some (some (.ref f__law_product)))
    (l__law_product : K.lookup f__law_product = some ⟨oc__law_product, od__law_product, .func (PySem.W.fnOf "_law_product" "_law_product" (defArgs s__law_product) (defBody s__law_product) (defScope s__law_product) .none kV__law_product dc__law_product pm__law_product an__law_product cd__law_product ct__law_product), sl__law_product⟩)
    (c__law_product : PySem.W.codeIn K cd__law_product "_law_product" = true)
    (k__law_product : PySem.W.keepIn K (.ref f__law_product) = true)
    (a__law_is_matrix : PySem.W.nsIn K mainGlobals "_law_is_matrix" = some (some (.ref f__law_is_matrix)))
    (l__law_is_matrix : K.lookup f__law_is_matrix = some ⟨oc__law_is_matrix, od__law_is_matrix, .func (PySem.W.fnOf "_law_is_matrix" "_law_is_matrix" (defArgs s__law_is_matrix) (defBody s__law_is_matrix) (defScope s__law_is_matrix) .none kV__law_is_matrix dc__law_is_matrix pm__law_is_matrix an__law_is_matrix cd__law_is_matrix ct__law_is_matrix), sl__law_is_matrix⟩)
    (c__law_is_matrix : PySem.W.codeIn K cd__law_is_matrix "_law_is_matrix" = true)
    (k__law_is_matrix : PySem.W.keepIn K (.ref f__law_is_matrix) = true)
    (a__law_matrix : PySem.W.nsIn K mainGlobals "_law_matrix" = some (some (.ref f__law_matrix)))
    (l__law_matrix : K.lookup f__law_matrix = some ⟨oc__law_matrix, od__law_matrix, .func (PySem.W.fnOf "_law_matrix" "_law_matrix" (defArgs s__law_matrix) (defBody s__law_matrix) (defScope s__law_matrix) .none kV__law_matrix dc__law_matrix pm__law_matrix an__law_matrix cd__law_matrix ct__law_matrix), sl__law_matrix⟩)
    (c__law_matrix : PySem.W.codeIn K cd__law_matrix "_law_matrix" = true)
    (k__law_matrix : PySem.W.keepIn K (.ref f__law_matrix) = true)
    (a__law_lowered : PySem.W.nsIn K mainGlobals "_law_lowered" = some (some (.ref f__law_lowered)))
    (l__law_lowered : K.lookup f__law_lowered = some ⟨oc__law_lowered, od__law_lowered, .func (PySem.W.fnOf "_law_lowered" "_law_lowered" (defArgs s__law_lowered) (defBody s__law_lowered) (defScope s__law_lowered) .none kV__law_lowered dc__law_lowered pm__law_lowered an__law_lowered cd__law_lowered ct__law_lowered), sl__law_lowered⟩)
    (c__law_lowered : PySem.W.codeIn K cd__law_lowered "_law_lowered" = true)
    (k__law_lowered : PySem.W.keepIn K (.ref f__law_lowered) = true)
    (a__law_drawn_definite : PySem.W.nsIn K mainGlobals "_law_drawn_definite" = some (some (.ref f__law_drawn_definite)))
    (l__law_drawn_definite : K.lookup f__law_drawn_definite = some ⟨oc__law_drawn_definite, od__law_drawn_definite, .func (PySem.W.fnOf "_law_drawn_definite" "_law_drawn_definite" (defArgs s__law_drawn_definite) (defBody s__law_drawn_definite) (defScope s__law_drawn_definite) .none kV__law_drawn_definite dc__law_drawn_definite pm__law_drawn_definite an__law_drawn_definite cd__law_drawn_definite ct__law_drawn_definite), sl__law_drawn_definite⟩)
    (c__law_drawn_definite : PySem.W.codeIn K cd__law_drawn_definite "_law_drawn_definite" = true)
    (k__law_drawn_definite : PySem.W.keepIn K (.ref f__law_drawn_definite) = true)
    (a__law_strange : PySem.W.nsIn K mainGlobals "_law_strange" = some (some (.ref f__law_strange)))
    (l__law_strange : K.lookup f__law_strange = some ⟨oc__law_strange, od__law_strange, .func (PySem.W.fnOf "_law_strange" "_law_strange" (defArgs s__law_strange) (defBody s__law_strange) (defScope s__law_strange) .none kV__law_strange dc__law_strange pm__law_strange an__law_strange cd__law_strange ct__law_strange), sl__law_strange⟩)
    (c__law_strange : PySem.W.codeIn K cd__law_strange "_law_strange" = true)
    (k__law_strange : PySem.W.keepIn K (.ref f__law_strange) = true)
    (a__law_is_low : PySem.W.nsIn K mainGlobals "_law_is_low" = some (some (.ref f__law_is_low)))
    (l__law_is_low : K.lookup f__law_is_low = some ⟨oc__law_is_low, od__law_is_low, .func (PySem.W.fnOf "_law_is_low" "_law_is_low" (defArgs s__law_is_low) (defBody s__law_is_low) (defScope s__law_is_low) .none kV__law_is_low dc__law_is_low pm__law_is_low an__law_is_low cd__law_is_low ct__law_is_low), sl__law_is_low⟩)
    (c__law_is_low : PySem.W.codeIn K cd__law_is_low "_law_is_low" = true)
    (k__law_is_low : PySem.W.keepIn K (.ref f__law_is_low) = true)
    (a__law_leads : PySem.W.nsIn K mainGlobals "_law_leads" = some (some (.ref f__law_leads)))
    (l__law_leads : K.lookup f__law_leads = some ⟨oc__law_leads, od__law_leads, .func (PySem.W.fnOf "_law_leads" "_law_leads" (defArgs s__law_leads) (defBody s__law_leads) (defScope s__law_leads) .none kV__law_leads dc__law_leads pm__law_leads an__law_leads cd__law_leads ct__law_leads), sl__law_leads⟩)
    (c__law_leads : PySem.W.codeIn K cd__law_leads "_law_leads" = true)
    (k__law_leads : PySem.W.keepIn K (.ref f__law_leads) = true)
    (a__law_malformed : PySem.W.nsIn K mainGlobals "_law_malformed" = some (some (.ref f__law_malformed)))
    (l__law_malformed : K.lookup f__law_malformed = some ⟨oc__law_malformed, od__law_malformed, .func (PySem.W.fnOf "_law_malformed" "_law_malformed" (defArgs s__law_malformed) (defBody s__law_malformed) (defScope s__law_malformed) .none kV__law_malformed dc__law_malformed pm__law_malformed an__law_malformed cd__law_malformed ct__law_malformed), sl__law_malformed⟩)
    (c__law_malformed : PySem.W.codeIn K cd__law_malformed "_law_malformed" = true)
    (k__law_malformed : PySem.W.keepIn K (.ref f__law_malformed) = true)
    (a__law_near_holds : PySem.W.nsIn K mainGlobals "_law_near_holds" = some (some (.ref f__law_near_holds)))
    (l__law_near_holds : K.lookup f__law_near_holds = some ⟨oc__law_near_holds, od__law_near_holds, .func (PySem.W.fnOf "_law_near_holds" "_law_near_holds" (defArgs s__law_near_holds) (defBody s__law_near_holds) (defScope s__law_near_holds) .none kV__law_near_holds dc__law_near_holds pm__law_near_holds an__law_near_holds cd__law_near_holds ct__law_near_holds), sl__law_near_holds⟩)
    (c__law_near_holds : PySem.W.codeIn K cd__law_near_holds "_law_near_holds" = true)
    (k__law_near_holds : PySem.W.keepIn K (.ref f__law_near_holds) = true)
    (a_law : PySem.W.nsIn K mainGlobals "law" = some (some (.ref f_law)))
    (l_law : K.lookup f_law = some ⟨oc_law, od_law, .func (PySem.W.fnOf "law" "law" (defArgs s_law) (defBody s_law) (defScope s_law) .none kV_law dc_law pm_law an_law cd_law ct_law), sl_law⟩)
    (c_law : PySem.W.codeIn K cd_law "law" = true)
    (k_law : PySem.W.keepIn K (.ref f_law) = true)
    (z_abs : PySem.W.nsIn K mainGlobals "abs" = some none)
    (z_int : PySem.W.nsIn K mainGlobals "int" = some none)
    (z_bool : PySem.W.nsIn K mainGlobals "bool" = some none)
    (z_tuple : PySem.W.nsIn K mainGlobals "tuple" = some none)
    (z_max : PySem.W.nsIn K mainGlobals "max" = some none)
    (z_min : PySem.W.nsIn K mainGlobals "min" = some none)
    (z_range : PySem.W.nsIn K mainGlobals "range" = some none)
    (z_isinstance : PySem.W.nsIn K mainGlobals "isinstance" = some none)
    (z_len : PySem.W.nsIn K mainGlobals "len" = some none)
    (z_all : PySem.W.nsIn K mainGlobals "all" = some none)
    (z_any : PySem.W.nsIn K mainGlobals "any" = some none)
    (z_isqrt : PySem.W.nsIn K mainGlobals "isqrt" = some (some (.builtin "math.isqrt")))
    (v_HALVED_BITS : PySem.W.nsIn K mainGlobals "HALVED_BITS" = some (some (.int 32 t_HALVED_BITS)))
    (v_ITEM_BOUND : PySem.W.nsIn K mainGlobals "ITEM_BOUND" = some (some (.int 1000000000000000000000000000000000000000000000000000000000000 t_ITEM_BOUND)))
    (v_LARGEST : PySem.W.nsIn K mainGlobals "LARGEST" = some (some (.int 1000000 t_LARGEST)))
    (aM : PySem.W.nsIn K mainGlobals "Malformed" = some (some (.ref CM)))
    (xM : PySem.W.excIn K CM veB "ValueError.__new__" = true)
    (kM : PySem.W.keepIn K (.ref CM) = true)
    (bM : PySem.W.subIn K (.ref CM) (.type "BaseException") = some true)
    (tM : PySem.W.typeIn K (.ref CM) = some (.type "type"))
    (iM : PySem.W.isClsIn K CM = true)
    (mM : PySem.W.subIn K (.ref CM) (.ref CM) = some true)
    (aR : PySem.W.nsIn K mainGlobals "Refused" = some (some (.ref CR)))
    (xR : K.lookup CR = some (excClassObj nm_R q_R CR NR bs_R bm_R true sn_R sub_R ab_R col_R dd_R m0_R m1_R m2_R m3_R m5_R "ValueError.__new__"))
    (vR : PySem.HandSPX.refsVE bm_R = true)
    (sR : PySem.W.findIn K (.ref CR) "__setattr__" = some (some (.builtin "object.__setattr__")))
    (gR : PySem.W.findIn K (.ref CR) "__getattribute__" = some (some (.builtin "BaseException.__getattribute__")))
    (hR : PySem.W.findIn K (.ref CR) "__getattr__" = some none)
    (nR : PySem.W.findIn K (.ref CR) "reason" = some none)
    (iR : PySem.W.findIn K (.ref CR) "__init__" = some (some (.ref fI)))
    (tI : PySem.W.typeIn K (.ref fI) = some (.type "function"))
    (lI : K.lookup fI = some ⟨oc_I, od_I, .func (PySem.W.fnOf "__init__" "Refused.__init__" (defArgs s_RI) (defBody s_RI) (defScope s_RI) .none kV_I dc_I pm_I an_I cd_I ct_I), sl_I⟩)
    (cI : PySem.W.codeIn K cd_I "Refused.__init__" = true)
    (kI : PySem.W.keepIn K (.ref fI) = true)
    (kR : PySem.W.keepIn K (.ref CR) = true)
    (bR : PySem.W.subIn K (.ref CR) (.type "BaseException") = some true)
    (tR : PySem.W.typeIn K (.ref CR) = some (.type "type"))
    (dR : PySem.W.hasDictIn K CR = true)
    (cR : PySem.W.isClsIn K CR = true)
    (rm : PySem.W.subIn K (.ref CR) (.ref CM) = some false)
    (rr : PySem.W.subIn K (.ref CR) (.ref CR) = some true)
    (uU : PySem.W.nsIn K mainGlobals "UNIT_MATRIX" = some (some (.ref aU)))
    (lU : K.lookup aU = some ⟨.type "tuple", od_U, .seq #[.ref a1, .ref a2] n_U, sl_U⟩)
    (l1 : K.lookup a1 = some ⟨.type "tuple", od_1, .seq #[.int 1 t_u1, .int 0 t_u2] n_1, sl_1⟩)
    (l2 : K.lookup a2 = some ⟨.type "tuple", od_2, .seq #[.int 0 t_u3, .int 1 t_u4] n_2, sl_2⟩) :
    ∃ fd : FuncData, (∀ (s : Shared) (v : Value), BindsTo s fd ⟨[v], []⟩ [("script", v)]) ∧ ∀ base : Heap, K.In base → base.Ns mainGlobals mg → FnOk l.prog w K mg base CX0 9 fa fd ["script"] (spLaw K) := by
  have e := hfa.symm.trans (PySem.W.mg_of X G a_law)
  cases e
  have B : Bl mg := { abs := PySem.W.mg_none_of X G z_abs, int := PySem.W.mg_none_of X G z_int, bool := PySem.W.mg_none_of X G z_bool, tuple := PySem.W.mg_none_of X G z_tuple, max := PySem.W.mg_none_of X G z_max, min := PySem.W.mg_none_of X G z_min, range := PySem.W.mg_none_of X G z_range, isinstance := PySem.W.mg_none_of X G z_isinstance, len := PySem.W.mg_none_of X G z_len, all := PySem.W.mg_none_of X G z_all, any := PySem.W.mg_none_of X G z_any, isqrt := PySem.W.mg_of X G z_isqrt, c_HALVED_BITS := ⟨_, PySem.W.mg_of X G v_HALVED_BITS⟩, c_ITEM_BOUND := ⟨_, PySem.W.mg_of X G v_ITEM_BOUND⟩, c_LARGEST := ⟨_, PySem.W.mg_of X G v_LARGEST⟩ }
  have d_is_integer : Dn K mg "is_integer" s_is_integer ["value"] := dn_mk X G a_is_integer l_is_integer c_is_integer k_is_integer fun _ _ _ _ _ _ us hl => match us, hl with | [_], _ => rfl
  have d_is_square : Dn K mg "is_square" s_is_square ["n"] := dn_mk X G a_is_square l_is_square c_is_square k_is_square fun _ _ _ _ _ _ us hl => match us, hl with | [_], _ => rfl
  have d_is_row : Dn K mg "is_row" s_is_row ["value", "n"] := dn_mk X G a_is_row l_is_row c_is_row k_is_row fun _ _ _ _ _ _ us hl => match us, hl with | [_, _], _ => rfl
  have d_is_discriminant : Dn K mg "is_discriminant" s_is_discriminant ["value"] := dn_mk X G a_is_discriminant l_is_discriminant c_is_discriminant k_is_discriminant fun _ _ _ _ _ _ us hl => match us, hl with | [_], _ => rfl
  have d_is_form : Dn K mg "is_form" s_is_form ["value"] := dn_mk X G a_is_form l_is_form c_is_form k_is_form fun _ _ _ _ _ _ us hl => match us, hl with | [_], _ => rfl
  have d_is_matrix : Dn K mg "is_matrix" s_is_matrix ["value"] := dn_mk X G a_is_matrix l_is_matrix c_is_matrix k_is_matrix fun _ _ _ _ _ _ us hl => match us, hl with | [_], _ => rfl
  have d_is_large : Dn K mg "is_large" s_is_large ["f"] := dn_mk X G a_is_large l_is_large c_is_large k_is_large fun _ _ _ _ _ _ us hl => match us, hl with | [_], _ => rfl
  have d_check_form : Dn K mg "check_form" s_check_form ["f"] := dn_mk X G a_check_form l_check_form c_check_form k_check_form fun _ _ _ _ _ _ us hl => match us, hl with | [_], _ => rfl
  have d_check_matrix : Dn K mg "check_matrix" s_check_matrix ["m"] := dn_mk X G a_check_matrix l_check_matrix c_check_matrix k_check_matrix fun _ _ _ _ _ _ us hl => match us, hl with | [_], _ => rfl
  have d_check_items : Dn K mg "check_items" s_check_items ["f"] := dn_mk X G a_check_items l_check_items c_check_items k_check_items fun _ _ _ _ _ _ us hl => match us, hl with | [_], _ => rfl
  have d_told_discriminant : Dn K mg "told_discriminant" s_told_discriminant ["f"] := dn_mk X G a_told_discriminant l_told_discriminant c_told_discriminant k_told_discriminant fun _ _ _ _ _ _ us hl => match us, hl with | [_], _ => rfl
  have d_matrix_product : Dn K mg "matrix_product" s_matrix_product ["m", "n"] := dn_mk X G a_matrix_product l_matrix_product c_matrix_product k_matrix_product fun _ _ _ _ _ _ us hl => match us, hl with | [_, _], _ => rfl
  have d_inverse_matrix : Dn K mg "inverse_matrix" s_inverse_matrix ["m"] := dn_mk X G a_inverse_matrix l_inverse_matrix c_inverse_matrix k_inverse_matrix fun _ _ _ _ _ _ us hl => match us, hl with | [_], _ => rfl
  have d_check_definite : Dn K mg "check_definite" s_check_definite ["f"] := dn_mk X G a_check_definite l_check_definite c_check_definite k_check_definite fun _ _ _ _ _ _ us hl => match us, hl with | [_], _ => rfl
  have d_told_reduced : Dn K mg "told_reduced" s_told_reduced ["f"] := dn_mk X G a_told_reduced l_told_reduced c_told_reduced k_told_reduced fun _ _ _ _ _ _ us hl => match us, hl with | [_], _ => rfl
  have d_is_reduced : Dn K mg "is_reduced" s_is_reduced ["f"] := dn_mk X G a_is_reduced l_is_reduced c_is_reduced k_is_reduced fun _ _ _ _ _ _ us hl => match us, hl with | [_], _ => rfl
  have d_reduction : Dn K mg "reduction" s_reduction ["f"] := dn_mk X G a_reduction l_reduction c_reduction k_reduction fun _ _ _ _ _ _ us hl => match us, hl with | [_], _ => rfl
  have d_reduced_form : Dn K mg "reduced_form" s_reduced_form ["f"] := dn_mk X G a_reduced_form l_reduced_form c_reduced_form k_reduced_form fun _ _ _ _ _ _ us hl => match us, hl with | [_], _ => rfl
  have d_check_walked : Dn K mg "check_walked" s_check_walked ["D"] := dn_mk X G a_check_walked l_check_walked c_check_walked k_check_walked fun _ _ _ _ _ _ us hl => match us, hl with | [_], _ => rfl
  have d_told_by_steps : Dn K mg "told_by_steps" s_told_by_steps ["f"] := dn_mk X G a_told_by_steps l_told_by_steps c_told_by_steps k_told_by_steps fun _ _ _ _ _ _ us hl => match us, hl with | [_], _ => rfl
  have d_told_form : Dn K mg "told_form" s_told_form ["f"] := dn_mk X G a_told_form l_told_form c_told_form k_told_form fun _ _ _ _ _ _ us hl => match us, hl with | [_], _ => rfl
  have d_equivalence : Dn K mg "equivalence" s_equivalence ["f", "g"] := dn_mk X G a_equivalence l_equivalence c_equivalence k_equivalence fun _ _ _ _ _ _ us hl => match us, hl with | [_, _], _ => rfl
  have d_matrix_between : Dn K mg "matrix_between" s_matrix_between ["f", "g"] := dn_mk X G a_matrix_between l_matrix_between c_matrix_between k_matrix_between fun _ _ _ _ _ _ us hl => match us, hl with | [_, _], _ => rfl
  have d__law_state : Dn K mg "_law_state" s__law_state ["script"] := dn_mk X G a__law_state l__law_state c__law_state k__law_state fun _ _ _ _ _ _ us hl => match us, hl with | [_], _ => rfl
  have d__law_take : Dn K mg "_law_take" s__law_take ["state", "m"] := dn_mk X G a__law_take l__law_take c__law_take k__law_take fun _ _ _ _ _ _ us hl => match us, hl with | [_, _], _ => rfl
  have d__law_plain : Dn K mg "_law_plain" s__law_plain ["value"] := dn_mk X G a__law_plain l__law_plain c__law_plain k__law_plain fun _ _ _ _ _ _ us hl => match us, hl with | [_], _ => rfl
  have d__law_says : Dn K mg "_law_says" s__law_says ["value", "due"] := dn_mk X G a__law_says l__law_says c__law_says k__law_says fun _ _ _ _ _ _ us hl => match us, hl with | [_, _], _ => rfl
  have d__law_whole : Dn K mg "_law_whole" s__law_whole ["value"] := dn_mk X G a__law_whole l__law_whole c__law_whole k__law_whole fun _ _ _ _ _ _ us hl => match us, hl with | [_], _ => rfl
  have d__law_value : Dn K mg "_law_value" s__law_value ["f", "x", "y"] := dn_mk X G a__law_value l__law_value c__law_value k__law_value fun _ _ _ _ _ _ us hl => match us, hl with | [_, _, _], _ => rfl
  have d__law_moved : Dn K mg "_law_moved" s__law_moved ["f", "m"] := dn_mk X G a__law_moved l__law_moved c__law_moved k__law_moved fun _ _ _ _ _ _ us hl => match us, hl with | [_, _], _ => rfl
  have d__law_product : Dn K mg "_law_product" s__law_product ["m", "n"] := dn_mk X G a__law_product l__law_product c__law_product k__law_product fun _ _ _ _ _ _ us hl => match us, hl with | [_, _], _ => rfl
  have d__law_is_matrix : Dn K mg "_law_is_matrix" s__law_is_matrix ["value"] := dn_mk X G a__law_is_matrix l__law_is_matrix c__law_is_matrix k__law_is_matrix fun _ _ _ _ _ _ us hl => match us, hl with | [_], _ => rfl
  have d__law_matrix : Dn K mg "_law_matrix" s__law_matrix ["state", "turns", "most"] := dn_mk X G a__law_matrix l__law_matrix c__law_matrix k__law_matrix fun _ _ _ _ _ _ us hl => match us, hl with | [_, _, _], _ => rfl
  have d__law_lowered : Dn K mg "_law_lowered" s__law_lowered ["f"] := dn_mk X G a__law_lowered l__law_lowered c__law_lowered k__law_lowered fun _ _ _ _ _ _ us hl => match us, hl with | [_], _ => rfl
  have d__law_drawn_definite : Dn K mg "_law_drawn_definite" s__law_drawn_definite ["state", "most"] := dn_mk X G a__law_drawn_definite l__law_drawn_definite c__law_drawn_definite k__law_drawn_definite fun _ _ _ _ _ _ us hl => match us, hl with | [_, _], _ => rfl
  have d__law_strange : Dn K mg "_law_strange" s__law_strange ["state"] := dn_mk X G a__law_strange l__law_strange c__law_strange k__law_strange fun _ _ _ _ _ _ us hl => match us, hl with | [_], _ => rfl
  have d__law_is_low : Dn K mg "_law_is_low" s__law_is_low ["f"] := dn_mk X G a__law_is_low l__law_is_low c__law_is_low k__law_is_low fun _ _ _ _ _ _ us hl => match us, hl with | [_], _ => rfl
  have d__law_leads : Dn K mg "_law_leads" s__law_leads ["told", "f", "due"] := dn_mk X G a__law_leads l__law_leads c__law_leads k__law_leads fun _ _ _ _ _ _ us hl => match us, hl with | [_, _, _], _ => rfl
  have d__law_malformed : Dn K mg "_law_malformed" s__law_malformed ["which", "f"] := dn_mk X G a__law_malformed l__law_malformed c__law_malformed k__law_malformed fun _ _ _ _ _ _ us hl => match us, hl with | [_, _], _ => rfl
  have d__law_near_holds : Dn K mg "_law_near_holds" s__law_near_holds ["state", "f"] := dn_mk X G a__law_near_holds l__law_near_holds c__law_near_holds k__law_near_holds fun _ _ _ _ _ _ us hl => match us, hl with | [_, _], _ => rfl
  have d_law : Dn K mg "law" s_law ["script"] := dn_mk X G a_law l_law c_law k_law fun _ _ _ _ _ _ us hl => match us, hl with | [_], _ => rfl
  have hM : PySem.W.exmOne K (.ref CM) (.ref CM) = some true := exm_b bM iM tM mM
  have mr : PySem.W.exmOne K (.ref CR) (.ref CM) = some false := exm_b bM iM tM rm
  have hR2 : PySem.W.exmOne K (.ref CR) (.ref CR) = some true := exm_b bR cR tR rr
  refine ⟨PySem.W.fnOf "law" "law" (defArgs s_law) (defBody s_law) (defScope s_law) .none kV_law dc_law pm_law an_law cd_law ct_law, fun s v => .of_eq rfl, fun base _ _ => ?_⟩
  have FI := fun_mk (st := s_RI) lI cI kI
  have bI := FI.binds (ps := ["self", "reason"]) fun _ _ _ _ _ _ us hl => match us, hl with | [_, _], _ => rfl
  have e_E : ErrI l.prog w K mg base CM CR := ⟨⟨PySem.W.mg_of X G aM, xM, kM, bM, tM, hM⟩, fI, _, ⟨PySem.W.mg_of X G aR, ⟨⟨nm_R, q_R, NR, bs_R, bm_R, sn_R, sub_R, ab_R, col_R, dd_R, m0_R, m1_R, m2_R, m3_R, m5_R, xR, vR⟩, sR, bR, tR, kR⟩, iR, tI, nR, ⟨gR, hR, bR, dR⟩, mr, hR2⟩,
    ri_fn FI, bI⟩
  have U : UM K mg aU a1 a2 := ⟨PySem.W.mg_of X G uU, fun H => .inr ⟨_, _, _, lU, rfl, rfl, by show 2 ≤ sizeLine; decide, .cons rfl (.cons rfl .nil)⟩, fun H => .inr ⟨_, _, _, l1, rfl, rfl, by show 2 ≤ sizeLine; decide, .cons ⟨_, rfl⟩ (.cons ⟨_, rfl⟩ .nil)⟩, fun H => .inr ⟨_, _, _, l2, rfl, rfl, by show 2 ≤ sizeLine; decide, .cons ⟨_, rfl⟩ (.cons ⟨_, rfl⟩ .nil)⟩⟩
  have r_take := cal_take (P := l.prog) (w := w) (base := base) d__law_take B
  have r_state := cal_state (P := l.prog) (w := w) (base := base) d__law_state B
  have r_int := cal_is_integer (P := l.prog) (w := w) (base := base) d_is_integer B
  have r_whole := cal_whole (P := l.prog) (w := w) (base := base) d__law_whole B
  have r_sq := cal_is_square (P := l.prog) (w := w) (base := base) d_is_square B
  have r_disc := cal_is_disc (P := l.prog) (w := w) (base := base) d_is_discriminant B r_int r_sq
  have r_row := cal_row (P := l.prog) (w := w) (base := base) d_is_row B r_int
  have r_large := cal_large (P := l.prog) (w := w) (base := base) d_is_large B
  have r_td := cal_tdisc (P := l.prog) (w := w) (base := base) d_told_discriminant B
  have r_form := cal_form (P := l.prog) (w := w) (base := base) d_is_form B r_row r_large r_td r_disc
  have r_chk := cal_chkf (P := l.prog) (w := w) (base := base) d_check_form B r_form e_E
  have r_val := cal_value (P := l.prog) (w := w) (base := base) d__law_value B
  have r_mov := cal_moved (P := l.prog) (w := w) (base := base) d__law_moved B r_val
  have r_prod := cal_prod (P := l.prog) (w := w) (base := base) d__law_product B
  have r_p0 := cal_plain (P := l.prog) (w := w) (base := base) d__law_plain B r_whole
  have r_pP := cal_plainP (P := l.prog) (w := w) (base := base) d__law_plain B r_p0 r_whole
  have r_pT := cal_plainTM (P := l.prog) (w := w) (base := base) d__law_plain B r_whole r_p0 r_pP
  have r_pR := cal_plainR (P := l.prog) (w := w) (base := base) d__law_plain B r_pT r_whole
  have r_pA := cal_plainA (P := l.prog) (w := w) (base := base) d__law_plain B r_whole r_pT r_pP
  have r_ismx := cal_ismx (P := l.prog) (w := w) (base := base) d_is_matrix B r_row
  have r_chkm := cal_chkm (P := l.prog) (w := w) (base := base) d_check_matrix B r_ismx e_E
  have r_chki := cal_chki (P := l.prog) (w := w) (base := base) d_check_items B r_large e_E
  have r_invm := cal_invm (P := l.prog) (w := w) (base := base) d_inverse_matrix B r_chkm
  have r_prdm := cal_prdm (P := l.prog) (w := w) (base := base) d_matrix_product B r_chkm
  have r_mat := cal_matrix (P := l.prog) (w := w) (base := base) d__law_matrix B r_take r_prod
  have r_str := cal_strange (P := l.prog) (w := w) (base := base) d__law_strange B r_take
  have r_drawn := cal_drawn (P := l.prog) (w := w) (base := base) d__law_drawn_definite B r_take
  have r_says := cal_says (P := l.prog) (w := w) (base := base) d__law_says B
  have r_lmat := cal_lmat (P := l.prog) (w := w) (base := base) d__law_is_matrix B r_whole
  have r_def := cal_def (P := l.prog) (w := w) (base := base) d_check_definite B r_chk r_td e_E
  have r_rdc := cal_rdc (P := l.prog) (w := w) (base := base) d_reduction B U
  have r_low := cal_low (P := l.prog) (w := w) (base := base) d__law_lowered B
  have r_islow := cal_islow (P := l.prog) (w := w) (base := base) d__law_is_low B
  have r_tred := cal_tred (P := l.prog) (w := w) (base := base) d_told_reduced B
  have r_isred := cal_isred (P := l.prog) (w := w) (base := base) d_is_reduced B r_def r_tred
  have r_chkw := cal_chkw (P := l.prog) (w := w) (base := base) d_check_walked B e_E
  have r_tbs := cal_tbs (P := l.prog) (w := w) (base := base) d_told_by_steps B r_td r_rdc
  have r_rfm := cal_rfm (P := l.prog) (w := w) (base := base) d_reduced_form B r_def r_rdc r_chki
  have r_tfm := cal_tfm (P := l.prog) (w := w) (base := base) d_told_form B r_chk r_td r_chkw r_tbs r_chki
  have r_mb := cal_mb (P := l.prog) (w := w) (base := base) d_matrix_between B r_tbs r_prdm r_invm
  have r_eqv := cal_eqv (P := l.prog) (w := w) (base := base) d_equivalence B r_chk r_td r_chkw r_mb
  have r_leads := cal_leads (P := l.prog) (w := w) (base := base) d__law_leads B r_lmat r_mov
  have r_mal := cal_mal (P := l.prog) (w := w) (base := base) d__law_malformed B r_isred r_rfm r_tfm r_eqv r_pR e_E
  have r_near := cal_near (P := l.prog) (w := w) (base := base) d__law_near_holds B r_isred r_islow r_says
  exact ok_law (P := l.prog) (w := w) (base := base) (fun_mk (st := s_law) l_law c_law k_law) B r_state r_take r_drawn r_mat r_mov r_low r_leads r_pA r_rfm r_tfm r_isred r_eqv r_says r_near r_lmat r_str r_mal
theorem walk {l : PySem.W.OpenLaw} {q : Program} {loose : List Str} {XP : (Str → Option Value) → Heap → Prop} {YP : World → Heap → Prop} {d : DefRec} {K : Params → PySem.W.Frag} (hn : l.most = some 63) (hdf : d.params.defaults = []) (hY : ∀ (w : World) (h : Heap), YP w h → (K w.params).In h)
    (F : ∀ (w : World) (mg : Str → Option Value) (fa : Addr) (h : Heap), (K w.params).In h → h.Ns mainGlobals mg → mg d.name = some (.ref fa) → ∃ fd : FuncData, (∀ (s : Shared) (u : Value), BindsTo s fd ⟨[u], []⟩ [("script", u)]) ∧ ∀ base : Heap, (K w.params).In base → base.Ns mainGlobals mg → FnOk l.prog w (K w.params) mg base CX0 9 fa fd ["script"] (spLaw (K w.params))) :
    PySem.W.WalkO q loose XP YP l.row.toRowW d [] (fun f vs => PySem.call f vs) :=
  L2.walk_of (n := 63) (k := 9) (x := "script") (CX := fun _ => CX0) (sp := fun w => spLaw (K w.params)) hn (by decide) hdf ⟨rfl, by decide, by decide⟩ hY F (fun _ _ a ns hl _ hS => ⟨a, ns, rfl, hS, hl, fun _ => rfl⟩) fun _ _ _ _ _ z => z

end L16
open PySem PySem.W PyProof.Rows
set_option maxRecDepth 100000 in
set_option maxHeartbeats 0 in
theorem PySem.Challenge.cw_classledger_k16_whole_definite_forms_red_holds : PySem.Challenge.rw_classledger_k16_whole_definite_forms_red.Holds := by
  w_on; o_law; k_head; (case hw => w_witness2)
  k_fill
  refine L16.walk (l := PySem.Challenge.rw_classledger_k16_whole_definite_forms_red) rfl rfl (fun w h Y => PySem.W.kIn_of Y) ?F
  case F =>
    intro w mg fa h KX G hmg
    refine' L16.all_mk KX G hmg ?a_is_integer ?l_is_integer ?c_is_integer ?k_is_integer ?a_is_square ?l_is_square ?c_is_square ?k_is_square ?a_is_row ?l_is_row ?c_is_row ?k_is_row ?a_is_discriminant ?l_is_discriminant ?c_is_discriminant ?k_is_discriminant ?a_is_form ?l_is_form ?c_is_form ?k_is_form ?a_is_matrix ?l_is_matrix ?c_is_matrix ?k_is_matrix ?a_is_large ?l_is_large ?c_is_large ?k_is_large ?a_check_form ?l_check_form ?c_check_form ?k_check_form ?a_check_matrix ?l_check_matrix ?c_check_matrix ?k_check_matrix ?a_check_items ?l_check_items ?c_check_items ?k_check_items ?a_told_discriminant ?l_told_discriminant ?c_told_discriminant ?k_told_discriminant ?a_matrix_product ?l_matrix_product ?c_matrix_product ?k_matrix_product ?a_inverse_matrix ?l_inverse_matrix ?c_inverse_matrix ?k_inverse_matrix ?a_check_definite ?l_check_definite ?c_check_definite ?k_check_definite ?a_told_reduced ?l_told_reduced ?c_told_reduced ?k_told_reduced ?a_is_reduced ?l_is_reduced ?c_is_reduced ?k_is_reduced ?a_reduction ?l_reduction ?c_reduction ?k_reduction ?a_reduced_form ?l_reduced_form ?c_reduced_form ?k_reduced_form ?a_check_walked ?l_check_walked ?c_check_walked ?k_check_walked ?a_told_by_steps ?l_told_by_steps ?c_told_by_steps ?k_told_by_steps ?a_told_form ?l_told_form ?c_told_form ?k_told_form ?a_equivalence ?l_equivalence ?c_equivalence ?k_equivalence ?a_matrix_between ?l_matrix_between ?c_matrix_between ?k_matrix_between ?a__law_state ?l__law_state ?c__law_state ?k__law_state ?a__law_take ?l__law_take ?c__law_take ?k__law_take ?a__law_plain ?l__law_plain ?c__law_plain ?k__law_plain ?a__law_says ?l__law_says ?c__law_says ?k__law_says ?a__law_whole ?l__law_whole ?c__law_whole ?k__law_whole ?a__law_value ?l__law_value ?c__law_value ?k__law_value ?a__law_moved ?l__law_moved ?c__law_moved ?k__law_moved ?a__law_product ?l__law_product ?c__law_product ?k__law_product ?a__law_is_matrix ?l__law_is_matrix ?c__law_is_matrix ?k__law_is_matrix ?a__law_matrix ?l__law_matrix ?c__law_matrix ?k__law_matrix ?a__law_lowered ?l__law_lowered ?c__law_lowered ?k__law_lowered ?a__law_drawn_definite ?l__law_drawn_definite ?c__law_drawn_definite ?k__law_drawn_definite ?a__law_strange ?l__law_strange ?c__law_strange ?k__law_strange ?a__law_is_low ?l__law_is_low ?c__law_is_low ?k__law_is_low ?a__law_leads ?l__law_leads ?c__law_leads ?k__law_leads ?a__law_malformed ?l__law_malformed ?c__law_malformed ?k__law_malformed ?a__law_near_holds ?l__law_near_holds ?c__law_near_holds ?k__law_near_holds ?a_law ?l_law ?c_law ?k_law ?z_abs ?z_int ?z_bool ?z_tuple ?z_max ?z_min ?z_range ?z_isinstance ?z_len ?z_all ?z_any ?z_isqrt ?v_HALVED_BITS ?v_ITEM_BOUND ?v_LARGEST ?aM ?xM ?kM ?bM ?tM ?iM ?mM ?aR ?xR ?vR ?sR ?gR ?hR ?nR ?iR ?tI ?lI ?cI ?kI ?kR ?bR ?tR ?dR ?cR ?rm ?rr ?uU ?lU ?l1 ?l2
    (case a_is_integer => k_is); (case l_is_integer => k_is); (case c_is_integer => k_is); (case k_is_integer => k_is)
    (case a_is_square => k_is); (case l_is_square => k_is); (case c_is_square => k_is); (case k_is_square => k_is)
    (case a_is_row => k_is); (case l_is_row => k_is); (case c_is_row => k_is); (case k_is_row => k_is)
    (case a_is_discriminant => k_is); (case l_is_discriminant => k_is); (case c_is_discriminant => k_is); (case k_is_discriminant => k_is)
    (case a_is_form => k_is); (case l_is_form => k_is); (case c_is_form => k_is); (case k_is_form => k_is)
    (case a_is_matrix => k_is); (case l_is_matrix => k_is); (case c_is_matrix => k_is); (case k_is_matrix => k_is)
    (case a_is_large => k_is); (case l_is_large => k_is); (case c_is_large => k_is); (case k_is_large => k_is)
    (case a_check_form => k_is); (case l_check_form => k_is); (case c_check_form => k_is); (case k_check_form => k_is)
    (case a_check_matrix => k_is); (case l_check_matrix => k_is); (case c_check_matrix => k_is); (case k_check_matrix => k_is)
    (case a_check_items => k_is); (case l_check_items => k_is); (case c_check_items => k_is); (case k_check_items => k_is)
    (case a_told_discriminant => k_is); (case l_told_discriminant => k_is); (case c_told_discriminant => k_is); (case k_told_discriminant => k_is)
    (case a_matrix_product => k_is); (case l_matrix_product => k_is); (case c_matrix_product => k_is); (case k_matrix_product => k_is)
    (case a_inverse_matrix => k_is); (case l_inverse_matrix => k_is); (case c_inverse_matrix => k_is); (case k_inverse_matrix => k_is)
    (case a_check_definite => k_is); (case l_check_definite => k_is); (case c_check_definite => k_is); (case k_check_definite => k_is)
    (case a_told_reduced => k_is); (case l_told_reduced => k_is); (case c_told_reduced => k_is); (case k_told_reduced => k_is)
    (case a_is_reduced => k_is); (case l_is_reduced => k_is); (case c_is_reduced => k_is); (case k_is_reduced => k_is)
    (case a_reduction => k_is); (case l_reduction => k_is); (case c_reduction => k_is); (case k_reduction => k_is)
    (case a_reduced_form => k_is); (case l_reduced_form => k_is); (case c_reduced_form => k_is); (case k_reduced_form => k_is)
    (case a_check_walked => k_is); (case l_check_walked => k_is); (case c_check_walked => k_is); (case k_check_walked => k_is)
    (case a_told_by_steps => k_is); (case l_told_by_steps => k_is); (case c_told_by_steps => k_is); (case k_told_by_steps => k_is)
    (case a_told_form => k_is); (case l_told_form => k_is); (case c_told_form => k_is); (case k_told_form => k_is)
    (case a_equivalence => k_is); (case l_equivalence => k_is); (case c_equivalence => k_is); (case k_equivalence => k_is)
    (case a_matrix_between => k_is); (case l_matrix_between => k_is); (case c_matrix_between => k_is); (case k_matrix_between => k_is)
    (case a__law_state => k_is); (case l__law_state => k_is); (case c__law_state => k_is); (case k__law_state => k_is)
    (case a__law_take => k_is); (case l__law_take => k_is); (case c__law_take => k_is); (case k__law_take => k_is)
    (case a__law_plain => k_is); (case l__law_plain => k_is); (case c__law_plain => k_is); (case k__law_plain => k_is)
    (case a__law_says => k_is); (case l__law_says => k_is); (case c__law_says => k_is); (case k__law_says => k_is)
    (case a__law_whole => k_is); (case l__law_whole => k_is); (case c__law_whole => k_is); (case k__law_whole => k_is)
    (case a__law_value => k_is); (case l__law_value => k_is); (case c__law_value => k_is); (case k__law_value => k_is)
    (case a__law_moved => k_is); (case l__law_moved => k_is); (case c__law_moved => k_is); (case k__law_moved => k_is)
    (case a__law_product => k_is); (case l__law_product => k_is); (case c__law_product => k_is); (case k__law_product => k_is)
    (case a__law_is_matrix => k_is); (case l__law_is_matrix => k_is); (case c__law_is_matrix => k_is); (case k__law_is_matrix => k_is)
    (case a__law_matrix => k_is); (case l__law_matrix => k_is); (case c__law_matrix => k_is); (case k__law_matrix => k_is)
    (case a__law_lowered => k_is); (case l__law_lowered => k_is); (case c__law_lowered => k_is); (case k__law_lowered => k_is)
    (case a__law_drawn_definite => k_is); (case l__law_drawn_definite => k_is); (case c__law_drawn_definite => k_is); (case k__law_drawn_definite => k_is)
    (case a__law_strange => k_is); (case l__law_strange => k_is); (case c__law_strange => k_is); (case k__law_strange => k_is)
    (case a__law_is_low => k_is); (case l__law_is_low => k_is); (case c__law_is_low => k_is); (case k__law_is_low => k_is)
    (case a__law_leads => k_is); (case l__law_leads => k_is); (case c__law_leads => k_is); (case k__law_leads => k_is)
    (case a__law_malformed => k_is); (case l__law_malformed => k_is); (case c__law_malformed => k_is); (case k__law_malformed => k_is)
    (case a__law_near_holds => k_is); (case l__law_near_holds => k_is); (case c__law_near_holds => k_is); (case k__law_near_holds => k_is)
    (case a_law => k_is); (case l_law => k_is); (case c_law => k_is); (case k_law => k_is)
    (case z_abs => k_is); (case z_int => k_is); (case z_bool => k_is); (case z_tuple => k_is)
    (case z_max => k_is); (case z_min => k_is); (case z_range => k_is); (case z_isinstance => k_is)
    (case z_len => k_is); (case z_all => k_is); (case z_any => k_is); (case z_isqrt => k_is)
    (case v_HALVED_BITS => k_is); (case v_ITEM_BOUND => k_is); (case v_LARGEST => k_is); (case aM => k_is)
    (case xM => k_exc); (case kM => k_is); (case bM => k_is); (case tM => k_is)
    (case iM => k_is); (case mM => k_is); (case aR => k_is); (case xR => k_is)
    (case vR => first | rfl | decide +kernel); (case sR => k_is); (case gR => k_is); (case hR => k_is)
    (case nR => k_is); (case iR => k_is); (case tI => k_is); (case lI => k_is)
    (case cI => k_is); (case kI => k_is); (case kR => k_is); (case bR => k_is)
    (case tR => k_is); (case dR => k_is); (case cR => k_is); (case rm => k_is)
    (case rr => k_is); (case uU => k_is); (case lU => k_is); (case l1 => k_is)
    (case l2 => k_is)
