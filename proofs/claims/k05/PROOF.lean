import PyProof.Rows.All
import Wide.All
import OpenK.AllK
import Wide.FinOn
import HandS.Base
import HandS.Call
import HandS.List
import HandS.Comp
import HandS.Ends
import HandS.Dict
import HandS.Iter
import HandS.Words
import HandS.WordsList
import HandS.Wide
import HandS.EndBits
import HandS.IsInst
import HandS.TupLen
import HandS.DictTup
import HandS.Sort
import HandS.Style
import HandS.Flow
import KE.KDictWalk
import HandS.DictComp
import KE.KDictCopyH
import KE.DataFind
import HandS.TupLe
import HandS.Walk
import HandS.DeepEq
import KE.RegKIsAll
import HandS.HotCalls
import HandS.ExcOwn
import HandS.ExcIs
import HandS.ExcBuiltin
import HandS.Lambda
import HandS.EndTab
import HandS.EndOwn
import KE.KNestM
import KE.RegKTryMore
import PySem.Challenge.RW_everymeets_k05_refused
set_option Elab.async false
set_option linter.all false
set_option maxRecDepth 100000
set_option maxHeartbeats 4000000
namespace EM
/-! the told plan as functions -/
def opp (t a r : Int) : Int := if a = t - 1 then r else if a = r then t - 1 else (2 * r - a) % (t - 1)
def home (t a r : Int) : Bool := if a = t - 1 then decide (r % 2 = 0) else if a = r then decide (r % 2 = 1) else decide ((a - r) % (t - 1) % 2 = 1)
def rnd (t a b : Int) : Int := if a = t - 1 then b else if b = t - 1 then a else ((a + b) * (t / 2)) % (t - 1)
structure TOk (t : Int) : Prop where
  two : 2 ≤ t
  even : t % 2 = 0
theorem emod_of {y m a k : Int} (h : y = a + m * k) (h0 : 0 ≤ a) (h1 : a < m) : y % m = a := by
  rw [h, Int.add_mul_emod_self_left]
  exact Int.emod_eq_of_lt h0 h1
theorem emod3 {y m : Int} (hm : 0 < m) (h0 : -m < y) (h1 : y < 2 * m) : (y % m = y ∧ 0 ≤ y ∧ y < m) ∨ (y % m = y - m ∧ m ≤ y) ∨ (y % m = y + m ∧ y < 0) := by
  by_cases a : y < 0
  · exact .inr (.inr ⟨emod_of (k := -1) (by omega) (by omega) (by omega), a⟩)
  · by_cases b : y < m
    · exact .inl ⟨emod_of (k := 0) (by omega) (by omega) b, by omega, b⟩
    · exact .inr (.inl ⟨emod_of (k := 1) (by omega) (by omega) (by omega), by omega⟩)
section
variable {t a b r : Int}
theorem opp_lt (T : TOk t) (a0 : 0 ≤ a) (a1 : a < t) (r0 : 0 ≤ r) (r1 : r < t - 1) : 0 ≤ opp t a r ∧ opp t a r < t := by
  have := T.two
  unfold opp
  split
  · omega
  · split
    · omega
    · have h1 := Int.emod_nonneg (2 * r - a) (show t - 1 ≠ 0 by omega)
      have h2 := Int.emod_lt_of_pos (2 * r - a) (show 0 < t - 1 by omega)
      omega
theorem opp_ne (T : TOk t) (a0 : 0 ≤ a) (a1 : a < t) (r0 : 0 ≤ r) (r1 : r < t - 1) : opp t a r ≠ a := by
  have := T.two
  have := T.even
  unfold opp
  split
  · omega
  · split
    · omega
    · have h := emod3 (y := 2 * r - a) (m := t - 1) (by omega) (by omega) (by omega)
      omega
theorem opp_opp (T : TOk t) (a0 : 0 ≤ a) (a1 : a < t) (r0 : 0 ≤ r) (r1 : r < t - 1) : opp t (opp t a r) r = a := by
  have := T.two
  have := T.even
  by_cases e1 : a = t - 1
  · have : opp t a r = r := by unfold opp; rw [if_pos e1]
    rw [this]
    unfold opp
    rw [if_neg (by omega), if_pos rfl, e1]
  · by_cases e2 : a = r
    · have : opp t a r = t - 1 := by unfold opp; rw [if_neg e1, if_pos e2]
      rw [this]
      unfold opp
      rw [if_pos rfl, e2]
    · have e : opp t a r = (2 * r - a) % (t - 1) := by unfold opp; rw [if_neg e1, if_neg e2]
      have h := emod3 (y := 2 * r - a) (m := t - 1) (by omega) (by omega) (by omega)
      rw [← e] at h
      generalize opp t a r = x at h
      unfold opp
      rw [if_neg (by omega), if_neg (by omega)]
      rcases h with h | h | h
      · exact emod_of (k := 0) (by omega) (by omega) (by omega)
      · exact emod_of (k := 1) (by omega) (by omega) (by omega)
      · exact emod_of (k := -1) (by omega) (by omega) (by omega)
/-- twice the half of the teams is one and a whole turn -/
theorem half_turn {h m s r q : Int} (e : 2 * h = m + 1) (hs : s = 2 * r + m * q) : s * h = r + m * (r + q * h) := by
  have h1 : 2 * r * h = r * (m + 1) := by rw [← e, ← Int.mul_assoc, Int.mul_comm 2 r]
  rw [hs, Int.add_mul, h1, Int.mul_add, Int.mul_add, Int.mul_one, Int.mul_assoc, Int.mul_comm m r]
  omega
theorem half_turn2 {h m s x : Int} (e : 2 * h = m + 1) (hx : x = s * h % m) : ∃ j, 2 * x = s + m * j := by
  have d : s * h % m + m * (s * h / m) = s * h := Int.emod_add_mul_ediv (s * h) m
  refine ⟨s - 2 * (s * h / m), ?_⟩
  have h1 : 2 * (s * h) = s * (m + 1) := by rw [← e, ← Int.mul_assoc, ← Int.mul_assoc, Int.mul_comm 2 s]
  rw [Int.mul_add, Int.mul_one] at h1
  rw [← hx] at d
  rw [Int.mul_sub, ← Int.mul_assoc, Int.mul_comm m 2, Int.mul_assoc, Int.mul_comm m s]
  generalize m * (s * h / m) = y at *
  generalize s * m = z at *
  omega
theorem rnd_opp (T : TOk t) (a0 : 0 ≤ a) (a1 : a < t) (r0 : 0 ≤ r) (r1 : r < t - 1) : rnd t a (opp t a r) = r ∧ rnd t (opp t a r) a = r := by
  have := T.two
  have := T.even
  by_cases e1 : a = t - 1
  · have e : opp t a r = r := by unfold opp; rw [if_pos e1]
    rw [e]
    unfold rnd
    rw [if_pos e1, if_neg (show ¬ r = t - 1 by omega), if_pos e1]
    exact ⟨rfl, rfl⟩
  · by_cases e2 : a = r
    · have e : opp t a r = t - 1 := by unfold opp; rw [if_neg e1, if_pos e2]
      rw [e]
      unfold rnd
      rw [if_neg e1, if_pos rfl, if_pos rfl]
      exact ⟨e2, e2⟩
    · have e : opp t a r = (2 * r - a) % (t - 1) := by unfold opp; rw [if_neg e1, if_neg e2]
      have h := emod3 (y := 2 * r - a) (m := t - 1) (by omega) (by omega) (by omega)
      rw [← e] at h
      have h2 : 2 * (t / 2) = (t - 1) + 1 := by omega
      generalize opp t a r = x at h
      unfold rnd
      rw [if_neg e1, if_neg (show ¬ x = t - 1 by omega), if_neg (show ¬ x = t - 1 by omega), if_neg e1, Int.add_comm x a]
      have k : ∃ q : Int, a + x = 2 * r + (t - 1) * q := by
        rcases h with h | h | h
        · exact ⟨0, by omega⟩
        · exact ⟨-1, by omega⟩
        · exact ⟨1, by omega⟩
      obtain ⟨q, hq⟩ := k
      have := emod_of (half_turn h2 hq) r0 r1
      exact ⟨this, this⟩
theorem home_opp (T : TOk t) (a0 : 0 ≤ a) (a1 : a < t) (r0 : 0 ≤ r) (r1 : r < t - 1) : home t (opp t a r) r = !home t a r := by
  have := T.two
  have := T.even
  have neg : ∀ {p q : Prop} [Decidable p] [Decidable q], (p ↔ ¬ q) → decide p = !decide q := fun {p q} _ _ h => by
    rw [decide_eq_decide.mpr h, decide_not]
  by_cases e1 : a = t - 1
  · have e : opp t a r = r := by unfold opp; rw [if_pos e1]
    rw [e]
    unfold home
    rw [if_neg (show ¬ r = t - 1 by omega), if_pos rfl, if_pos e1]
    exact neg (by omega)
  · by_cases e2 : a = r
    · have e : opp t a r = t - 1 := by unfold opp; rw [if_neg e1, if_pos e2]
      rw [e]
      unfold home
      rw [if_pos rfl, if_neg e1, if_pos e2]
      exact neg (by omega)
    · have e : opp t a r = (2 * r - a) % (t - 1) := by unfold opp; rw [if_neg e1, if_neg e2]
      have h := emod3 (y := 2 * r - a) (m := t - 1) (by omega) (by omega) (by omega)
      rw [← e] at h
      generalize opp t a r = x at h
      unfold home
      rw [if_neg (show ¬ x = t - 1 by omega), if_neg (show ¬ x = r by omega), if_neg e1, if_neg e2]
      have h3 := emod3 (y := a - r) (m := t - 1) (by omega) (by omega) (by omega)
      have h4 := emod3 (y := x - r) (m := t - 1) (by omega) (by omega) (by omega)
      refine neg ?_
      generalize (x - r) % (t - 1) = u at *
      generalize (a - r) % (t - 1) = v at *
      omega
theorem rnd_ok (T : TOk t) (a0 : 0 ≤ a) (a1 : a < t) (b0 : 0 ≤ b) (b1 : b < t) (n : a ≠ b) : 0 ≤ rnd t a b ∧ rnd t a b < t - 1 ∧ opp t a (rnd t a b) = b ∧ opp t b (rnd t a b) = a := by
  have := T.two
  have := T.even
  by_cases e1 : a = t - 1
  · have e : rnd t a b = b := by unfold rnd; rw [if_pos e1]
    rw [e]
    unfold opp
    rw [if_pos e1, if_neg (show ¬ b = t - 1 by omega), if_pos rfl]
    omega
  · by_cases e2 : b = t - 1
    · have e : rnd t a b = a := by unfold rnd; rw [if_neg e1, if_pos e2]
      rw [e]
      unfold opp
      rw [if_neg e1, if_pos rfl, if_pos e2]
      omega
    · have e : rnd t a b = (a + b) * (t / 2) % (t - 1) := by unfold rnd; rw [if_neg e1, if_neg e2]
      obtain ⟨j, hj⟩ := half_turn2 (h := t / 2) (m := t - 1) (s := a + b) (by omega) e
      have x0 : 0 ≤ rnd t a b := by rw [e]; exact Int.emod_nonneg _ (by omega)
      have x1 : rnd t a b < t - 1 := by rw [e]; exact Int.emod_lt_of_pos _ (by omega)
      generalize rnd t a b = x at *
      have j1 : j = 0 ∨ j = 1 ∨ j = -1 := by
        have : -2 < j := by
          apply Int.not_le.mp
          intro z
          have := Int.mul_le_mul_of_nonneg_left (c := t - 1) z (by omega)
          omega
        have : j < 2 := by
          apply Int.not_le.mp
          intro z
          have := Int.mul_le_mul_of_nonneg_left (c := t - 1) z (by omega)
          omega
        omega
      refine ⟨x0, x1, ?_, ?_⟩
      · unfold opp
        rw [if_neg e1]
        rcases j1 with rfl | rfl | rfl
        · rw [if_neg (by omega)]; exact emod_of (k := 0) (by omega) b0 (by omega)
        · rw [if_neg (by omega)]; exact emod_of (k := 1) (by omega) b0 (by omega)
        · rw [if_neg (by omega)]; exact emod_of (k := -1) (by omega) b0 (by omega)
      · unfold opp
        rw [if_neg e2]
        rcases j1 with rfl | rfl | rfl
        · rw [if_neg (by omega)]; exact emod_of (k := 0) (by omega) a0 (by omega)
        · rw [if_neg (by omega)]; exact emod_of (k := 1) (by omega) a0 (by omega)
        · rw [if_neg (by omega)]; exact emod_of (k := -1) (by omega) a0 (by omega)
end
end EM
namespace EM
open PySem PySem.Spec PyProof.Rows L2
/-! a def of the text by its name, its promise, its call -/
structure DefAt (K : PySem.W.Frag) (mg : Str → Option Value) (x : Str) (st : Stmt) (ps : List Str) : Prop where
  ex : ∃ (f : Addr) (fd : FuncData), Fun K x x st f fd ∧ Binds K fd ps [] ∧ mg x = some (.ref f)
structure Fn (P : Program) (w : World) (K : PySem.W.Frag) (mg : Str → Option Value) (base : Heap) (x : Str) (ps : List Str) (k : Nat) (sp : Sp) : Prop where
  ex : ∃ (f : Addr) (fd : FuncData), FnOk P w K mg base CX0 k f fd ps sp ∧ mg x = some (.ref f) ∧ PySem.W.keepIn K (.ref f) = true ∧ Binds K fd ps []
theorem DefAt.fn {P : Program} {w : World} {K : PySem.W.Frag} {mg : Str → Option Value} {base : Heap} {x : Str} {st : Stmt} {ps N : List Str} {k : Nat} {sp : Sp} (d : DefAt K mg x st ps) (S : FnScope N ps (defScope st)) (len : ∀ vs H Q E, sp vs H Q E → vs.length = ps.length)
    (body : ∀ (f : Addr) (cdv : Value) (A : Around) (outer : List Env) (s : Shared) (H : Hp) (vs : List V) (Q : VK) (E : XK), Room k (A.deeper (envOfC x (defScope st) s.heap.objs.size f cdv)) → sp vs H Q E →
      ∃ t, PSs (cxOf CX0 P w K mg base N x (defScope st) f cdv A outer s H E).nox (defBody st) t ∧ t { nx := fun _ H' => Q .non H', rt := Q } (start N vs) H) : Fn P w K mg base x ps (k + 1) sp := by
  obtain ⟨f, fd, F, b, m⟩ := d.ex
  exact ⟨f, fd, F.ok S len fun cdv A outer s H vs Q E hr h => body f cdv A outer s H vs Q E hr h, m, F.kp, b⟩
section
variable {X : Cx} {x : Str} {ps : List Str} {k : Nat} {sp : Sp} {e : Expr} {es : List Expr} {t : TA} {p pos : Pos}
theorem pe_f (F : Fn X.prog X.w X.K X.mg X.base x ps k sp) {j : Nat} (hr : Room j X.A) (hj : k ≤ j) (hg : Gl X x) (ha : PA X (e :: es) t) (hdb : (x == ("__debug__" : Str)) = false := by decide)
    (he : starEach (e :: es) X.env = (false, eval e X.env) :: starEach es X.env := by rfl) (hpl : (backTo pos (starEach es X.env)).any (·.1) = false := by rfl) :
    PE X (.Call (.Name x p) (e :: es) [] pos) (tCall sp [] E0 t) := by
  obtain ⟨f, fd, G, m, kp, b⟩ := F.ex
  exact pe_call G (hr.mono hj) hg m kp b .nil pass0 ha hdb he hpl
end
theorem same_upd {H : Hp} {p : Addr} {o : HO} (h : H p = none) : Same H (upd H p o) := fun b u e => by
  rw [upd_ne (ne_of_none e h)]
  exact e
theorem itT {c A B : Prop} [Decidable c] (h : c) (a : A) : if decide c = true then A else B := by
  rw [decide_eq_true h, if_pos rfl]
  exact a
theorem itF {c A B : Prop} [Decidable c] (h : ¬ c) (b : B) : if decide c = true then A else B := by
  rw [decide_eq_false h, if_neg Bool.false_ne_true]
  exact b
theorem itNb {b : Bool} {A B : Prop} (h : b = true) (x : B) : if (!b) = true then A else B := by
  subst h
  exact x
/-! numbers of any size in * -/
def CMulH (i j : Int) : Prop := i.natAbs.log2 + j.natAbs.log2 < 100000000
theorem bits_le (z : Int) : Builtin.Int.intBits z ≤ z.natAbs.log2 + 1 := by
  unfold Builtin.Int.intBits
  by_cases h : z.natAbs = 0 <;> simp_all <;> omega
theorem CMulH.fits {i j : Int} (h : CMulH i j) : IntMulOk i j := by
  unfold IntMulOk
  intro hz
  rw [Bool.and_eq_true] at hz
  have big := hz.2
  unfold Builtin.Int.intTooBig at big
  have big := of_decide_eq_true big
  have line : bitsLine = 134217728 := by decide
  have hi := bits_le i
  have hj := bits_le j
  unfold CMulH at h
  omega
theorem op_mulH {X : Cx} : OpR X (binaryOp .Mult) (rI CMulH fun i j => .int (i * j)) := opI fun _ _ _ _ _ _ _ hc q => mul_int q (CMulH.fits hc)
/-- what the walk leans on of the names that the top leaves alone -/
structure Names (mg : Str → Option Value) : Prop where
  isinst : mg "isinstance" = none
  int : mg "int" = none
  bool : mg "bool" = none
  range : mg "range" = none
  len : mg "len" = none
  all : mg "all" = none
  any : mg "any" = none
  min : mg "min" = none
  max : mg "max" = none
/-! written tuples of numbers that are picked from -/
def posB (b : Int) : V → Bool
  | .int i => decide (0 < i) && decide (i ≤ b)
  | _ => false
theorem pick {b : Int} {xs : List V} (h : xs.all (posB b) = true) {j : Nat} (hj : j < xs.length) : ∃ p : Int, xs[j]? = some (.int p) ∧ 0 < p ∧ p ≤ b := by
  have h1 := List.all_eq_true.mp h _ (List.getElem_mem hj)
  cases e : xs[j] with
  | int p =>
    rw [e] at h1
    simp only [posB, Bool.and_eq_true, decide_eq_true_eq] at h1
    exact ⟨p, by rw [List.getElem?_eq_getElem hj, e], h1.1, h1.2⟩
  | _ =>
    rw [e] at h1
    exact absurd h1 (by simp [posB])
theorem pickI {b i : Int} {xs : List V} (h : xs.all (posB b) = true) (i0 : 0 ≤ i) (i1 : i < (xs.length : Int)) : ∃ p : Int, atI xs i = some (.int p) ∧ 0 < p ∧ p ≤ b := by
  obtain ⟨p, e, p0, p1⟩ := pick h (j := i.toNat) (by omega)
  refine ⟨p, ?_, p0, p1⟩
  have := atI_nat e
  rw [show ((i.toNat : Nat) : Int) = i by omega] at this
  exact this
abbrev bits20 (c : Int) : Prop := c.natAbs.log2 ≤ 1048576
theorem log2_lt_self (n : Nat) : n.log2 ≤ n := by
  rcases Nat.eq_zero_or_pos n with rfl | h
  · decide
  · have := Nat.log2_self_le (show n ≠ 0 by omega)
    have : n.log2 < 2 ^ n.log2 := Nat.lt_two_pow_self
    omega
theorem take_snoc {α : Type} {xs : List α} {i : Nat} {x : α} (h : xs[i]? = some x) : xs.take (i + 1) = xs.take i ++ [x] := by
  rw [List.take_add_one, h]
  rfl
theorem all_rep (n : Nat) : (List.replicate n true).all id = true := by
  rw [List.all_eq_true]
  intro x hx
  rw [(List.mem_replicate.mp hx).2]
  rfl
theorem dec_int {x y : Int} : decide (V.int x = V.int y) = decide (x = y) := decide_eq_decide.mpr ⟨V.int.inj, congrArg V.int⟩
end EM
namespace EM
open PySem PySem.Spec PyProof.Rows L2
/-! max(o.values()) over a dict whose keys are tuples, its values whole numbers -/
def tMaxT (td : TE) : TE := fun σ H Q => td σ H fun x G => ∃ (a : Addr) (kvs : List (List Key × V)) (is : List Int), x = V.ref a ∧ G a = some (.dT kvs) ∧ kvs.map (·.2) = is.map V.int ∧ is ≠ [] ∧ ∀ m, m ∈ is → (∀ j ∈ is, j ≤ m) → Q (.int m) G
theorem vals_at {H : Hp} {kvs : List (List Key × V)} {xs : List (List Key × Addr × Value)} (r : KT H kvs xs) : ∀ {i : Nat} {y : List Key × Addr × Value}, xs[i]? = some y → ∃ z, kvs[i]? = some z ∧ RelV z.2 y.2.2 := by
  induction r with
  | nil =>
    intro i y e
    exact absurd e (by simp)
  | cons hd tl ih =>
    intro i y e
    rcases i with _ | i
    · cases (Option.some.inj (show some _ = some y from e))
      exact ⟨_, rfl, hd.2.2⟩
    · obtain ⟨z, z1, z2⟩ := ih (i := i) (y := y) (by simpa using e)
      exact ⟨z, by simpa using z1, z2⟩
theorem kt_len {H : Hp} {kvs : List (List Key × V)} {xs : List (List Key × Addr × Value)} (r : KT H kvs xs) : kvs.length = xs.length := Paired.length r
section
variable {X : Cx} {o : Expr} {p pos apos mpos : Pos} {td : TE}
theorem pe_maxT (calm : X.calm = true) (gl : Gl X "max") (free : X.mg "max" = none) (ho : PE X o td) (hb : attributeBase o "values" X.env (eval o X.env) = eval o X.env := by rfl) (hl : (apos.endLine == mpos.line) = true := by rfl)
    (hse : starEach [Expr.Call (.Attribute o "values" apos) [] [] mpos] X.env = [(false, eval (Expr.Call (.Attribute o "values" apos) [] [] mpos) X.env)] := by rfl) :
    PE X (.Call (.Name "max" p) [.Call (.Attribute o "values" apos) [] [] mpos] [] pos) (tMaxT td) := by
  refine ⟨fun pins s σ H Q I hq => ?_⟩
  refine wpAny_Call_Name_kw (ld_blt I gl free (u := .builtin "max") boot_max ?_ (by decide) (by decide))
  rw [hse]
  refine PySem.callWith_builtin1 (wpAny_Call_method0_late hb hl (thn (ho.run pins s σ H _ I hq) fun v s1 ⟨x, G, I1, rv, a, kvs, is, ex, ga, ev, ne, q⟩ => ?_))
  subst ex
  cases (show v = Value.ref a from rv)
  obtain ⟨_, sys, xs, kt, dof⟩ := dt_of I1.hok ga
  obtain ⟨es, ep, raw, size, items⟩ := Heap.DictOfH.raw dof
  have raw0 := raw
  obtain ⟨ob, hob, hex, hdata⟩ := raw0
  refine ⟨"dict", "dict.values", F.plainAttrs_dict, F.slot_dict_values, F.type_dict_values, ⟨ob, hob, hex.1⟩, fun b e => ?_, Calls.callWith_builtin rfl (PySem.evalArgs_none ?_)⟩
  · cases e
    exact ⟨ob, hob, hex.2.1⟩
  refine call_meetsIn F.slot_dict_values ⟨ob, hob, hex.1⟩ F.entry_dict_values (F.args_dict_values_1 _) (meets_dict_values_raw a sys) ⟨⟨es, ep, raw⟩, ?_⟩
  have keep : ∀ b u, s1.heap.get? b = some u → (s1.heap.push { cls := .type "dict_values", data := .fields #[.ref a] }).get? b = some u := fun b u e => Heap.get?_push_of_some _ e
  have raw1 : (s1.heap.push { cls := .type "dict_values", data := .fields #[.ref a] }).DictRaw a es ep := raw.at fun u e => keep a u e
  have len : es.size = is.length := by
    have e1 := congrArg List.length ev
    rw [List.length_map, List.length_map] at e1
    rw [size, ← kt_len kt, e1]
  have some1 : 0 < es.size := by
    rw [len]
    exact List.length_pos_iff.mpr ne
  have hval : ∀ (i : Nat) (v : Value), (∃ hi : i < es.size, v = es[i].val) → ∃ t, v = Value.int (is.getD i 0) t := fun i v ⟨hi, hv⟩ => by
    obtain ⟨y, hy, _, hy2, _⟩ := items i hi
    obtain ⟨z, hz, hz2⟩ := vals_at kt hy
    have e1 : (kvs.map (·.2))[i]? = some z.2 := by rw [List.getElem?_map, hz]; rfl
    rw [ev, List.getElem?_map] at e1
    obtain ⟨j, hj, e2⟩ := Option.map_eq_some_iff.mp e1
    rw [← e2] at hz2
    obtain ⟨t, e3⟩ := hz2
    refine ⟨t, ?_⟩
    rw [hv, hy2, e3, List.getD_eq_getElem?_getD, hj]
    rfl
  refine call_max_walk (wpAny_pyIter_values_raw (v := s1.heap.objs.size) (d := a) ⟨_, Heap.get?_push_size _ rfl, rfl, rfl⟩ raw1 ?_)
  have alt : a < s1.heap.objs.size := Heap.lt_size hob
  have grown : (s1.heap.push { cls := .type "dict_values", data := .fields #[.ref a] }).objs.size = s1.heap.objs.size + 1 := Heap.size_push _ _
  refine ⟨_, _, _, _, _, _, _, rfl, Walks.rawValues (A := X.A.in1) (I.ok.hd calm) (s1.heap.push { cls := .type "dict_values", data := .fields #[.ref a] }).objs.size a (fun z => absurd alt (by rw [z, grown]; exact Nat.not_lt.mpr (Nat.le_succ _))) es ep,
    ⟨⟨_, Heap.get?_push_size _ rfl, rfl, rfl⟩, raw1.at fun u e => Heap.get?_push_of_some _ e⟩, fun b hb => ?_, some1, CmpOf.ints_gt (fun i => is.getD i 0) hval, fun v h' tk hP hk => ?_⟩
  · show b < ((s1.heap.push _).push _).objs.size
    rw [Heap.size_push, Heap.size_push]
    rw [grown] at hb
    rcases List.mem_cons.mp hb with e | hb
    · rw [e]
      exact Nat.lt_succ_self _
    · rw [show b = a from List.mem_singleton.mp hb]
      exact Nat.lt_succ_of_lt (Nat.lt_succ_of_lt alt)
  · obtain ⟨t, rfl⟩ := hval _ v hP
    obtain ⟨b1, b2⟩ := argBest_gt (fun i => is.getD i 0) (es.size - 1)
    refine ⟨.int _, G, I1.kept (t' := tk) fun b u e => hk b u (fun hm => ?_) (Heap.get?_push_of_some _ (keep b u e)), ⟨t, rfl⟩, q _ ?_ fun j hj => ?_⟩
    · have e1 : b = (s1.heap.push { cls := .type "dict_values", data := .fields #[.ref a] }).objs.size := List.mem_singleton.mp hm
      have e2 := Heap.lt_size e
      rw [e1, grown] at e2
      exact absurd e2 (Nat.not_lt.mpr (Nat.le_succ _))
    · have hlt : argBest (fun i j => decide (is.getD i 0 > is.getD j 0)) (es.size - 1) < is.length := by omega
      rw [List.getD_eq_getElem?_getD, List.getElem?_eq_getElem hlt]
      exact List.getElem_mem hlt
    · obtain ⟨i, hi, e⟩ := List.mem_iff_getElem.mp hj
      have e2 : is.getD i 0 = j := by
        rw [List.getD_eq_getElem?_getD, List.getElem?_eq_getElem hi, ← e]
        rfl
      rw [← e2]
      exact b2 i (by omega)
end
end EM
namespace EM
open PySem PySem.Spec PyProof.Rows L2
/-! ### plans of pairs: what is counted -/
/-- whether a team is in a pair -/
def hasB (c : Int) (p : Int × Int) : Bool := inV (.int c) [.int p.1, .int p.2]
theorem hasB_iff {c : Int} {p : Int × Int} : hasB c p = true ↔ p.1 = c ∨ p.2 = c := by
  unfold hasB inV
  simp [eqV, List.any_cons]
def cntOf (row : List (Int × Int)) (c : Int) : Nat := (row.filter (hasB c)).length
def bothB (a b : Int) (p : Int × Int) : Bool := hasB a p && hasB b p
def oftenOf (pl : List (List (Int × Int))) (a b : Int) : Nat := (pl.map fun row => (row.filter (bothB a b)).length).sum
/-- two teams of a pair, the lesser count first, as a key -/
def keyOf (p : Int × Int) : List Key := [.inl (if p.2 < p.1 then p.2 else p.1), .inl (if p.2 > p.1 then p.2 else p.1)]
def keysOf (pl : List (List (Int × Int))) : List (List Key) := pl.flatten.map keyOf
theorem inl_eq {x y : Int} (h : (Sum.inl x : Key) = Sum.inl y) : x = y := Sum.inl.inj h
theorem key_lo {a b : Int} (h : a < b) : keyOf (a, b) = [.inl a, .inl b] := by
  unfold keyOf
  rw [if_neg (by show ¬ b < a; omega), if_pos (by show b > a; omega)]
theorem key_hi {a b : Int} (h : a < b) : keyOf (b, a) = [.inl a, .inl b] := by
  unfold keyOf
  rw [if_pos (by show a < b; omega), if_neg (by show ¬ a > b; omega)]
theorem key_eq {p q : Int × Int} (h : keyOf p = keyOf q) : (p.1 = q.1 ∧ p.2 = q.2) ∨ (p.1 = q.2 ∧ p.2 = q.1) := by
  unfold keyOf at h
  have h1 := inl_eq (List.cons.inj h).1
  have h2 := inl_eq (List.cons.inj (List.cons.inj h).2).1
  by_cases a : p.2 < p.1 <;> by_cases b : q.2 < q.1
  · rw [if_pos a, if_pos b] at h1
    rw [if_neg (by omega), if_neg (by omega)] at h2
    exact .inl ⟨h2, h1⟩
  · rw [if_pos a, if_neg b] at h1
    by_cases c : q.2 > q.1
    · rw [if_neg (by omega), if_pos c] at h2
      exact .inr ⟨h2, h1⟩
    · rw [if_neg (by omega), if_neg c] at h2
      omega
  · rw [if_neg a, if_pos b] at h1
    by_cases c : p.2 > p.1
    · rw [if_pos c, if_neg (by omega)] at h2
      exact .inr ⟨h1, h2⟩
    · rw [if_neg c, if_neg (by omega)] at h2
      omega
  · rw [if_neg a, if_neg b] at h1
    by_cases c : p.2 > p.1 <;> by_cases e : q.2 > q.1
    · rw [if_pos c, if_pos e] at h2
      exact .inl ⟨h1, h2⟩
    · rw [if_pos c, if_neg e] at h2
      omega
    · rw [if_neg c, if_pos e] at h2
      omega
    · rw [if_neg c, if_neg e] at h2
      omega
/-! ### a list with its first ones kept: the table's keys -/
section
variable {κ : Type} [DecidableEq κ]
def firsts : List κ → List κ → List κ
  | acc, [] => acc
  | acc, k :: r => firsts (if k ∈ acc then acc else acc ++ [k]) r
def heads (ks : List κ) : List κ := firsts [] ks
theorem firsts_app (acc ks : List κ) (k : κ) : firsts acc (ks ++ [k]) = if k ∈ firsts acc ks then firsts acc ks else firsts acc ks ++ [k] := by
  induction ks generalizing acc with
  | nil => rfl
  | cons x r ih => exact ih _
theorem heads_app (ks : List κ) (k : κ) : heads (ks ++ [k]) = if k ∈ heads ks then heads ks else heads ks ++ [k] := firsts_app [] ks k
theorem mem_firsts {acc ks : List κ} {x : κ} : x ∈ firsts acc ks ↔ x ∈ acc ∨ x ∈ ks := by
  induction ks generalizing acc with
  | nil => simp [firsts]
  | cons k r ih =>
    show x ∈ firsts (if k ∈ acc then acc else acc ++ [k]) r ↔ _
    rw [ih]
    by_cases h : k ∈ acc
    · rw [if_pos h, List.mem_cons]
      constructor
      · rintro (h1 | h1)
        · exact .inl h1
        · exact .inr (.inr h1)
      · rintro (h1 | h1 | h1)
        · exact .inl h1
        · exact .inl (h1 ▸ h)
        · exact .inr h1
    · rw [if_neg h, List.mem_append, List.mem_singleton, List.mem_cons]
      constructor
      · rintro ((h1 | h1) | h1)
        · exact .inl h1
        · exact .inr (.inl h1)
        · exact .inr (.inr h1)
      · rintro (h1 | h1 | h1)
        · exact .inl (.inl h1)
        · exact .inl (.inr h1)
        · exact .inr h1
theorem mem_heads {ks : List κ} {x : κ} : x ∈ heads ks ↔ x ∈ ks := by
  unfold heads
  rw [mem_firsts]
  simp
theorem firsts_nodup {acc ks : List κ} (h : acc.Nodup) : (firsts acc ks).Nodup := by
  induction ks generalizing acc with
  | nil => exact h
  | cons k r ih =>
    refine ih ?_
    by_cases m : k ∈ acc
    · rw [if_pos m]
      exact h
    · rw [if_neg m, List.nodup_append]
      refine ⟨h, by simp, fun a ha b hb e => m ?_⟩
      rw [← List.mem_singleton.mp hb, ← e]
      exact ha
theorem heads_nodup (ks : List κ) : (heads ks).Nodup := firsts_nodup List.nodup_nil
theorem heads_len (ks : List κ) : (heads ks).length ≤ ks.length := by
  have : ∀ acc : List κ, (firsts acc ks).length ≤ acc.length + ks.length := by
    induction ks with
    | nil => intro acc; exact Nat.le_refl _
    | cons k r ih =>
      intro acc
      refine Nat.le_trans (ih _) ?_
      rw [List.length_cons]
      by_cases m : k ∈ acc
      · rw [if_pos m]
        omega
      · rw [if_neg m, List.length_append, List.length_singleton]
        omega
  have := this []
  simpa [heads] using this
theorem sub_len : ∀ {l m : List κ}, l.Nodup → (∀ x ∈ l, x ∈ m) → l.length ≤ m.length
  | [], m, _, _ => Nat.zero_le _
  | x :: l, m, nd, h => by
    have nd := List.nodup_cons.mp nd
    have hx : x ∈ m := h x List.mem_cons_self
    have := sub_len (l := l) (m := m.erase x) nd.2 fun y hy => by
      have ne : y ≠ x := fun e => nd.1 (e ▸ hy)
      exact (List.mem_erase_of_ne ne).mpr (h y (List.mem_cons_of_mem _ hy))
    rw [List.length_erase_of_mem hx] at this
    have := List.length_pos_of_mem hx
    rw [List.length_cons]
    omega
theorem full_of_len {l m : List κ} (nd : l.Nodup) (h : ∀ x ∈ l, x ∈ m) (le : m.length ≤ l.length) : ∀ x ∈ m, x ∈ l := fun x hx => by
  by_cases e : x ∈ l
  · exact e
  · have := sub_len (l := x :: l) (m := m) (List.nodup_cons.mpr ⟨e, nd⟩) fun y hy => by
      rcases List.mem_cons.mp hy with rfl | hy
      · exact hx
      · exact h y hy
    rw [List.length_cons] at this
    omega
/-! the table that counts -/
def cntK (ks : List κ) (k : κ) : Nat := ks.count k
theorem cntK_nil (k : κ) : cntK [] k = 0 := rfl
theorem cntK_cons (x : κ) (ks : List κ) (k : κ) : cntK (x :: ks) k = cntK ks k + if x = k then 1 else 0 := by
  unfold cntK
  rw [List.count_cons]
  by_cases e : x = k
  · rw [if_pos e, if_pos (by simpa using e)]
  · rw [if_neg e, if_neg (by simpa using e)]
theorem cntK_app (a b : List κ) (k : κ) : cntK (a ++ b) k = cntK a k + cntK b k := List.count_append
theorem cntK_pos {ks : List κ} {k : κ} (h : 0 < cntK ks k) : k ∈ ks := List.count_pos_iff.mp h
theorem cntK_mem {ks : List κ} {k : κ} (h : k ∈ ks) : 0 < cntK ks k := List.count_pos_iff.mpr h
theorem cntK_none {ks : List κ} {k : κ} (h : k ∉ ks) : cntK ks k = 0 := List.count_eq_zero.mpr h
def tal (ks : List κ) : List (κ × V) := (heads ks).map fun k => (k, V.int ((cntK ks k : Nat) : Int))
theorem map_val {f : κ → V} {k : κ} : ∀ {l : List κ}, valV (l.map fun x => (x, f x)) k = if k ∈ l then some (f k) else none
  | [] => rfl
  | x :: l => by
    rw [List.map_cons]
    by_cases e : x = k
    · rw [valV_pos (p := (x, f x)) e, if_pos (by rw [e]; exact List.mem_cons_self), e]
    · have ih := map_val (f := f) (k := k) (l := l)
      rw [valV_neg (p := (x, f x)) e, ih]
      by_cases m : k ∈ l
      · rw [if_pos m, if_pos (List.mem_cons_of_mem _ m)]
      · rw [if_neg m, if_neg]
        intro h
        rcases List.mem_cons.mp h with h | h
        · exact e h.symm
        · exact m h
theorem tal_val (ks : List κ) (k : κ) : ((valV (tal ks) k).getD (.int 0)) = V.int ((cntK ks k : Nat) : Int) := by
  unfold tal
  rw [map_val]
  by_cases m : k ∈ heads ks
  · rw [if_pos m]
    rfl
  · rw [if_neg m]
    rw [mem_heads] at m
    rw [cntK_none m]
    rfl
theorem tal_put (ks : List κ) (k : κ) : putK (tal ks) k (.int (((cntK ks k : Nat) : Int) + 1)) = tal (ks ++ [k]) := by
  have ck : cntK (ks ++ [k]) k = cntK ks k + 1 := by rw [cntK_app, cntK_cons, if_pos rfl]; rfl
  have cx : ∀ x, x ≠ k → cntK (ks ++ [k]) x = cntK ks x := fun x hx => by
    rw [cntK_app, cntK_cons, if_neg (fun e => hx e.symm)]
    rfl
  unfold putK
  rw [valV_any]
  unfold tal
  rw [map_val, heads_app]
  by_cases m : k ∈ heads ks
  · rw [if_pos m, if_pos m, Option.isSome_some, if_pos rfl, List.map_map]
    refine List.map_congr_left fun x hx => ?_
    show (if x = k then (x, V.int (((cntK ks k : Nat) : Int) + 1)) else (x, V.int ((cntK ks x : Nat) : Int))) = _
    by_cases e : x = k
    · rw [if_pos e, e, ck]
      rfl
    · rw [if_neg e, cx x e]
  · rw [if_neg m, if_neg m, if_neg (by simp), List.map_append]
    have mk : k ∉ ks := fun h => m (mem_heads.mpr h)
    congr 1
    · refine List.map_congr_left fun x hx => ?_
      have : x ≠ k := fun e => m (e ▸ hx)
      rw [cx x this]
    · show [(k, V.int (((cntK ks k : Nat) : Int) + 1))] = [(k, V.int ((cntK (ks ++ [k]) k : Nat) : Int))]
      rw [ck]
      rfl
end
/-! ### all pairs of so many teams -/
def allKeys : Nat → List (List Key)
  | 0 => []
  | n + 1 => allKeys n ++ (List.range n).map fun (a : Nat) => [.inl (a : Int), .inl (n : Int)]
theorem allKeys_len (n : Nat) : 2 * (allKeys n).length = n * (n - 1) := by
  induction n with
  | zero => rfl
  | succ n ih =>
    rw [allKeys, List.length_append, List.length_map, List.length_range, Nat.mul_add, ih]
    rcases n with _ | n
    · rfl
    · simp only [Nat.add_sub_cancel]
      rw [Nat.mul_comm (n + 1 + 1) (n + 1), Nat.mul_comm 2 (n + 1), ← Nat.mul_add]
theorem mem_allKeys {n : Nat} {k : List Key} : k ∈ allKeys n ↔ ∃ a b : Nat, a < b ∧ b < n ∧ k = [.inl (a : Int), .inl (b : Int)] := by
  induction n with
  | zero => simp [allKeys]
  | succ n ih =>
    rw [allKeys, List.mem_append, ih, List.mem_map]
    constructor
    · rintro (⟨a, b, h1, h2, rfl⟩ | ⟨a, h, rfl⟩)
      · exact ⟨a, b, h1, by omega, rfl⟩
      · exact ⟨a, n, List.mem_range.mp h, by omega, rfl⟩
    · rintro ⟨a, b, h1, h2, rfl⟩
      by_cases e : b < n
      · exact .inl ⟨a, b, h1, e, rfl⟩
      · have : b = n := by omega
        subst this
        exact .inr ⟨a, List.mem_range.mpr h1, rfl⟩
theorem allKeys_nodup (n : Nat) : (allKeys n).Nodup := by
  induction n with
  | zero => exact List.nodup_nil
  | succ n ih =>
    rw [allKeys, List.nodup_append]
    refine ⟨ih, ?_, ?_⟩
    · refine List.Pairwise.map _ (fun (a b : Nat) (h : a ≠ b) => ?_) (List.nodup_range (n := n))
      intro e
      have := inl_eq (List.cons.inj e).1
      omega
    · intro x hx y hy e
      subst e
      obtain ⟨a, b, h1, h2, rfl⟩ := mem_allKeys.mp hx
      obtain ⟨c, h3, h4⟩ := List.mem_map.mp hy
      have := inl_eq (List.cons.inj (List.cons.inj h4).2).1
      omega
end EM
namespace EM
open PySem PySem.Spec PyProof.Rows L2
/-- each pair is of two unlike teams among so many -/
def Valid (t : Int) (pl : List (List (Int × Int))) : Prop := ∀ row ∈ pl, ∀ p ∈ row, 0 ≤ p.1 ∧ p.1 < t ∧ 0 ≤ p.2 ∧ p.2 < t ∧ p.1 ≠ p.2
/-- some team is not just once in the row -/
def rowBad (t : Int) (row : List (Int × Int)) : Bool := (List.range t.toNat).any fun (c : Nat) => !decide (V.int ((cntOf row (c : Int) : Nat) : Int) = V.int 1)
def goodB (t : Int) (pl : List (List (Int × Int))) : Bool :=
  (pl.all fun row => !rowBad t row) && (decide (((heads (keysOf pl)).length : Int) = t * (t - 1) / 2) && decide (∀ k ∈ keysOf pl, cntK (keysOf pl) k = 1))
structure GoodP (t : Int) (pl : List (List (Int × Int))) : Prop where
  once : ∀ row ∈ pl, ∀ c : Int, 0 ≤ c → c < t → cntOf row c = 1
  meet : ∀ a b : Int, 0 ≤ a → a < b → b < t → oftenOf pl a b = 1
theorem rowBad_iff {t : Int} {row : List (Int × Int)} : rowBad t row = false ↔ ∀ c : Int, 0 ≤ c → c < t → cntOf row c = 1 := by
  unfold rowBad
  rw [List.any_eq_false]
  constructor
  · intro h c c0 c1
    have := h c.toNat (List.mem_range.mpr (by omega))
    rw [show ((c.toNat : Nat) : Int) = c by omega] at this
    have := V.int.inj (of_decide_eq_true (p := V.int ((cntOf row c : Nat) : Int) = V.int 1) (by simpa using this))
    omega
  · intro h c hc
    have := h (c : Int) (by omega) (by have := List.mem_range.mp hc; omega)
    rw [this]
    simp
/-- how often two teams are together is how often their key is told -/
theorem both_key {a b : Int} (ab : a < b) {p : Int × Int} (ne : p.1 ≠ p.2) : bothB a b p = decide (keyOf p = [.inl a, .inl b]) := by
  have : bothB a b p = true ↔ keyOf p = [.inl a, .inl b] := by
    unfold bothB
    rw [Bool.and_eq_true, hasB_iff, hasB_iff, ← key_lo ab]
    constructor
    · rintro ⟨h1 | h1, h2 | h2⟩
      · omega
      · rw [show p = (a, b) from Prod.ext h1 h2]
      · rw [show p = (b, a) from Prod.ext h2 h1, key_hi ab, key_lo ab]
      · omega
    · intro h
      rcases key_eq h with ⟨h1, h2⟩ | ⟨h1, h2⟩
      · exact ⟨.inl h1, .inr h2⟩
      · exact ⟨.inr h2, .inl h1⟩
  cases h : bothB a b p with
  | true => rw [decide_eq_true (this.mp h)]
  | false =>
    rw [decide_eq_false]
    intro e
    rw [this.mpr e] at h
    cases h
theorem count_filter_key {l : List (Int × Int)} (k : List Key) : cntK (l.map keyOf) k = (l.filter fun p => decide (keyOf p = k)).length := by
  induction l with
  | nil => rfl
  | cons p r ih =>
    rw [List.map_cons, cntK_cons, ih, List.filter_cons]
    by_cases e : keyOf p = k
    · rw [if_pos e, if_pos (decide_eq_true e)]
      rfl
    · rw [if_neg e, if_neg (by simpa using e)]
      rfl
theorem often_count {t : Int} {pl : List (List (Int × Int))} (hv : Valid t pl) {a b : Int} (ab : a < b) : oftenOf pl a b = cntK (keysOf pl) [.inl a, .inl b] := by
  unfold oftenOf keysOf
  induction pl with
  | nil => rfl
  | cons row r ih =>
    have hr : Valid t r := fun row' h => hv row' (List.mem_cons_of_mem _ h)
    rw [List.map_cons, List.sum_cons, ih hr, List.flatten_cons, List.map_append, cntK_app, count_filter_key (l := row)]
    congr 2
    refine List.filter_congr fun p hp => ?_
    have := hv row List.mem_cons_self p hp
    exact both_key ab this.2.2.2.2
theorem key_all {t : Int} {pl : List (List (Int × Int))} (hv : Valid t pl) {k : List Key} (h : k ∈ keysOf pl) : k ∈ allKeys t.toNat := by
  unfold keysOf at h
  obtain ⟨p, hp, rfl⟩ := List.mem_map.mp h
  obtain ⟨row, hr, hp⟩ := List.mem_flatten.mp hp
  obtain ⟨a0, a1, b0, b1, ne⟩ := hv row hr p hp
  refine mem_allKeys.mpr ?_
  by_cases h : p.1 < p.2
  · refine ⟨p.1.toNat, p.2.toNat, by omega, by omega, ?_⟩
    rw [show p = (p.1, p.2) from rfl, key_lo h, show ((p.1.toNat : Nat) : Int) = p.1 by omega, show ((p.2.toNat : Nat) : Int) = p.2 by omega]
  · have h : p.2 < p.1 := by omega
    refine ⟨p.2.toNat, p.1.toNat, by omega, by omega, ?_⟩
    rw [show p = (p.1, p.2) from rfl, key_hi h, show ((p.1.toNat : Nat) : Int) = p.1 by omega, show ((p.2.toNat : Nat) : Int) = p.2 by omega]
theorem all_len {t : Int} (t2 : 2 ≤ t) : (((allKeys t.toNat).length : Nat) : Int) = t * (t - 1) / 2 := by
  have h := allKeys_len t.toNat
  have h2 : 2 * (((allKeys t.toNat).length : Nat) : Int) = t * (t - 1) := by
    have := congrArg (fun n : Nat => (n : Int)) h
    simp only [Int.natCast_mul] at this
    rw [show ((t.toNat - 1 : Nat) : Int) = t - 1 by omega, show ((t.toNat : Nat) : Int) = t by omega] at this
    exact this
  omega
/-- the law's own way of asking is what the document asks -/
theorem goodB_iff {t : Int} {pl : List (List (Int × Int))} (t2 : 2 ≤ t) (hv : Valid t pl) : goodB t pl = true ↔ GoodP t pl := by
  unfold goodB
  rw [Bool.and_eq_true, Bool.and_eq_true, decide_eq_true_eq, decide_eq_true_eq, List.all_eq_true]
  have heads_sub : ∀ x ∈ heads (keysOf pl), x ∈ allKeys t.toNat := fun x hx => key_all hv (mem_heads.mp hx)
  have hall := all_len t2
  constructor
  · rintro ⟨h1, h2, h3⟩
    refine ⟨fun row hr => rowBad_iff.mp (by simpa using h1 row hr), fun a b a0 ab b1 => ?_⟩
    rw [often_count hv ab]
    refine h3 _ (mem_heads.mp (full_of_len (heads_nodup _) heads_sub (by omega) _ (mem_allKeys.mpr ⟨a.toNat, b.toNat, by omega, by omega, ?_⟩)))
    rw [show ((a.toNat : Nat) : Int) = a by omega, show ((b.toNat : Nat) : Int) = b by omega]
  · rintro ⟨h1, h2⟩
    have h3 : ∀ k ∈ allKeys t.toNat, cntK (keysOf pl) k = 1 := fun k hk => by
      obtain ⟨a, b, h3, h4, rfl⟩ := mem_allKeys.mp hk
      rw [← often_count hv (by omega)]
      exact h2 _ _ (by omega) (by omega) (by omega)
    refine ⟨fun row hr => by simpa using rowBad_iff.mpr (h1 row hr), ?_, fun k hk => h3 k (key_all hv hk)⟩
    have l1 := sub_len (heads_nodup _) heads_sub
    have l2 := sub_len (l := allKeys t.toNat) (m := heads (keysOf pl)) (allKeys_nodup _) fun k hk => by
      rw [mem_heads]
      have := h3 k hk
      exact cntK_pos (by omega)
    omega
end EM
namespace EM
open PySem PySem.Spec PyProof.Rows L2
/-! ### lists side by side -/
inductive All2 {α β : Type} (R : α → β → Prop) : List α → List β → Prop where
  | nil : All2 R [] []
  | cons {a : α} {b : β} {as : List α} {bs : List β} : R a b → All2 R as bs → All2 R (a :: as) (b :: bs)
section
variable {α β : Type} {R S : α → β → Prop}
theorem All2.len {as : List α} {bs : List β} (h : All2 R as bs) : as.length = bs.length := by
  induction h with
  | nil => rfl
  | cons _ _ ih => rw [List.length_cons, List.length_cons, ih]
theorem All2.mono {as : List α} {bs : List β} (h : All2 R as bs) (k : ∀ a b, R a b → S a b) : All2 S as bs := by
  induction h with
  | nil => exact .nil
  | cons h _ ih => exact .cons (k _ _ h) ih
theorem All2.app {as as' : List α} {bs bs' : List β} (h : All2 R as bs) (h' : All2 R as' bs') : All2 R (as ++ as') (bs ++ bs') := by
  induction h with
  | nil => exact h'
  | cons h _ ih => exact .cons h ih
theorem All2.snoc {as : List α} {bs : List β} {a : α} {b : β} (h : All2 R as bs) (r : R a b) : All2 R (as ++ [a]) (bs ++ [b]) := h.app (.cons r .nil)
theorem All2.at {as : List α} {bs : List β} (h : All2 R as bs) : ∀ {i : Nat} {a : α}, as[i]? = some a → ∃ b, bs[i]? = some b ∧ R a b := by
  induction h with
  | nil =>
    intro i a e
    exact absurd e (by simp)
  | cons h _ ih =>
    intro i a e
    rcases i with _ | i
    · cases (Option.some.inj (show some _ = some a from e))
      exact ⟨_, rfl, h⟩
    · exact ih (i := i) (by simpa using e)
theorem All2.at' {as : List α} {bs : List β} (h : All2 R as bs) : ∀ {i : Nat} {b : β}, bs[i]? = some b → ∃ a, as[i]? = some a ∧ R a b := by
  induction h with
  | nil =>
    intro i a e
    exact absurd e (by simp)
  | cons h _ ih =>
    intro i a e
    rcases i with _ | i
    · cases (Option.some.inj (show some _ = some a from e))
      exact ⟨_, rfl, h⟩
    · exact ih (i := i) (by simpa using e)
end
/-! ### a plan as it stands in memory -/
def PairAt (H : Hp) (v : V) (p : Int × Int) : Prop := ∃ q, v = .ref q ∧ H q = some (.tup [.int p.1, .int p.2])
def RowAt (H : Hp) (v : V) (row : List (Int × Int)) : Prop := ∃ q vs, v = .ref q ∧ H q = some (.lst vs) ∧ All2 (PairAt H) vs row
def PlanAt (H : Hp) (a : Addr) (pl : List (List (Int × Int))) : Prop := ∃ vs, H a = some (.lst vs) ∧ All2 (RowAt H) vs pl
theorem PairAt.mono {H H' : Hp} {v : V} {p : Int × Int} (s : Same H H') (h : PairAt H v p) : PairAt H' v p := by
  obtain ⟨q, e, h⟩ := h
  exact ⟨q, e, s _ _ h⟩
theorem RowAt.mono {H H' : Hp} {v : V} {row : List (Int × Int)} (s : Same H H') (h : RowAt H v row) : RowAt H' v row := by
  obtain ⟨q, vs, e, h, k⟩ := h
  exact ⟨q, vs, e, s _ _ h, k.mono fun _ _ => PairAt.mono s⟩
theorem PlanAt.mono {H H' : Hp} {a : Addr} {pl : List (List (Int × Int))} (s : Same H H') (h : PlanAt H a pl) : PlanAt H' a pl := by
  obtain ⟨vs, h, k⟩ := h
  exact ⟨vs, s _ _ h, k.mono fun _ _ => RowAt.mono s⟩
/-- the heap without what stands at F -/
def del (H : Hp) (F : Addr) : Hp := fun b => if b = F then none else H b
theorem del_ne {H : Hp} {F b : Addr} (h : b ≠ F) : del H F b = H b := by unfold del; rw [if_neg h]
theorem del_le (H : Hp) (F : Addr) : Same (del H F) H := fun b o e => by
  unfold del at e
  by_cases h : b = F
  · rw [if_pos h] at e
    cases e
  · rw [if_neg h] at e
    exact e
theorem del_upd (H : Hp) (F : Addr) (o : HO) : Same (del H F) (upd H F o) := fun b u e => by
  by_cases h : b = F
  · rw [del, if_pos h] at e
    cases e
  · rw [upd_ne h]
    rw [del_ne h] at e
    exact e
theorem del_upd' (H : Hp) (F : Addr) (o : HO) : Same (del H F) (del (upd H F o) F) := fun b u e => by
  by_cases h : b = F
  · rw [del, if_pos h] at e
    cases e
  · rw [del_ne h, upd_ne h]
    rw [del_ne h] at e
    exact e
theorem del_same {H H' : Hp} (F : Addr) (s : Same H H') : Same (del H F) (del H' F) := fun b u e => by
  by_cases h : b = F
  · rw [del, if_pos h] at e
    cases e
  · rw [del_ne h] at e
    rw [del_ne h]
    exact s _ _ e
theorem PairAt.del {H : Hp} {F : Addr} {xs : List V} {v : V} {p : Int × Int} (hF : H F = some (.lst xs)) (h : PairAt H v p) : PairAt (del H F) v p := by
  obtain ⟨q, e, h⟩ := h
  have n : q ≠ F := fun z => by
    rw [z, hF] at h
    cases h
  exact ⟨q, e, by rw [del_ne n]; exact h⟩
theorem PairAt.upd {H : Hp} {F : Addr} {xs : List V} {o : HO} {v : V} {p : Int × Int} (hF : H F = some (.lst xs)) (h : PairAt H v p) : PairAt (upd H F o) v p :=
  (h.del hF).mono (del_upd H F o)
/-! ### the told plan, as lists -/
def rowOf (t r : Int) (n : Nat) : List (Int × Int) := ((List.range n).filter fun (a : Nat) => home t (a : Int) r).map fun (a : Nat) => ((a : Int), opp t (a : Int) r)
def planOf (t : Int) (n : Nat) : List (List (Int × Int)) := (List.range n).map fun (r : Nat) => rowOf t (r : Int) t.toNat
theorem rowOf_succ (t r : Int) (n : Nat) : rowOf t r (n + 1) = rowOf t r n ++ if home t (n : Int) r = true then [((n : Int), opp t (n : Int) r)] else [] := by
  unfold rowOf
  rw [List.range_succ, List.filter_append, List.map_append]
  congr 1
  cases h : home t (n : Int) r <;> simp [h]
theorem planOf_succ (t : Int) (n : Nat) : planOf t (n + 1) = planOf t n ++ [rowOf t (n : Int) t.toNat] := by
  unfold planOf
  rw [List.range_succ, List.map_append]
  rfl
theorem rowOf_len (t r : Int) (n : Nat) : (rowOf t r n).length ≤ n := by
  unfold rowOf
  rw [List.length_map]
  exact Nat.le_trans (List.length_filter_le _ _) (by rw [List.length_range]; exact Nat.le_refl _)
theorem planOf_len (t : Int) (n : Nat) : (planOf t n).length = n := by
  unfold planOf
  rw [List.length_map, List.length_range]
end EM
namespace EM
/-! ### the round in which a team breaks -/
def brk (a : Int) : Int := if a % 2 = 1 then a else a + 1
theorem brk_in {t a : Int} (T : TOk t) (a0 : 0 ≤ a) (h : a < t - 2) : 0 < brk a ∧ brk a < t - 1 := by
  have := T.even
  unfold brk
  by_cases e : a % 2 = 1
  · rw [if_pos e]
    omega
  · rw [if_neg e]
    omega
/-- a team is at home in a round as in the one ahead of it just in its told round -/
theorem home_turn {t a r : Int} (T : TOk t) (a0 : 0 ≤ a) (a1 : a < t) (r0 : 0 < r) (r1 : r < t - 1) : (home t a r = home t a (r - 1)) ↔ (a < t - 2 ∧ r = brk a) := by
  have t2 := T.two
  have te := T.even
  have iff2 : ∀ {p q : Prop} [Decidable p] [Decidable q], (decide p = decide q) ↔ (p ↔ q) := fun {p q} _ _ => decide_eq_decide
  by_cases e1 : a = t - 1
  · unfold home
    rw [if_pos e1, if_pos e1, iff2]
    omega
  · have h3 := emod3 (y := a - r) (m := t - 1) (by omega) (by omega) (by omega)
    have h4 := emod3 (y := a - (r - 1)) (m := t - 1) (by omega) (by omega) (by omega)
    unfold brk
    unfold home
    rw [if_neg e1, if_neg e1]
    generalize (a - r) % (t - 1) = u at *
    generalize (a - (r - 1)) % (t - 1) = v at *
    by_cases e2 : a = r
    · rw [if_pos e2, if_neg (show ¬ a = r - 1 by omega), iff2]
      by_cases e : a % 2 = 1
      · rw [if_pos e]
        omega
      · rw [if_neg e]
        omega
    · rw [if_neg e2]
      by_cases e3 : a = r - 1
      · rw [if_pos e3, iff2]
        by_cases e : a % 2 = 1
        · rw [if_pos e]
          omega
        · rw [if_neg e]
          omega
      · rw [if_neg e3, iff2]
        by_cases e : a % 2 = 1
        · rw [if_pos e]
          omega
        · rw [if_neg e]
          omega
end EM
namespace EM
open PySem PySem.Spec PyProof.Rows L2
/-! ### lists of things in memory, whatever the things are -/
structure Mon {β : Type} (R : Hp → V → β → Prop) : Prop where
  up : ∀ (H H' : Hp) (v : V) (x : β), Same H H' → R H v x → R H' v x
def LAt {β : Type} (R : Hp → V → β → Prop) (H : Hp) (v : V) (xs : List β) : Prop := ∃ q vs, v = .ref q ∧ H q = some (.lst vs) ∧ All2 (R H) vs xs
theorem monPair : Mon PairAt := ⟨fun _ _ _ _ s h => h.mono s⟩
theorem monRow : Mon RowAt := ⟨fun _ _ _ _ s h => h.mono s⟩
section
variable {β : Type} {R : Hp → V → β → Prop}
theorem LAt.mono (hR : Mon R) {H H' : Hp} {v : V} {xs : List β} (s : Same H H') (h : LAt R H v xs) : LAt R H' v xs := by
  obtain ⟨q, vs, e, h, k⟩ := h
  exact ⟨q, vs, e, s _ _ h, k.mono fun _ _ => hR.up _ _ _ _ s⟩
theorem monL (hR : Mon R) : Mon (LAt R) := ⟨fun _ _ _ _ s h => h.mono hR s⟩
theorem row_lat {H : Hp} {v : V} {row : List (Int × Int)} : RowAt H v row ↔ LAt PairAt H v row := Iff.rfl
theorem plan_lat {H : Hp} {a : Addr} {pl : List (List (Int × Int))} : PlanAt H a pl ↔ LAt RowAt H (.ref a) pl := by
  constructor
  · rintro ⟨vs, h, k⟩
    exact ⟨a, vs, rfl, h, k⟩
  · rintro ⟨q, vs, e, h, k⟩
    cases e
    exact ⟨vs, h, k⟩
theorem All2.take' {α γ : Type} {S : α → γ → Prop} {as : List α} {bs : List γ} (h : All2 S as bs) : ∀ n : Nat, All2 S (as.take n) (bs.take n) := by
  induction h with
  | nil => intro n; rw [List.take_nil, List.take_nil]; exact .nil
  | cons r _ ih =>
    intro n
    rcases n with _ | n
    · exact .nil
    · exact .cons r (ih n)
theorem All2.drop' {α γ : Type} {S : α → γ → Prop} {as : List α} {bs : List γ} (h : All2 S as bs) : ∀ n : Nat, All2 S (as.drop n) (bs.drop n) := by
  induction h with
  | nil => intro n; rw [List.drop_nil, List.drop_nil]; exact .nil
  | cons r t ih =>
    intro n
    rcases n with _ | n
    · exact .cons r t
    · exact ih n
theorem All2.rev' {α γ : Type} {S : α → γ → Prop} {as : List α} {bs : List γ} (h : All2 S as bs) : All2 S as.reverse bs.reverse := by
  induction h with
  | nil => exact .nil
  | cons r _ ih =>
    rw [List.reverse_cons, List.reverse_cons]
    exact ih.snoc r
theorem cut_to {xs : List V} {i : Int} (h : 0 ≤ i) : cutV xs none (some i) = xs.take i.toNat := by
  unfold cutV
  rw [show some i = some ((i.toNat : Nat) : Int) by rw [show ((i.toNat : Nat) : Int) = i by omega], HT.sIx_nat, HT.sIx_none, List.drop_zero, Nat.sub_zero]
  exact List.take_eq_take_iff.mpr (by omega)
theorem cut_from {xs : List V} {i : Int} (h : 0 ≤ i) : cutV xs (some i) none = xs.drop i.toNat := by
  unfold cutV
  rw [show some i = some ((i.toNat : Nat) : Int) by rw [show ((i.toNat : Nat) : Int) = i by omega], HT.sIx_nat, HT.sIx_none]
  by_cases hi : i.toNat ≤ xs.length
  · rw [Nat.min_eq_left hi]
    exact List.take_of_length_le (by rw [List.length_drop]; omega)
  · rw [Nat.min_eq_right (by omega), Nat.sub_self, List.drop_of_length_le (show xs.length ≤ i.toNat by omega)]
    rfl
theorem All2.up (hR : Mon R) {H H' : Hp} {vs : List V} {xs : List β} (k : All2 (R H) vs xs) (s : Same H H') : All2 (R H') vs xs := k.mono fun _ _ => hR.up _ _ _ _ s
/-! a new list -/
theorem new_lat (hR : Mon R) {H : Hp} {p : Addr} {vs : List V} {xs : List β} (np : H p = none) (h : All2 (R H) vs xs) : LAt R (upd H p (.lst vs)) (.ref p) xs :=
  ⟨p, vs, rfl, upd_same, h.mono fun _ _ => hR.up _ _ _ _ (same_upd np)⟩
theorem new_list (hR : Mon R) {H : Hp} {p : Addr} {vs : List V} {xs : List β} (np : H p = none) (h : All2 (R H) vs xs) : Same H (upd H p (.lst vs)) ∧ LAt R (upd H p (.lst vs)) (.ref p) xs := ⟨same_upd np, new_lat hR np h⟩
theorem new_to (hR : Mon R) {H : Hp} {p : Addr} {vs : List V} {xs : List β} {i : Int} (np : H p = none) (h : All2 (R H) vs xs) (hi : 0 ≤ i) : Same H (upd H p (.lst (cutV vs none (some i)))) ∧ LAt R (upd H p (.lst (cutV vs none (some i)))) (.ref p) (xs.take i.toNat) := by
  rw [cut_to hi]
  exact new_list hR np (h.take' _)
theorem new_from (hR : Mon R) {H : Hp} {p : Addr} {vs : List V} {xs : List β} {i : Int} (np : H p = none) (h : All2 (R H) vs xs) (hi : 0 ≤ i) : Same H (upd H p (.lst (cutV vs (some i) none))) ∧ LAt R (upd H p (.lst (cutV vs (some i) none))) (.ref p) (xs.drop i.toNat) := by
  rw [cut_from hi]
  exact new_list hR np (h.drop' _)
theorem new_cat (hR : Mon R) {H : Hp} {p : Addr} {vs us : List V} {xs ys : List β} (np : H p = none) (h : All2 (R H) vs xs) (k : All2 (R H) us ys) : Same H (upd H p (.lst (vs ++ us))) ∧ LAt R (upd H p (.lst (vs ++ us))) (.ref p) (xs ++ ys) :=
  new_list hR np (h.app k)
theorem new_rev (hR : Mon R) {H : Hp} {p : Addr} {vs : List V} {xs : List β} (np : H p = none) (h : All2 (R H) vs xs) : Same H (upd H p (.lst vs.reverse)) ∧ LAt R (upd H p (.lst vs.reverse)) (.ref p) xs.reverse :=
  new_list hR np h.rev'
theorem ix_lat {H : Hp} {vs : List V} {xs : List β} {x : β} {i : Int} (h : All2 (R H) vs xs) (hi : 0 ≤ i) (hx : xs[i.toNat]? = some x) : ∃ w, atI vs i = some w ∧ R H w x := by
  obtain ⟨w, hw, r⟩ := h.at' hx
  have := atI_nat hw
  rw [show ((i.toNat : Nat) : Int) = i by omega] at this
  exact ⟨w, this, r⟩
theorem cat_fits {m n : Nat} (h : m + n ≤ 5000) : m + n ≤ sizeLine := Nat.le_trans h (by decide)
/-! a list that is being made -/
def OAt (R : Hp → V → β → Prop) (H : Hp) (L : Addr) (xs : List β) : Prop := ∃ vs, H L = some (.lst vs) ∧ All2 (R (del H L)) vs xs
theorem OAt.new (R : Hp → V → β → Prop) {H : Hp} {L : Addr} : OAt R (upd H L (.lst [])) L [] := ⟨[], upd_same, .nil⟩
theorem OAt.keep (hR : Mon R) {H H' : Hp} {L : Addr} {xs : List β} (s : Same H H') (h : OAt R H L xs) : OAt R H' L xs := by
  obtain ⟨vs, e, k⟩ := h
  exact ⟨vs, s _ _ e, k.mono fun _ _ => hR.up _ _ _ _ (del_same L s)⟩
theorem OAt.close (hR : Mon R) {H : Hp} {L : Addr} {xs : List β} (h : OAt R H L xs) : LAt R H (.ref L) xs := by
  obtain ⟨vs, e, k⟩ := h
  exact ⟨L, vs, rfl, e, k.mono fun _ _ => hR.up _ _ _ _ (del_le H L)⟩
theorem OAt.len {H : Hp} {L : Addr} {xs : List β} {vs : List V} (h : OAt R H L xs) (e : H L = some (.lst vs)) : vs.length = xs.length := by
  obtain ⟨us, e', k⟩ := h
  cases (HO.lst.inj (Option.some.inj (e.symm.trans e')))
  exact k.len
/-- an item more -/
theorem OAt.push (hR : Mon R) {H : Hp} {L : Addr} {xs : List β} {v : V} {x : β} (h : OAt R H L xs) (hl : xs.length ≤ 5000) (r : R (del H L) v x) :
    ∃ acc, H L = some (.lst acc) ∧ acc.length < sizeLine ∧ OAt R (upd H L (.lst (acc ++ [v]))) L (xs ++ [x]) := by
  obtain ⟨vs, e, k⟩ := h
  refine ⟨vs, e, by rw [k.len]; exact Nat.lt_of_le_of_lt hl (by decide), _, upd_same, ?_⟩
  exact (k.mono fun _ _ => hR.up _ _ _ _ (del_upd' H L _)).snoc (hR.up _ _ _ _ (del_upd' H L _) r)
theorem same_push {H1 H4 : Hp} {D : Addr} {o : HO} (nD : H1 D = none) (s : Same H1 H4) : Same H1 (upd H4 D o) := fun b u e => by
  rw [upd_ne (ne_of_none e nD)]
  exact s _ _ e
theorem off_same {H1 H4 H5 : Hp} {D : Addr} (nD : H1 D = none) (s : Same H1 H4) (off : ∀ b, b ≠ D → H5 b = H4 b) : Same H1 H5 := fun b o e => by
  rw [off b (ne_of_none e nD)]
  exact s _ _ e
/-- what was there ahead of the list that is being made is there without it -/
theorem LAt.apart (hR : Mon R) {H1 H2 : Hp} {L : Addr} {v : V} {xs : List β} (nL : H1 L = none) (s : Same H1 H2) (h : LAt R H1 v xs) : LAt R (del H2 L) v xs := by
  refine h.mono hR fun b o e => ?_
  rw [del_ne (ne_of_none e nL)]
  exact s _ _ e
theorem same_apart {H1 H2 : Hp} {L : Addr} (nL : H1 L = none) (s : Same H1 H2) : Same H1 (del H2 L) := fun b o e => by
  rw [del_ne (ne_of_none e nL)]
  exact s _ _ e
/-- a row that stands elsewhere than the list that is being made -/
theorem row_apart {H : Hp} {L D : Addr} {vs : List V} {row : List (Int × Int)} (hL : H L = some (.lst vs)) (ne : D ≠ L) (h : LAt PairAt H (.ref D) row) : RowAt (del H L) (.ref D) row := by
  obtain ⟨q, us, e, h, k⟩ := h
  cases e
  exact ⟨D, us, rfl, by rw [del_ne ne]; exact h, k.mono fun _ _ => PairAt.del hL⟩
theorem pair_new {H : Hp} {D T : Addr} {vs : List V} {x y : Int} (hD : H D = some (.lst vs)) (nT : H T = none) : PairAt (del (upd H T (.tup [.int x, .int y])) D) (.ref T) (x, y) :=
  ⟨T, rfl, by rw [del_ne (ne_of_none hD nT).symm, upd_same]⟩
theorem OAt.make (hR : Mon R) {H : Hp} {S : Addr} {vs : List V} {xs : List β} (nS : H S = none) (h : All2 (R H) vs xs) : OAt R (upd H S (.lst vs)) S xs :=
  ⟨vs, upd_same, h.mono fun _ _ => hR.up _ _ _ _ (same_apart nS (same_upd nS))⟩
/-- things told without what stands at D -/
def Off (R : Hp → V → β → Prop) (D : Addr) : Hp → V → β → Prop := fun H v x => R (del H D) v x
theorem monOff (hR : Mon R) (D : Addr) : Mon (Off R D) := ⟨fun _ _ _ _ s h => hR.up _ _ _ _ (del_same D s) h⟩
theorem LAt.off (hR : Mon R) {H1 H : Hp} {D : Addr} {v : V} {xs : List β} (nD : H1 D = none) (s : Same H1 H) (h : LAt R H1 v xs) : LAt (Off R D) H v xs := by
  obtain ⟨q, vs, e, h, k⟩ := h
  exact ⟨q, vs, e, s _ _ h, k.mono fun _ _ => hR.up _ _ _ _ (same_apart nD s)⟩
theorem LAt.land {H : Hp} {D p : Addr} {xs : List β} (ne : p ≠ D) (h : LAt (Off R D) H (.ref p) xs) : LAt R (del H D) (.ref p) xs := by
  obtain ⟨q, vs, e, h, k⟩ := h
  cases e
  exact ⟨p, vs, rfl, by rw [del_ne ne]; exact h, k⟩
theorem LAt.spot {H : Hp} {p : Addr} {xs : List β} (h : LAt R H (.ref p) xs) : ∃ vs, H p = some (.lst vs) ∧ All2 (R H) vs xs := by
  obtain ⟨q, vs, e, h, k⟩ := h
  cases e
  exact ⟨vs, h, k⟩
theorem OAt.at {H : Hp} {L : Addr} {xs : List β} (h : OAt R H L xs) : ∃ vs, H L = some (.lst vs) := by
  obtain ⟨vs, e, _⟩ := h
  exact ⟨vs, e⟩
end
end EM
namespace EM
open PySem PySem.Spec PyProof.Rows L2
/-! ### plans that keep to what the document calls a plan, and that are not great -/
def VRow (t : Int) (row : List (Int × Int)) : Prop := ∀ p ∈ row, 0 ≤ p.1 ∧ p.1 < t ∧ 0 ≤ p.2 ∧ p.2 < t ∧ p.1 ≠ p.2
/-- how much room a plan takes -/
structure Sized (pl : List (List (Int × Int))) : Prop where
  few : pl.length ≤ 900
  row : ∀ row ∈ pl, row.length ≤ 900
  most : (keysOf pl).length ≤ 1000
structure Fit (t : Int) (pl : List (List (Int × Int))) : Prop where
  valid : Valid t pl
  sized : Sized pl
theorem flat_len {pl : List (List (Int × Int))} {M : Nat} (h : ∀ row ∈ pl, row.length ≤ M) : pl.flatten.length ≤ pl.length * M := by
  induction pl with
  | nil => exact Nat.zero_le _
  | cons r pl ih =>
    have h1 := h r List.mem_cons_self
    have h2 := ih fun row hr => h row (List.mem_cons_of_mem _ hr)
    rw [List.flatten_cons, List.length_append, List.length_cons, Nat.succ_mul]
    omega
theorem fit_of {t : Int} {pl : List (List (Int × Int))} (L M : Nat) (hv : ∀ row ∈ pl, VRow t row) (hL : pl.length ≤ L) (hM : ∀ row ∈ pl, row.length ≤ M) (h : L * M ≤ 1000) (l9 : L ≤ 900) (m9 : M ≤ 900) : Fit t pl := by
  refine ⟨hv, by omega, fun row hr => Nat.le_trans (hM row hr) m9, ?_⟩
  unfold keysOf
  rw [List.length_map]
  exact Nat.le_trans (flat_len hM) (Nat.le_trans (Nat.mul_le_mul_right M hL) h)
theorem VRow.sub {t : Int} {row row' : List (Int × Int)} (h : VRow t row) (s : ∀ p ∈ row', p ∈ row) : VRow t row' := fun p hp => h p (s p hp)
theorem VRow.app {t : Int} {a b : List (Int × Int)} (h : VRow t a) (k : VRow t b) : VRow t (a ++ b) := fun p hp => by
  rcases List.mem_append.mp hp with e | e
  · exact h p e
  · exact k p e
theorem VRow.one {t : Int} {x y : Int} (h : 0 ≤ x ∧ x < t ∧ 0 ≤ y ∧ y < t ∧ x ≠ y) : VRow t [(x, y)] := fun p hp => by
  rw [List.mem_singleton.mp hp]
  exact h
theorem VRow.nil {t : Int} : VRow t [] := fun p hp => absurd hp (by simp)
theorem mem_row {t r : Int} {n : Nat} {p : Int × Int} (h : p ∈ rowOf t r n) : 0 ≤ p.1 ∧ p.1 < n ∧ home t p.1 r = true ∧ p.2 = opp t p.1 r := by
  unfold rowOf at h
  obtain ⟨a, ha, rfl⟩ := List.mem_map.mp h
  obtain ⟨h1, h2⟩ := List.mem_filter.mp ha
  have := List.mem_range.mp h1
  exact ⟨Int.natCast_nonneg a, Int.ofNat_lt.mpr this, h2, rfl⟩
theorem mem_plan {t : Int} {n : Nat} {row : List (Int × Int)} (h : row ∈ planOf t n) : ∃ r : Nat, r < n ∧ row = rowOf t (r : Int) t.toNat := by
  unfold planOf at h
  obtain ⟨r, hr, rfl⟩ := List.mem_map.mp h
  exact ⟨r, List.mem_range.mp hr, rfl⟩
theorem told_valid {t : Int} (T : TOk t) {row : List (Int × Int)} (h : row ∈ planOf t (t - 1).toNat) : VRow t row := by
  obtain ⟨r, hr, rfl⟩ := mem_plan h
  intro p hp
  have t2 := T.two
  obtain ⟨h0, h1, _, h2⟩ := mem_row hp
  have a1 : p.1 < t := by omega
  have := opp_lt T h0 a1 (show 0 ≤ (r : Int) by omega) (by omega)
  have ne := opp_ne T h0 a1 (show 0 ≤ (r : Int) by omega) (by omega)
  rw [h2]
  exact ⟨h0, a1, this.1, this.2, fun e => ne e.symm⟩
theorem told_pos {t : Int} (T : TOk t) {row : List (Int × Int)} (h : row ∈ planOf t (t - 1).toNat) : 0 < row.length := by
  obtain ⟨r, hr, rfl⟩ := mem_plan h
  have t2 := T.two
  have ol := opp_lt T (show 0 ≤ (0 : Int) by omega) (by omega) (show 0 ≤ (r : Int) by omega) (by omega)
  have oh := home_opp T (show 0 ≤ (0 : Int) by omega) (by omega) (show 0 ≤ (r : Int) by omega) (by omega)
  have : ∃ a : Int, 0 ≤ a ∧ a < t ∧ home t a (r : Int) = true := by
    cases e : home t 0 (r : Int) with
    | true => exact ⟨0, by omega, by omega, e⟩
    | false =>
      rw [e] at oh
      exact ⟨_, ol.1, ol.2, oh⟩
  obtain ⟨a, a0, a1, ha⟩ := this
  refine List.length_pos_of_mem (a := (a, opp t a (r : Int))) ?_
  unfold rowOf
  refine List.mem_map.mpr ⟨a.toNat, List.mem_filter.mpr ⟨List.mem_range.mpr (by omega), ?_⟩, ?_⟩
  · rw [show ((a.toNat : Nat) : Int) = a by omega]
    exact ha
  · rw [show ((a.toNat : Nat) : Int) = a by omega]
theorem turn_ne {t a z : Int} (t2 : 2 ≤ t) (a0 : 0 ≤ a) (a1 : a < t) (z0 : 0 ≤ z) (z1 : z < t - 1) : 0 ≤ (a + 1 + z) % t ∧ (a + 1 + z) % t < t ∧ a ≠ (a + 1 + z) % t := by
  have h := emod3 (y := a + 1 + z) (m := t) (by omega) (by omega) (by omega)
  have h1 := Int.emod_nonneg (a + 1 + z) (show t ≠ 0 by omega)
  have h2 := Int.emod_lt_of_pos (a + 1 + z) (show 0 < t by omega)
  omega
theorem shift_ne {t a b s : Int} (t2 : 0 < t) (a0 : 0 ≤ a) (a1 : a < t) (b0 : 0 ≤ b) (b1 : b < t) (n : a ≠ b) (s0 : 0 ≤ s) (s1 : s < t) : 0 ≤ (a + s) % t ∧ (a + s) % t < t ∧ 0 ≤ (b + s) % t ∧ (b + s) % t < t ∧ (a + s) % t ≠ (b + s) % t := by
  have h := emod3 (y := a + s) (m := t) (by omega) (by omega) (by omega)
  have k := emod3 (y := b + s) (m := t) (by omega) (by omega) (by omega)
  have h1 := Int.emod_nonneg (a + s) (show t ≠ 0 by omega)
  have h2 := Int.emod_lt_of_pos (a + s) t2
  have k1 := Int.emod_nonneg (b + s) (show t ≠ 0 by omega)
  have k2 := Int.emod_lt_of_pos (b + s) t2
  omega
end EM
namespace EM
open PySem PySem.Spec PyProof.Rows L2
/-! ### the breaks of a plan by lists -/
def homeIn (row : List (Int × Int)) (c : Int) : Bool := inV (.int c) (row.map fun p => V.int p.1)
theorem homeIn_iff {row : List (Int × Int)} {c : Int} : homeIn row c = true ↔ ∃ p ∈ row, p.1 = c := by
  unfold homeIn inV
  rw [List.any_map, List.any_eq_true]
  constructor
  · rintro ⟨p, hp, h⟩
    exact ⟨p, hp, by simpa [eqV] using h⟩
  · rintro ⟨p, hp, h⟩
    exact ⟨p, hp, by simpa [eqV] using h⟩
def brkRow (r0 r1 : List (Int × Int)) (number : Int) (n : Nat) : List (Int × Int) := ((List.range n).filter fun (c : Nat) => decide (V.bl (homeIn r0 (c : Int)) = V.bl (homeIn r1 (c : Int)))).map fun (c : Nat) => (number, (c : Int))
def rowN (pl : List (List (Int × Int))) (i : Nat) : List (Int × Int) := (pl[i]?).getD []
def breaksTo (t : Int) (pl : List (List (Int × Int))) (n : Nat) : List (Int × Int) := ((List.range n).map fun (i : Nat) => brkRow (rowN pl i) (rowN pl (i + 1)) (1 + (i : Int)) t.toNat).flatten
def breaksOf (t : Int) (pl : List (List (Int × Int))) : List (Int × Int) := breaksTo t pl (pl.length - 1)
theorem breaksTo_succ (t : Int) (pl : List (List (Int × Int))) (n : Nat) : breaksTo t pl (n + 1) = breaksTo t pl n ++ brkRow (rowN pl n) (rowN pl (n + 1)) (1 + (n : Int)) t.toNat := by
  unfold breaksTo
  rw [List.range_succ, List.map_append, List.flatten_append]
  simp
theorem brkRow_succ (r0 r1 : List (Int × Int)) (number : Int) (n : Nat) : brkRow r0 r1 number (n + 1) = brkRow r0 r1 number n ++ if decide (V.bl (homeIn r0 (n : Int)) = V.bl (homeIn r1 (n : Int))) = true then [(number, (n : Int))] else [] := by
  unfold brkRow
  rw [List.range_succ, List.filter_append, List.map_append]
  congr 1
  rw [List.filter_cons, List.filter_nil]
  by_cases h : decide (V.bl (homeIn r0 (n : Int)) = V.bl (homeIn r1 (n : Int))) = true
  · rw [if_pos h, if_pos h]
    rfl
  · rw [if_neg h, if_neg h]
    rfl
theorem brkRow_len (r0 r1 : List (Int × Int)) (number : Int) (n : Nat) : (brkRow r0 r1 number n).length ≤ n := by
  unfold brkRow
  rw [List.length_map]
  exact Nat.le_trans (List.length_filter_le _ _) (by rw [List.length_range]; exact Nat.le_refl _)
theorem breaksTo_len (t : Int) (pl : List (List (Int × Int))) (n : Nat) : (breaksTo t pl n).length ≤ n * t.toNat := by
  induction n with
  | zero => exact Nat.zero_le _
  | succ n ih =>
    rw [breaksTo_succ, List.length_append, Nat.succ_mul]
    have := brkRow_len (rowN pl n) (rowN pl (n + 1)) (1 + (n : Int)) t.toNat
    omega
theorem flat_firsts (row : List (Int × Int)) : (row.map fun p => V.int p.1).all flatV = true := by
  rw [List.all_map, List.all_eq_true]
  intro p _
  rfl
/-! no good plan has fewer breaks than two less than its teams -/
theorem mem_brkRow {r0 r1 : List (Int × Int)} {number : Int} {n : Nat} {c : Nat} (h : c < n) (e : homeIn r0 (c : Int) = homeIn r1 (c : Int)) : (number, (c : Int)) ∈ brkRow r0 r1 number n := by
  unfold brkRow
  exact List.mem_map.mpr ⟨c, List.mem_filter.mpr ⟨List.mem_range.mpr h, decide_eq_true (congrArg V.bl e)⟩, rfl⟩
theorem mem_breaksOf {t : Int} {pl : List (List (Int × Int))} {i c : Nat} (hi : i + 1 < pl.length) (hc : c < t.toNat) (e : homeIn (rowN pl i) (c : Int) = homeIn (rowN pl (i + 1)) (c : Int)) : (1 + (i : Int), (c : Int)) ∈ breaksOf t pl := by
  unfold breaksOf breaksTo
  exact List.mem_flatten.mpr ⟨_, List.mem_map.mpr ⟨i, List.mem_range.mpr (by omega), rfl⟩, mem_brkRow hc e⟩
/-- of two that meet in a row the first is at home, the other one is not -/
theorem meets_unlike {t : Int} {pl : List (List (Int × Int))} (hv : Valid t pl) (G : GoodP t pl) {row : List (Int × Int)} (hr : row ∈ pl) {p : Int × Int} (hp : p ∈ row) : homeIn row p.1 = true ∧ homeIn row p.2 = false := by
  obtain ⟨_, _, b0, b1, ne⟩ := hv row hr p hp
  refine ⟨homeIn_iff.mpr ⟨p, hp, rfl⟩, ?_⟩
  cases h : homeIn row p.2 with
  | false => rfl
  | true =>
    obtain ⟨p', hp', e⟩ := homeIn_iff.mp h
    have h1 := G.once row hr p.2 b0 b1
    unfold cntOf at h1
    obtain ⟨z, hz⟩ := List.length_eq_one_iff.mp h1
    have m1 : p ∈ row.filter (hasB p.2) := List.mem_filter.mpr ⟨hp, hasB_iff.mpr (.inr rfl)⟩
    have m2 : p' ∈ row.filter (hasB p.2) := List.mem_filter.mpr ⟨hp', hasB_iff.mpr (.inl e)⟩
    rw [hz] at m1 m2
    have := (List.mem_singleton.mp m1).trans (List.mem_singleton.mp m2).symm
    rw [← this] at e
    exact absurd e ne
theorem meet_row {t : Int} {pl : List (List (Int × Int))} (G : GoodP t pl) {a b : Int} (a0 : 0 ≤ a) (ab : a < b) (b1 : b < t) : ∃ row ∈ pl, ∃ p ∈ row, bothB a b p = true := by
  have h := G.meet a b a0 ab b1
  unfold oftenOf at h
  by_cases e : ∃ row ∈ pl, ∃ p ∈ row, bothB a b p = true
  · exact e
  · have z : ∀ n ∈ pl.map fun row => (row.filter (bothB a b)).length, n = 0 := fun n hn => by
      obtain ⟨row, hr, rfl⟩ := List.mem_map.mp hn
      rw [List.length_eq_zero_iff, List.filter_eq_nil_iff]
      exact fun p hp hb => e ⟨row, hr, p, hp, hb⟩
    have zs : ∀ l : List Nat, (∀ n ∈ l, n = 0) → l.sum = 0 := by
      intro l
      induction l with
      | nil => intro _; rfl
      | cons x r ih =>
        intro hz
        rw [List.sum_cons, hz x List.mem_cons_self, ih fun n hn => hz n (List.mem_cons_of_mem _ hn)]
    rw [zs _ z] at h
    cases h
theorem few_breaks {t : Int} {pl : List (List (Int × Int))} (t2 : 2 ≤ t) (hv : Valid t pl) (G : GoodP t pl) : t.toNat ≤ (breaksOf t pl).length + 2 := by
  let B := breaksOf t pl
  let isB : Nat → Bool := fun c => decide ((c : Int) ∈ B.map (·.2))
  have h1 : ((List.range t.toNat).filter isB).length ≤ B.length := by
    have := sub_len (l := ((List.range t.toNat).filter isB).map fun (c : Nat) => (c : Int)) (m := B.map (·.2)) ?_ ?_
    · rw [List.length_map, List.length_map] at this
      exact this
    · refine List.Pairwise.map _ (fun (a b : Nat) (h : a ≠ b) => ?_) ((List.nodup_range (n := t.toNat)).filter _)
      show (a : Int) ≠ (b : Int)
      omega
    · intro x hx
      obtain ⟨c, hc, rfl⟩ := List.mem_map.mp hx
      exact of_decide_eq_true (List.mem_filter.mp hc).2
  have nob : ∀ c, c < t.toNat → isB c = false → ∀ i, i + 1 < pl.length → homeIn (rowN pl (i + 1)) (c : Int) = !homeIn (rowN pl i) (c : Int) := fun c hc hb i hi => by
    have hn : ¬ homeIn (rowN pl i) (c : Int) = homeIn (rowN pl (i + 1)) (c : Int) := fun e => by
      have := of_decide_eq_false hb
      exact this (List.mem_map.mpr ⟨_, mem_breaksOf hi hc e, rfl⟩)
    cases h1 : homeIn (rowN pl i) (c : Int) <;> cases h2 : homeIn (rowN pl (i + 1)) (c : Int) <;> simp_all
  have h2 : ((List.range t.toNat).filter fun c => !isB c).length ≤ 2 := by
    have := sub_len (l := ((List.range t.toNat).filter fun c => !isB c).map fun (c : Nat) => homeIn (rowN pl 0) (c : Int)) (m := [true, false]) ?_ ?_
    · rw [List.length_map] at this
      exact this
    · refine List.pairwise_map.mpr (((List.nodup_range (n := t.toNat)).filter _).imp_of_mem fun {a b} ha hb ne e => ?_)
      obtain ⟨ha1, ha2⟩ := List.mem_filter.mp ha
      obtain ⟨hb1, hb2⟩ := List.mem_filter.mp hb
      have ha1 := List.mem_range.mp ha1
      have hb1 := List.mem_range.mp hb1
      have same : ∀ i, i < pl.length → homeIn (rowN pl i) (a : Int) = homeIn (rowN pl i) (b : Int) := by
        intro i
        induction i with
        | zero => exact fun _ => e
        | succ i ih =>
          intro hi
          rw [nob a ha1 (by simpa using ha2) i hi, nob b hb1 (by simpa using hb2) i hi, ih (by omega)]
      have key : ∀ x y : Int, 0 ≤ x → x < y → y < t → (∀ i, i < pl.length → homeIn (rowN pl i) x = homeIn (rowN pl i) y) → False := fun x y x0 xy y1 hs => by
        obtain ⟨row, hr, p, hp, hb⟩ := meet_row G x0 xy y1
        obtain ⟨i, hi, er⟩ := List.mem_iff_getElem.mp hr
        have hrow : rowN pl i = row := by
          unfold rowN
          rw [List.getElem?_eq_getElem hi, er]
          rfl
        have hm := meets_unlike hv G hr hp
        have hxy := hs i hi
        rw [hrow] at hxy
        unfold bothB at hb
        rw [Bool.and_eq_true, hasB_iff, hasB_iff] at hb
        rcases hb with ⟨h1 | h1, h2 | h2⟩
        · omega
        · rw [h1, h2, hxy] at hm
          rw [hm.1] at hm
          cases hm.2
        · rw [h1, h2, hxy] at hm
          rw [hm.1] at hm
          cases hm.2
        · omega
      rcases Nat.lt_or_ge a b with h | h
      · exact key (a : Int) (b : Int) (by omega) (by omega) (by omega) same
      · exact key (b : Int) (a : Int) (by omega) (by omega) (by omega) fun i hi => (same i hi).symm
    · intro x _
      cases x <;> simp
  have h3 : (List.range t.toNat).length = ((List.range t.toNat).filter isB).length + ((List.range t.toNat).filter fun c => !isB c).length := by
    rw [List.length_eq_countP_add_countP isB, List.countP_eq_length_filter, List.countP_eq_length_filter]
    congr 2
    refine List.filter_congr fun c _ => ?_
    cases isB c <;> simp
  rw [List.length_range] at h3
  show t.toNat ≤ B.length + 2
  omega
end EM
namespace EM
open PySem PySem.Spec PyProof.Rows L2
/-! ### {k: v for .. in .. for .. in ..}, its keys tuples -/
/-- the comprehension itself: targets a, b; sources p, q -/
abbrev DC2 (k v a p b q : Expr) (sc : Scope) (ps : Pos) : Expr := .DictComp k v [⟨a, p, [], 0⟩, ⟨b, q, [], 0⟩] sc ps
section
variable {k v a p b q : Expr} {sc : Scope} {ps : Pos} {z : Value} {D : Addr} {en : Env}
theorem dc2_turn0 : compTurn (DC2 k v a p b q sc ps) 0 z (.ref D) en = (do
    standAt p.pos
    match ← pyNext z with
    | none => pure (.done .next)
    | some u => do
      letOwnedTupleGo a z u
      assign a en u
      let y ← eval q en
      standAt q.pos
      let y ← foldedSetIterable q en y
      let _ ← runOwn (.compStart (DC2 k v a p b q sc ps) 1 (← holding [y] (pyIter y)) (.ref D) en) en
      again (.compLoop (DC2 k v a p b q sc ps) 0 z (.ref D) en)) := by rfl
theorem dc2_turn1 : compTurn (DC2 k v a p b q sc ps) 1 z (.ref D) en = (do
    standAt q.pos
    match ← pyNext z with
    | none => pure (.done .next)
    | some u => do
      letOwnedTupleGo b z u
      assign b en u
      (do
        let ky ← eval k en
        let vy ← holding [ky] (eval v en)
        standAt { k.pos with endCol := v.pos.endCol, endLine := v.pos.endLine }
        holding [ky, vy] (dictSet D ky vy))
      again (.compLoop (DC2 k v a p b q sc ps) 1 z (.ref D) en)) := by rfl
variable {prog : Program} {w : World} {A : Around} {s : Shared} {R : Result → Shared → Prop}
/-- where an error inside the block would go: nowhere -/
abbrev NoX : Value → Shared → Prop := fun _ _ => False
theorem toX {α : Type} {t : Sem α} {Q : α → Shared → Prop} {E : Value → Shared → Prop} {s : Shared} (h : wpAny (model prog w) A t Q NoX s) : wpAny (model prog w) A t Q E s :=
  wpAny_mono h (fun _ _ x => x) fun _ _ x => x.elim
theorem dc2_loop0 (hq : ∀ x, foldedSetIterable q en x = pure x) (J : Nat → Shared → Prop)
    (step : ∀ n s, J n s → wpAny (model prog w) A (pyNext z) (fun r s1 => match r with
      | none => R (.ok .next) s1
      | some u => wpAny (model prog w) A (letOwnedTupleGo a z u) (fun _ s2 => wpAny (model prog w) A (assign a en u) (fun _ s3 => wpAny (model prog w) A (eval q en) (fun y s4 => wpAny (model prog w) A (pyIter y) (fun z1 s5 =>
          codeAny (model prog w) A (.compStart (DC2 k v a p b q sc ps) 1 z1 (.ref D) en) (fun o s6 => (∃ fl, o = .ok fl) ∧ ∃ m, m < n ∧ J m s6) s5) NoX s4) NoX s3) NoX s2) NoX s1) NoX s)
    {n : Nat} (h : J n s) : codeAny (model prog w) A (.compLoop (DC2 k v a p b q sc ps) 0 z (.ref D) en) R s := by
  refine codeAny_loop rfl J (fun n s hJ => ?_) n h
  show wpAny _ A ((compTurn (DC2 k v a p b q sc ps) 0 z (.ref D) en).onRaise _) _ _ s
  refine wpAny_noted ?_
  rw [dc2_turn0]
  refine wpAny_bind (wpAny_standAt (wpAny_bind (wpAny_mono (toX (step n s hJ)) (fun r s1 h1 => ?_) fun _ _ x => x)))
  cases r with
  | none => exact wpAny_pure h1
  | some u =>
    refine wpAny_bind (wpAny_mono (toX h1) (fun _ s2 h2 => wpAny_bind (wpAny_mono (toX h2) (fun _ s3 h3 => wpAny_bind (wpAny_mono (toX h3) (fun y s4 h4 => ?_) fun _ _ x => x)) fun _ _ x => x)) fun _ _ x => x)
    refine wpAny_bind (wpAny_standAt (wpAny_bind (wpAny_of_eq (hq y) (wpAny_bind (wpAny_holding (wpAny_mono (toX h4) (fun z1 s5 h5 => ?_) fun _ _ x => x))))))
    refine wpAny_bind (wpAny_runOwn ?_)
    rw [Around.mark_none]
    refine codeAny_mono h5 fun o s6 ho => ?_
    obtain ⟨⟨fl, e⟩, g⟩ := ho
    subst e
    first
      | exact wpAny_pure ⟨rfl, g⟩
      | exact wpAny_bind (wpAny_pure (wpAny_pure ⟨rfl, g⟩))
theorem dc2_loop1 (J : Nat → Shared → Prop)
    (step : ∀ n s, J n s → wpAny (model prog w) A (pyNext z) (fun r s1 => match r with
      | none => R (.ok .next) s1
      | some u => wpAny (model prog w) A (letOwnedTupleGo b z u) (fun _ s2 => wpAny (model prog w) A (assign b en u) (fun _ s3 => wpAny (model prog w) A (eval k en) (fun ky s4 => wpAny (model prog w) A (eval v en) (fun vy s5 =>
          wpAny (model prog w) A (dictSet D ky vy) (fun _ s6 => ∃ m, m < n ∧ J m s6) NoX s5) NoX s4) NoX s3) NoX s2) NoX s1) NoX s)
    {n : Nat} (h : J n s) : codeAny (model prog w) A (.compLoop (DC2 k v a p b q sc ps) 1 z (.ref D) en) R s := by
  refine codeAny_loop rfl J (fun n s hJ => ?_) n h
  show wpAny _ A ((compTurn (DC2 k v a p b q sc ps) 1 z (.ref D) en).onRaise _) _ _ s
  refine wpAny_noted ?_
  rw [dc2_turn1]
  refine wpAny_bind (wpAny_standAt (wpAny_bind (wpAny_mono (toX (step n s hJ)) (fun r s1 h1 => ?_) fun _ _ x => x)))
  cases r with
  | none => exact wpAny_pure h1
  | some u =>
    refine wpAny_bind (wpAny_mono (toX h1) (fun _ s2 h2 => wpAny_bind (wpAny_mono (toX h2) (fun _ s3 h3 => wpAny_bind (wpAny_bind (wpAny_mono (toX h3) (fun ky s4 h4 => ?_) fun _ _ x => x))) fun _ _ x => x)) fun _ _ x => x)
    refine wpAny_bind (wpAny_holding (wpAny_mono (toX h4) (fun vy s5 h5 => ?_) fun _ _ x => x))
    exact wpAny_bind (wpAny_standAt (wpAny_holding (wpAny_mono (toX h5) (fun _ s6 h6 => wpAny_pure ⟨rfl, h6⟩) fun _ _ x => x)))
theorem dc2_start (h0 : codeAny (model prog w) A (.compLoop (DC2 k v a p b q sc ps) 1 z (.ref D) en) R s)
    (h : wpAny (model prog w) A (pyIter z) (fun z' s' => codeAny (model prog w) A (.compLoop (DC2 k v a p b q sc ps) 1 z' (.ref D) en) R s') (notedBy (model prog w) A en fun x s' => R (.error x) s') s) :
    codeAny (model prog w) A (.compStart (DC2 k v a p b q sc ps) 1 z (.ref D) en) R s := by
  refine codeAny_of_tree ?_
  show wpAny _ A ((compStart (DC2 k v a p b q sc ps) 1 z (.ref D) en).onRaise _) _ _ s
  refine wpAny_notedAt ?_
  unfold compStart
  show wpAny _ A (ask >>= _) _ _ s
  refine wpAny_bind (wpAny_askSetting (wpAny_ite ?_))
  split
  · first
      | exact wpAny_pure ⟨rfl, h0⟩
      | exact wpAny_bind (wpAny_pure (wpAny_pure ⟨rfl, h0⟩))
  · first
      | exact wpAny_bind (wpAny_rule (wpAny_bind (wpAny_standAt (wpAny_bind (wpAny_mono h (fun z' s' hz => wpAny_pure ⟨rfl, hz⟩) fun _ _ x => x)))))
      | (refine wpAny_bind (wpAny_rule ?_); show wpAny _ A (standAt q.pos >>= _) _ _ s; exact wpAny_bind (wpAny_standAt (wpAny_bind (wpAny_mono h (fun z' s' hz => wpAny_pure ⟨rfl, hz⟩) fun _ _ x => x))))
end
end EM
namespace EM
open PySem PySem.Spec PyProof.Rows L2
/-! one turn of a loop inside a comprehension's block -/
/-- the loop stands ahead of a turn -/
def AtTurn (Y : Cx) (pl : List (Addr × Obj)) (τ : L2.St) (fp : List Addr) (tn : Nat → Heap → Prop) (W : Nat → Nat → Hp → Prop) (n : Nat) (s : Shared) : Prop :=
  ∃ i G, Inv Y pl τ G s ∧ tn i s.heap ∧ (∀ b ∈ fp, G b = none) ∧ W i n G
/-- what a clause's loop asks: it stops, or its target gets an item and the rest brings the next turn -/
def Clause (J : It) (g : TG) (τ : L2.St) (vs : List Nat) (W : Nat → Nat → Hp → Prop) (stop : Hp → Prop) (body : (Hp → Prop) → L2.St → Hp → Prop) : Prop :=
  ∀ i m G, W i m G → (J.stop i G ∧ stop G) ∨ (J.go i G ∧ ∃ Nx : Hp → Prop, (∀ G', Nx G' → ∃ m', m' < m ∧ W (i + 1) m' G') ∧ ∀ x G', J.yld i G x G' → g x τ G' fun ρ F => wipe ρ vs = τ ∧ body Nx ρ F)
/-- slots that know at least what τ knows -/
def Knows (τ ρ : L2.St) : Prop := τ.length = ρ.length ∧ ∀ (j : Nat) v, τ[j]? = some (some v) → ρ[j]? = some (some v)
theorem knows_wipe {τ ρ : L2.St} {vs : List Nat} (h : wipe ρ vs = τ) : Knows τ ρ := by
  subst h
  exact ⟨wipe_length _ _, fun j v e => (wipe_some e).1⟩
section
variable {Y : Cx} {pl : List (Addr × Obj)} {tg : Expr} {g : TG} {J : It} {fp : List Addr} {it : Addr} {tn : Nat → Heap → Prop} {τ : L2.St} {vs : List Nat} {W : Nat → Nat → Hp → Prop} {stop : Hp → Prop} {body : (Hp → Prop) → L2.St → Hp → Prop}
theorem one_turn (hc : Y.calm = true) (hx : Y.xe = NoX) (T : Turn Y.prog Y.w Y.K tg J fp it tn) (pg : PG Y tg g) (hst : ∀ G : Hp, (∀ b ∈ fp, G b = none) → ∀ b ∈ fp, FpOk Y pl G b) (ask : Clause J g τ vs W stop body) {n : Nat} {s : Shared} (h : AtTurn Y pl τ fp tn W n s) :
    wpAny (model Y.prog Y.w) Y.A (pyNext (.ref it)) (fun r s1 => match r with
      | none => ∃ G, Inv Y pl τ G s1 ∧ stop G
      | some u => wpAny (model Y.prog Y.w) Y.A (letOwnedTupleGo tg (.ref it) u) (fun _ s2 => wpAny (model Y.prog Y.w) Y.A (assign tg Y.env u) (fun _ s3 =>
          ∃ (Nx : Hp → Prop) (pp : List (Addr × Obj)) (ρ : L2.St) (G : Hp), Inv Y (pl ++ pp) ρ G s3 ∧ wipe ρ vs = τ ∧ body Nx ρ G ∧
            ∀ ρ' G' s', Inv Y (pl ++ pp) ρ' G' s' → Knows τ ρ' → Nx G' → ∃ m, m < n ∧ AtTurn Y pl τ fp tn W m s') NoX s2) NoX s1) NoX s := by
  obtain ⟨i, G, I, st, free, w⟩ := h
  rcases ask i n G w with ⟨e, z⟩ | ⟨e, Nx, back, go⟩
  · refine thnF (T.done Y rfl rfl rfl hc i pl s τ G NoX I (hst G free) st e) fun r s1 ⟨hr, I1⟩ => ?_
    subst hr
    exact ⟨G, I1, z⟩
  · refine thnF (T.item Y rfl rfl rfl hc i pl s τ G NoX I (hst G free) st e) fun r s1 ⟨u, hr, h1⟩ => ?_
    subst hr
    refine thnF h1 fun _ s2 ⟨x, G2, I2, r2, y2, st2, free2⟩ => ?_
    have pg' := pg.run _ s2 τ G2 x u _ (I2.pinned (hst G2 free2) (T.obj _ _ st2)) r2 (go x G2 y2)
    rw [hx] at pg'
    refine thnF pg' fun _ s3 ⟨ρ, G3, I3, e3, b3⟩ => ?_
    refine ⟨Nx, pinsAt fp s2.heap, ρ, G3, I3, e3, b3, fun ρ' G' s' I' kn nx => ?_⟩
    obtain ⟨m, lt, w'⟩ := back G' nx
    have same : ∀ b ∈ fp, ∃ o, s2.heap.get? b = some o ∧ s'.heap.get? b = some o ∧ G' b = none := fun b hb => by
      obtain ⟨o, eo, _⟩ := T.obj _ _ st2 b hb
      have pin := I'.pin (b, o) (List.mem_append_right _ (List.mem_append_right _ (mem_pinsAt hb eo)))
      exact ⟨o, eo, pin.1, pin.2.1⟩
    refine ⟨m, lt, i + 1, G', I'.unpinned.weak kn.1 kn.2, T.keep _ _ _ st2 fun b hb o eo => ?_, fun b hb => ?_, w'⟩
    · obtain ⟨o', e1, e2, _⟩ := same b hb
      rw [eo] at e1
      cases e1
      exact e2
    · obtain ⟨_, _, _, e3⟩ := same b hb
      exact e3
end
/-- d[y] = z by a comprehension, y a tuple -/
theorem dt_set {X : Cx} {pins : List (Addr × Obj)} {σ : L2.St} {H : Hp} {s : Shared} {E : Value → Shared → Prop} {D b : Addr} {kvs : List (List Key × V)} {k : List Key} {v : V} {r : Value} {Q : Unit → Shared → Prop} (hu : X.A.units < cLine) (I : Inv X pins σ H s) (hD : H D = some (.dT kvs)) (hb : H b = some (.tup (k.map kV)))
    (hz : kvs.length < sizeLine) (rv : RelV v r) (h : ∀ s', Inv X pins σ (upd H D (.dT (putK kvs k v))) s' → Q () s') : wpAny (model X.prog X.w) X.A (dictSet D (.ref b) r) Q E s := by
  obtain ⟨z, hd, xs, rel, dd⟩ := dt_of I.hok hD
  have len : (putK kvs k v).length ≤ sizeLine := by
    have := length_putK kvs k v
    omega
  refine wpAny_dictSet_heap (hsz := by rw [← Paired.length rel]; exact z) (show (tupleKind (mixKind X.prog X.w)).room X.A from hu) (key_of I.hok hb) dd fun h' dd' hs => h _ ?_
  obtain ⟨o, es, ep, ho, g2, g3, g4, _, g5⟩ := dd'
  refine d_write I (by rw [hD]; exact True.intro) hs ⟨o, ho⟩ ⟨len, hd, _, (rel.put k hb rv).keeps fun c ys ec => ?_, o, es, ep, ho, g2, g3, g4, g5⟩
  rw [upd_ne (ne_of ec hD (fun q => nomatch q))]
  exact ec
end EM
namespace EM
open PySem PySem.Spec PyProof.Rows L2
/-! ### the whole comprehension, given to a name -/
/-- D the new dict; W, W1 what holds ahead of a turn of the first clause, of the second -/
def tDc2 (wi : TI) (g : TG) (wi1 : TI) (g1 : TG) (tk tv : TE) (vs vs1 : List Nat) : TE := fun σ H Q => wi σ H fun J H1 => ∀ D, H1 D = none → ∃ W : Nat → Nat → Hp → Prop, (∃ m, W 0 m (upd H1 D (.dT []))) ∧
  Clause J g (wipe σ vs) vs W (fun G => Q (.ref D) G) fun Nx ρ G => wi1 ρ G fun J1 G1 => ∃ W1 : Nat → Nat → Hp → Prop, (∃ m, W1 0 m G1) ∧ Clause J1 g1 (wipe ρ vs1) vs1 W1 Nx fun Nx1 ρ1 F => tk ρ1 F fun y F1 => tv ρ1 F1 fun z F2 =>
    ∃ b kvs k, y = .ref b ∧ F2 D = some (.dT kvs) ∧ F2 b = some (.tup (k.map kV)) ∧ kvs.length < sizeLine ∧ Nx1 (upd F2 D (.dT (putK kvs k z)))
section
variable {X : Cx} {kx vx a p b q : Expr} {sc : Scope} {ps : Pos} {own : List (Str × Nat)} {vs1 : List Nat} {wi wi1 : TI} {g g1 : TG} {tk tv : TE}
/-- a judgement inside the block, whatever the block's state -/
abbrev InBlk (X : Cx) (sc : Scope) (J : Cx → Prop) : Prop := ∀ (s : Shared) (H : Hp) (C : Addr) (cl : List (Str × Addr)) (fp : List Addr), J (X.blk s H sc (compEnvC sc cl C X.env) fp)
theorem ps_setDc2 {i : Nat} {y : Str} {py sp : Pos} (hc : X.calm = true) (hN : X.N.Nodup) (hy : X.N[i]? = some y) (hl : X.env.scope.names.lookup y = some .local) (sw : swapsWith (DC2 kx vx a p b q sc ps) (some (.Name y py)) sp.line X.env = pure true)
    (hu : X.A.units < cLine) (hi : PI X a p wi) (ok : BlkOk X.N X.env.scope sc own) (sub : ∀ j ∈ vs1, j ∈ own.map (·.2)) (hg : InBlk X sc fun Y => PG Y a g) (hi1 : InBlk X sc fun Y => PI Y b q wi1) (hg1 : InBlk X sc fun Y => PG Y b g1) (hk : InBlk X sc fun Y => PE Y kx tk) (hv : InBlk X sc fun Y => PE Y vx tv)
    (f0 : ∀ x, foldedSetIterable p X.env x = pure x := by intro _; rfl) (f1 : ∀ en x, foldedSetIterable q en x = pure x := by intro _ _; rfl) :
    PS X (.Assign [.Name y py] (DC2 kx vx a p b q sc ps) sp) (tAsg (tDc2 wi g wi1 g1 tk tv (own.map (·.2)) vs1) (gName i)) := by
  refine ⟨fun pins s σ H D I h => ?_⟩
  have h : tDc2 wi g wi1 g1 tk tv (own.map (·.2)) vs1 σ H (fun x H1 => gName i x σ H1 D.nx) := h
  rw [exec_Assign_Name_used _ _ _ _ sw]
  refine wpAny_bind (wpAny_standAt (wpAny_bind ?_))
  show wpAny _ X.A (do let _ ← comprehension (DC2 kx vx a p b q sc ps) sc X.env (firstIterPos [⟨a, p, [], 0⟩, ⟨b, q, [], 0⟩] ps) newDict false (eval p X.env) (some (assign (.Name y py) X.env))) _ _ s
  have caps : ∀ z ∈ sc.names, z.2 = .free → ∃ c, X.env.cells.lookup z.1 = some c := fun z hz e => (ok.free z hz e).elim (fun k => I.ok.has _ (.inl k)) fun k => I.ok.has _ (.inr k)
  refine wpAny_bind (wpAny_mono (Q := fun _ s' => SP X pins D .next s') (E := X.xe) ?_ (fun _ s' hq => wpAny_pure (wpAny_pure hq)) fun _ _ z => z)
  refine wpAny_comprehension_free (use := some (assign (.Name y py) X.env)) rfl f0 (closure_ok caps) ok.kind (fun z hz e => (ok.uniq z hz).trans (congrArg some e)) (thn (hi.run pins s σ H _ I h) fun xv s1 hx => thn hx fun itv s2 got => ?_)
  obtain ⟨it, fp, tn, J, H2, rfl, I2, T, st2, free2, ask⟩ := got
  refine wpAny_newObj_type (newEnv_comp ?_)
  -- the new dict
  have fresh : H2 s2.heap.objs.size = none := I2.hok.fresh (Nat.le_refl _)
  obtain ⟨W, ⟨m0, w0⟩, turns⟩ := ask _ fresh
  revert turns w0
  generalize eD : s2.heap.objs.size = R
  intro turns w0
  rw [eD] at fresh
  have I3 : Inv X pins σ (upd H2 R (.dT [])) { s2 with heap := s2.heap.push { cls := .type "dict", data := .dict #[] } } := by
    refine I2.laid (t' := s2.toks) (fun _ _ e => Heap.get?_push_of_some _ e) (Nat.le_of_eq eD) ?_
    subst eD
    exact dt_empty s2.heap I2.big
  have there : ∀ c ∈ fp, c < s2.heap.objs.size := fun c hc' => let ⟨_, e, _⟩ := T.obj _ _ st2 c hc'; Heap.lt_size e
  revert I3 w0
  generalize eH : upd H2 R (.dT []) = H3
  generalize es : ({ s2 with heap := s2.heap.push { cls := .type "dict", data := .dict #[] } } : Shared) = s3
  intro w0 I3
  have eh : s3.heap = s2.heap.push { cls := .type "dict", data := .dict #[] } := by rw [← es]
  have free3 : ∀ c ∈ fp, FpOk X pins H3 c ∧ c < s3.heap.objs.size := fun c hc' => by
    have lt := there c hc'
    refine ⟨⟨?_, (free2 c hc').2⟩, ?_⟩
    · rw [← eH, upd_ne (fun z => absurd lt (by rw [z, eD]; exact Nat.lt_irrefl _))]
      exact (free2 c hc').1
    · rw [eh, Heap.size_push]
      exact Nat.lt_succ_of_lt lt
  have I4 := block_start I3 ok hN free3
  have st4 : tn 0 (pushCells (s3.heap.push { cls := .type "dict", data := .dict #[] }) sc.names) := T.keep _ _ _ st2 fun c _ o e => pushCells_keeps _ _ _ _ (Heap.get?_push_of_some _ (by rw [eh]; exact Heap.get?_push_of_some _ e))
  show codeAny _ _ (.compStart (DC2 kx vx a p b q sc ps) 0 (.ref it) (.ref R) (compEnvC sc (cellsFrom (s3.heap.objs.size + 1) sc.names (cloFrom X.env.cells sc.names [])) s3.heap.objs.size X.env))
    (compPost (model X.prog X.w) X.A X.xe (some (assign (.Name y py) X.env)) (fun _ s' => SP X pins D .next s') (.ref R) s3.heap.objs.size) { s3 with heap := pushCells (s3.heap.push { cls := .type "dict", data := .dict #[] }) sc.names }
  revert I4
  generalize ec : cellsFrom (s3.heap.objs.size + 1) sc.names (cloFrom X.env.cells sc.names []) = cl
  intro I4
  have pg := hg s3 H3 s3.heap.objs.size cl fp
  have pi1 := hi1 s3 H3 s3.heap.objs.size cl fp
  have pg1 := hg1 s3 H3 s3.heap.objs.size cl fp
  have pk := hk s3 H3 s3.heap.objs.size cl fp
  have pv := hv s3 H3 s3.heap.objs.size cl fp
  generalize eY : X.blk s3 H3 sc (compEnvC sc cl s3.heap.objs.size X.env) fp = Y at I4 pg pi1 pg1 pk pv
  have yA : Y.A = X.A := by rw [← eY]
  have yP : Y.prog = X.prog := by rw [← eY]
  have yW : Y.w = X.w := by rw [← eY]
  have yK : Y.K = X.K := by rw [← eY]
  have yC : Y.calm = true := by rw [← eY]; exact hc
  have yX : Y.xe = NoX := by rw [← eY]
  have yE : compEnvC sc cl s3.heap.objs.size X.env = Y.env := by rw [← eY]
  have stay : ∀ G : Hp, (∀ c ∈ fp, G c = none) → ∀ c ∈ fp, FpOk Y [] G c := fun G none c hc' => by
    have k := I4.ok.exf c (by rw [← eY]; exact hc')
    have k2 := I4.ok.exfs c (by rw [← eY]; exact hc')
    refine ⟨none c hc', k.1, k2, .inl (by rw [← eY]; exact hc'), fun x d e => k.2 x d e, fun z hz => ?_⟩
    have : Y.pn = [] := by rw [← eY]
    rw [this] at hz
    exact absurd hz (by simp)
  have T' : Turn Y.prog Y.w Y.K a J fp it tn := by rw [yP, yW, yK]; exact T
  rw [yE]
  have all : codeAny (model Y.prog Y.w) Y.A (.compLoop (DC2 kx vx a p b q sc ps) 0 (.ref it) (.ref R) Y.env) (compPost (model X.prog X.w) X.A X.xe (some (assign (.Name y py) X.env)) (fun _ s' => SP X pins D .next s') (.ref R) s3.heap.objs.size) { s3 with heap := pushCells (s3.heap.push { cls := .type "dict", data := .dict #[] }) sc.names } := by
    refine dc2_loop0 (f1 Y.env) (AtTurn Y [] (wipe σ (own.map (·.2))) fp tn W) (fun n s5 h5 => ?_) ⟨0, H3, I4, st4, fun c hc' => (free3 c hc').1.1, w0⟩
    refine thnF (one_turn yC yX T' pg stay turns h5) fun r s6 h6 => ?_
    cases r with
    | none =>
      obtain ⟨G, I6, done⟩ := h6
      have I7 : Inv X pins σ G s6 := by
        subst eY
        exact I3.call' (ch := fp) I6.os I6.base I6.hok I6.bare fun c hc' => let f := (free3 c hc').1; ⟨f.2.2.2.1, f.2.1, f.2.2.2.2.1, f.2.2.2.2.2⟩
      have gone : G s3.heap.objs.size = none := by
        subst eY
        exact I6.free
      have ns : ∃ m, s6.heap.Ns s3.heap.objs.size m := by
        obtain ⟨m, hn, _⟩ := I6.loc
        subst eY
        exact ⟨m, hn⟩
      obtain ⟨m, hn⟩ := ns
      obtain ⟨k0, k1, k2, k3, k4, k5⟩ : FpOk X pins G s3.heap.objs.size := I3.fpOk (Nat.le_refl _) gone
      show wpAny _ _ (assign (.Name y py) X.env (.ref R)) _ _ _
      rw [yA, yP, yW] at *
      refine wpAny_assign_Name (store_ok2 (v := V.ref R) I7 hN hy (.inl hl) rfl (fun s8 I8 ⟨c, one, hc'⟩ => ?_) (.inr hl))
      have ne : s3.heap.objs.size ≠ c := hc'.elim (fun z => by rw [z]; exact k1) fun z e => k4 y c z e.symm
      exact ⟨m, hn.sameBut one ne, fun h9 one9 => ⟨_, G, I8.turned (t' := s8.toks) (fun c' o hb e => (one9.2 c' hb).trans e) k0 k1 k3 k4 k5, done⟩⟩
    | some u =>
      refine thnF h6 fun _ s7 h7 => thnF h7 fun _ s8 h8 => ?_
      obtain ⟨Nx, pp, ρ, G, I8, e8, b8, back⟩ := h8
      have pi1' := pi1.run _ s8 ρ G _ I8 b8
      rw [yX] at pi1'
      refine thnF pi1' fun xv s9 h9 => thnF h9 fun itv s10 got1 => ?_
      obtain ⟨it1, fp1, tn1, J1, G1, e1, I10, T1, st10, free10, W1, ⟨m1, w1⟩, turns1⟩ := got1
      subst e1
      have stay1 : ∀ F : Hp, (∀ c ∈ fp1, F c = none) → ∀ c ∈ fp1, FpOk Y ([] ++ pp) F c := fun F none c hc' => ⟨none c hc', (free10 c hc').2⟩
      have in1 : codeAny (model Y.prog Y.w) Y.A (.compLoop (DC2 kx vx a p b q sc ps) 1 (.ref it1) (.ref R) Y.env) (fun o s' => (∃ fl, o = .ok fl) ∧ ∃ m, m < n ∧ AtTurn Y [] (wipe σ (own.map (·.2))) fp tn W m s') s10 := by
        refine dc2_loop1 (AtTurn Y ([] ++ pp) (wipe ρ vs1) fp1 tn1 W1) (fun k s11 h11 => ?_) ⟨0, G1, I10.weak (wipe_length _ _) (fun j v e => (wipe_some e).1), st10, fun c hc' => (free10 c hc').1, w1⟩
        refine thnF (one_turn yC yX T1 pg1 stay1 turns1 h11) fun r s12 h12 => ?_
        cases r with
        | none =>
          obtain ⟨F, I12, nx⟩ := h12
          refine ⟨⟨_, rfl⟩, back _ F s12 I12 ⟨?_, fun j v e => ?_⟩ nx⟩
          · exact ((congrArg List.length e8).symm.trans (wipe_length ρ (own.map (·.2)))).trans (wipe_length ρ vs1).symm
          · rw [← e8] at e
            obtain ⟨e', no⟩ := wipe_some e
            rw [wipe_out fun z => no (sub j z)]
            exact e'
        | some u1 =>
          refine thnF h12 fun _ s13 h13 => thnF h13 fun _ s14 h14 => ?_
          obtain ⟨Nx1, pp1, ρ1, F, I14, e14, b14, back1⟩ := h14
          have pk' := pk.run _ s14 ρ1 F _ I14 b14
          rw [yX] at pk'
          refine thnF pk' fun kv s15 ⟨yk, F1, I15, r15, q15⟩ => ?_
          have pv' := pv.run _ s15 ρ1 F1 _ I15 q15
          rw [yX] at pv'
          refine thnF pv' fun vv s16 ⟨yv, F2, I16, r16, bk, kvs, k', ey, hD, hb, sz, nx⟩ => ?_
          subst ey
          cases (show kv = Value.ref bk from r15)
          exact dt_set (by rw [yA]; exact hu) I16 hD hb sz r16 fun s17 I17 => back1 ρ1 _ s17 I17 (knows_wipe e14) nx
      exact dc2_start in1 (T1.self Y.A 0 _ _ _ st10 in1)
  rw [yA, yP, yW] at all
  exact codeAny_compStart_dict all (T.self X.A 0 _ _ _ st4 all)
end
end EM
namespace EM
open PySem PySem.Spec PyProof.Rows L2
/-! ### for (a, b), c in d.items(): d a dict whose keys are tuples -/
/-- the pairs of the locked dict at d: its key's tuple as it stands, its value -/
def Itit (d : Addr) (o : Obj) (kvs : List (List Key × V)) : It :=
  ⟨fun i G => G d = some (.frz o (.dT kvs)) ∧ i < kvs.length, fun i G x G' => ∃ T b k v, kvs[i]? = some (k, v) ∧ G b = some (.tup (k.map kV)) ∧ x = .ref T ∧ G T = none ∧ G' = upd G T (.tup [.ref b, v]), fun i G => G d = some (.frz o (.dT kvs)) ∧ kvs.length ≤ i⟩
theorem locked_raw {X : Cx} {pins : List (Addr × Obj)} {σ : L2.St} {G : Hp} {s : Shared} {d : Addr} {o : Obj} {kvs : List (List Key × V)} (I : Inv X pins σ G s) (h : G d = some (.frz o (.dT kvs))) :
    (d == sysModules) = false ∧ s.heap.get? d = some o ∧ o.ExactDict ∧ ∃ (es : Array DictEntry) (ep : Nat), o.data = .dict es ep ∧ es.size = kvs.length ∧
      ∀ (i : Nat) (k : List Key) (v : V), kvs[i]? = some (k, v) → ∃ (hi : i < es.size) (b : Addr), es[i].key = .ref b ∧ G b = some (.tup (k.map kV)) ∧ RelV v es[i].val := by
  obtain ⟨here, _, no, xs, pr, o', es, ep, ho, ex, data, ents, _⟩ := I.hok d _ h
  cases here.symm.trans ho
  have sz : es.size = kvs.length := (size_of_entries ents).trans (Paired.length pr).symm
  refine ⟨no, here, ex, es, ep, data, sz, fun i k v e => ?_⟩
  obtain ⟨y, hy, e1, e2, rv⟩ := L2.paired_get pr e
  have at_i := entry_at ents i
  rw [hy] at at_i
  have hi : i < es.size := by
    rcases Nat.lt_or_ge i es.size with z | z
    · exact z
    · rw [Array.getElem?_eq_none z] at at_i
      cases at_i
  rw [Array.getElem?_eq_getElem hi] at at_i
  have at_i := Option.some.inj at_i
  exact ⟨hi, y.2.1, by rw [at_i]; rfl, e2, by rw [at_i]; exact rv⟩
section
variable {P : Program} {w : World} {K : PySem.W.Frag}
theorem turn_itemsT {d : Addr} {o : Obj} {es : Array DictEntry} {ep : Nat} {kvs : List (List Key × V)} {elts : List Expr} {kk : Nat} {tpos : Pos} (it : Addr) (hod : o.data = .dict es ep) :
    Turn P w K (.Tuple elts kk tpos) (Itit d o kvs) [it] it (fun i h => ∃ ok ov, IsItemIter h it d i kvs.length ep ok ov) where
  mem := List.mem_singleton.mpr rfl
  obj := fun i h st b hb => by
    obtain ⟨_, _, e⟩ := st
    rw [List.mem_singleton.mp hb]
    exact ⟨_, e, fun _ z => nomatch z⟩
  keep := fun i h h' ⟨ok, ov, e⟩ k => ⟨ok, ov, k it (List.mem_singleton.mpr rfl) _ e⟩
  item := by
    intro Y hP hW hK calm i pins s σ G E I free st go
    cases hP
    cases hW
    cases hK
    obtain ⟨ok, ov, isit⟩ := st
    obtain ⟨lock, lt⟩ := go
    obtain ⟨no, here, ex, es', ep', data, sz, ent⟩ := locked_raw I lock
    obtain ⟨e1, e2⟩ := dict_ep hod data
    subst e1 e2
    obtain ⟨hi, b, hkey, hb, rv⟩ := ent i kvs[i].1 kvs[i].2 (List.getElem?_eq_getElem lt)
    rw [← sz] at isit
    have below : it < s.heap.objs.size := Heap.lt_size isit
    refine DT.nextI isit ⟨o, here, ex, data⟩ hi fun h' out tup size rest => ?_
    refine ⟨_, rfl, wpAny_letOwnedTupleGo_items (s := { s with heap := h' }) out fun h2 isit2 one => ?_⟩
    have tup2 := (one.2 _ (Nat.ne_of_gt below)).trans tup
    have pair : ObjOk Y.prog Y.w (upd G s.heap.objs.size (.tup [.ref b, kvs[i].2])) h2 s.heap.objs.size (.tup [.ref b, kvs[i].2]) :=
      ⟨by show 2 ≤ sizeLine; decide, [_, _], .cons (show RelV (V.ref b) _ from hkey) (.cons rv .nil), ⟨_, tup2, rfl, _, rfl⟩⟩
    have I2 : Inv Y pins σ (upd G s.heap.objs.size (.tup [.ref b, kvs[i].2])) { s with heap := h2 } :=
      I.turnedNew (t' := s.toks) (ch := [it]) (fun c oc hc ec => (one.2 c fun z => hc (by rw [z]; exact List.mem_singleton.mpr rfl)).trans (rest c oc (fun z => hc (by rw [z]; exact List.mem_singleton.mpr rfl)) ec)) free (Nat.le_refl _) pair
    refine ⟨.ref s.heap.objs.size, _, I2, rfl, ⟨_, b, kvs[i].1, kvs[i].2, List.getElem?_eq_getElem lt, hb, rfl, I.hok.fresh (Nat.le_refl _), rfl⟩, ⟨es'[i].key, es'[i].val, ?_⟩, fun c hc => ?_⟩
    · rw [← sz]
      exact isit2
    · rw [List.mem_singleton.mp hc, upd_ne (Nat.ne_of_lt below)]
      exact (free it (List.mem_singleton.mpr rfl)).1
  done := by
    intro Y hP hW hK calm i pins s σ G E I free st stop
    cases hP
    cases hW
    cases hK
    obtain ⟨ok, ov, isit⟩ := st
    obtain ⟨lock, ge⟩ := stop
    obtain ⟨no, here, ex, es', ep', data, sz, ent⟩ := locked_raw I lock
    obtain ⟨e1, e2⟩ := dict_ep hod data
    subst e1 e2
    obtain ⟨f0, f1, f2, f3, f4, f5⟩ := free it (List.mem_singleton.mpr rfl)
    rw [← sz] at isit
    exact DT.endI (I.ok.hd calm) isit ⟨o, here, ex, data⟩ (by omega) fun h' but => ⟨rfl, I.turned (t' := s.toks) (fun c oc hc ec => but c oc hc ec) f0 f1 f3 f4 f5⟩
  self := fun A i s Q E ⟨_, _, e⟩ q => PySem.W.kcp_self e q
end
def iItemsT (td : TE) : TI := fun σ H R => td σ H fun x G => ∃ d o kvs, x = .ref d ∧ G d = some (.frz o (.dT kvs)) ∧ R (Itit d o kvs) G
theorem pi_itemsT {X : Cx} {e : Expr} {td : TE} {apos cpos : Pos} {elts : List Expr} {kk : Nat} {tpos : Pos} (he : PE X e td) (hbase : attributeBase e "items" X.env (eval e X.env) = eval e X.env := by rfl) (hline : (apos.endLine == cpos.line) = true := by rfl) :
    PI X (.Tuple elts kk tpos) (.Call (.Attribute e "items" apos) [] [] cpos) (iItemsT td) := by
  refine ⟨fun pins s σ H R I h => ?_⟩
  refine wpAny_Call_method (T := "dict") (id := "dict.items") hbase rfl hline F.plainAttrs_dict F.slot_dict_items F.type_dict_items (thn (he.run pins s σ H _ I h) fun u s1 ⟨x, G, I1, rx, d, o, kvs, ex, lock, q⟩ => ?_)
  subst ex
  cases (show u = Value.ref d from rx)
  obtain ⟨no, here, exact', es, ep, data, sz, ent⟩ := locked_raw I1 lock
  refine ⟨⟨o, here, exact'.1⟩, fun c z => by cases z; exact ⟨o, here, exact'.2.1⟩, ?_⟩
  show wpAny _ _ (callWith cpos (.builtin "dict.items") [.ref d] [] []) _ X.xe s1
  refine Calls.callWith_builtin rfl (PySem.evalArgs_none (DT.callItems no ⟨o, here, exact', data⟩ ?_))
  have I2 : Inv X pins σ G { s1 with heap := s1.heap.push { cls := .type "dict_items", data := .fields #[.ref d] } } := I1.kept (t' := s1.toks) fun c oc z => Heap.get?_push_of_some _ z
  refine DT.iterI (es := es) (ep := ep) ⟨_, Heap.get?_push_size _ rfl, rfl, rfl⟩ (DT.Raw.push ⟨o, here, exact', data⟩ _) (pi_one (tk := s1.toks) I2 _ (turn_itemsT _ data) ⟨.none, .none, ?_⟩ q)
  rw [← sz]
  exact Heap.get?_push_size _ rfl
end EM
namespace EM
open PySem PySem.Spec PyProof.Rows L2
/-! ### list(d.values()): d a dict whose keys are tuples -/
def tListValsT (te : TE) : TE := fun σ H Q => te σ H fun x G => ∃ (d : Addr) (kvs : List (List Key × V)), x = .ref d ∧ G d = some (.dT kvs) ∧ ∀ p, G p = none → Q (.ref p) (upd G p (.lst (kvs.map (·.2))))
theorem vals_of {ws : List V} {us : List Value} (hl : ws.length = us.length) (h : ∀ (i : Nat) (h1 : i < ws.length) (h2 : i < us.length), RelV ws[i] us[i]) : Vals ws us := by
  induction ws generalizing us with
  | nil =>
    cases us with
    | nil => exact .nil
    | cons _ _ => cases hl
  | cons x xs ih =>
    cases us with
    | nil => cases hl
    | cons u us => exact .cons (h 0 (by simp) (by simp)) (ih (Nat.succ.inj hl) fun i h1 h2 => h (i + 1) (by simpa using h1) (by simpa using h2))
section
variable {X : Cx} {e : Expr} {te : TE} {p apos cpos pos : Pos}
theorem pe_listValsT (calm : X.calm = true) (he : PE X e te) (gl : Gl X "list") (free : X.mg "list" = none) (hv : bootBuiltins "list" = some (.type "list")) (hbase : attributeBase e "values" X.env (eval e X.env) = eval e X.env := by rfl) (hline : (apos.endLine == cpos.line) = true := by rfl)
    (hs : starEach [.Call (.Attribute e "values" apos) [] [] cpos] X.env = (false, eval (.Call (.Attribute e "values" apos) [] [] cpos) X.env) :: starEach [] X.env := by rfl) :
    PE X (.Call (.Name "list" p) [.Call (.Attribute e "values" apos) [] [] cpos] [] pos) (tListValsT te) := by
  refine ⟨fun pins s σ H Q I hq => ?_⟩
  refine wpAny_Call_Name_kw (ld_blt I gl free hv (PyProof.Rows.callWith_type1 ?_ hs rfl))
  rw [hs]
  show wpAny _ _ (spliced ((false, eval (.Call (.Attribute e "values" apos) [] [] cpos) X.env) :: backTo pos (starEach [] X.env))) _ _ s
  refine Calls.spliced_cons (wpAny_Call_method (T := "dict") (id := "dict.values") hbase rfl hline F.plainAttrs_dict F.slot_dict_values F.type_dict_values (thn (he.run pins s σ H _ I hq) fun u s1 ⟨x, G, I1, rx, d, kvs, ex, hd, q⟩ => ?_))
  subst ex
  cases (show u = Value.ref d from rx)
  obtain ⟨z, sys, xs, kt, dof⟩ := dt_of I1.hok hd
  obtain ⟨es, ep, raw, size, items⟩ := Heap.DictOfH.raw dof
  have raw0 := raw
  obtain ⟨ob, hob, hex, hdata⟩ := raw0
  refine ⟨⟨ob, hob, hex.1⟩, fun b eb => by cases eb; exact ⟨ob, hob, hex.2.1⟩, ?_⟩
  show wpAny _ _ (callWith cpos (.builtin "dict.values") [.ref d] [] []) _ X.xe s1
  refine Calls.callWith_builtin rfl (PySem.evalArgs_none (call_meetsIn F.slot_dict_values ⟨ob, hob, hex.1⟩ F.entry_dict_values (F.args_dict_values_1 _) (meets_dict_values_raw d sys) ⟨⟨es, ep, raw⟩, ?_⟩))
  have I2 : Inv X pins σ G { s1 with heap := s1.heap.push { cls := .type "dict_values", data := .fields #[.ref d] } } := I1.kept (t' := s1.toks) fun b o eb => Heap.get?_push_of_some _ eb
  have raw1 : (s1.heap.push { cls := .type "dict_values", data := .fields #[.ref d] }).DictRaw d es ep := raw.at fun u eu => Heap.get?_push_of_some _ eu
  have len : es.size = kvs.length := by rw [size, kt_len kt]
  refine Calls.spliced_nil ?_
  refine PySem.W.kdl_call (KdlSrc.rawValues (es := es) (ep := ep)) (I1.ok.hd calm) ⟨⟨_, Heap.get?_push_size _ rfl, rfl, rfl⟩, raw1⟩ (by omega) fun h' tk acc c keep hS got => ?_
  have asz : acc.size = kvs.length := got.1.trans len
  generalize eL : ({ s1 with heap := s1.heap.push { cls := .type "dict_values", data := .fields #[.ref d] } } : Shared) = s2 at *
  refine ⟨.ref s2.heap.objs.size, _, I2.laid (t' := tk) (o := .lst (kvs.map (·.2))) keep (Nat.le_refl _) ⟨by rw [List.length_map]; omega, acc.toList, c, vals_of ((List.length_map ..).trans asz.symm) fun i h1 h2 => ?_, by rw [Array.toArray_toList]; exact hS⟩, rfl, q _ (I2.hok.fresh (Nat.le_refl _))⟩
  have hi : i < acc.size := by simpa using h2
  obtain ⟨hi2, ev⟩ := got.2 i acc[i] (Array.getElem?_eq_getElem hi)
  obtain ⟨y, hy, _, hy2, _⟩ := items i hi2
  obtain ⟨w', hw, rw'⟩ := vals_at kt hy
  have e1 : (kvs.map (·.2))[i] = w'.2 := by
    have : kvs[i]? = some w' := hw
    rw [List.getElem_map]
    exact congrArg (·.2) (List.getElem?_eq_some_iff.mp this).2
  rw [e1, Array.getElem_toList, ev, hy2]
  exact rw'
end
end EM
namespace EM
open PySem PySem.Spec PyProof.Rows L2
/-! ### the table of all twos -/
def keyTo (n a m : Nat) : List (List Key) := (List.range m).map fun (j : Nat) => [.inl (a : Int), .inl ((a : Int) + 1 + (j : Int))]
def twosTo (n : Nat) : Nat → List (List Key)
  | 0 => []
  | i + 1 => twosTo n i ++ keyTo n i (n - (i + 1))
def twos (n : Nat) : List (List Key) := twosTo n n
theorem keyTo_succ (n a m : Nat) : keyTo n a (m + 1) = keyTo n a m ++ [[.inl (a : Int), .inl ((a : Int) + 1 + (m : Int))]] := by
  unfold keyTo
  rw [List.range_succ, List.map_append]
  rfl
theorem mem_keyTo {n a m : Nat} {k : List Key} : k ∈ keyTo n a m ↔ ∃ b : Nat, a < b ∧ b < a + 1 + m ∧ k = [.inl (a : Int), .inl (b : Int)] := by
  unfold keyTo
  rw [List.mem_map]
  constructor
  · rintro ⟨j, hj, rfl⟩
    have := List.mem_range.mp hj
    exact ⟨a + 1 + j, by omega, by omega, by simp⟩
  · rintro ⟨b, h1, h2, rfl⟩
    exact ⟨b - (a + 1), List.mem_range.mpr (by omega), by rw [show ((a : Int) + 1 + ((b - (a + 1) : Nat) : Int)) = (b : Int) by omega]⟩
theorem mem_twosTo {n i : Nat} {k : List Key} : k ∈ twosTo n i ↔ ∃ a b : Nat, a < i ∧ a < b ∧ b < n ∧ k = [.inl (a : Int), .inl (b : Int)] := by
  induction i with
  | zero =>
    refine ⟨fun h => absurd h (by simp [twosTo]), ?_⟩
    rintro ⟨a, b, h, _⟩
    omega
  | succ i ih =>
    rw [twosTo, List.mem_append, ih, mem_keyTo]
    constructor
    · rintro (⟨a, b, h1, h2, h3, rfl⟩ | ⟨b, h1, h2, rfl⟩)
      · exact ⟨a, b, by omega, h2, h3, rfl⟩
      · exact ⟨i, b, by omega, h1, by omega, rfl⟩
    · rintro ⟨a, b, h1, h2, h3, rfl⟩
      by_cases e : a < i
      · exact .inl ⟨a, b, e, h2, h3, rfl⟩
      · obtain rfl : a = i := by omega
        exact .inr ⟨b, h2, by omega, rfl⟩
theorem twos_new {n i j : Nat} : [Sum.inl (i : Int), Sum.inl ((i : Int) + 1 + (j : Int))] ∉ twosTo n i ++ keyTo n i j := by
  intro h
  rcases List.mem_append.mp h with h | h
  · obtain ⟨a, b, h1, _, _, e⟩ := mem_twosTo.mp h
    have := inl_eq (List.cons.inj e).1
    omega
  · obtain ⟨b, h1, h2, e⟩ := mem_keyTo.mp h
    have := inl_eq (List.cons.inj (List.cons.inj e).2).1
    omega
theorem twosTo_len (n i : Nat) : (twosTo n i).length ≤ i * n := by
  induction i with
  | zero => exact Nat.zero_le _
  | succ i ih =>
    rw [twosTo, List.length_append, Nat.succ_mul]
    have : (keyTo n i (n - (i + 1))).length ≤ n := by
      unfold keyTo
      rw [List.length_map, List.length_range]
      omega
    omega
theorem twos_part_len {n i j : Nat} (h : j ≤ n) : (twosTo n i ++ keyTo n i j).length ≤ (i + 1) * n := by
  have := twosTo_len n i
  have k : (keyTo n i j).length = j := by
    unfold keyTo
    rw [List.length_map, List.length_range]
  rw [List.length_append, k, Nat.succ_mul]
  omega
/-- a table over the keys L that counts ks -/
def tab (L ks : List (List Key)) : List (List Key × V) := L.map fun k => (k, V.int ((cntK ks k : Nat) : Int))
theorem tab_val {L ks : List (List Key)} {k : List Key} (h : k ∈ L) : valV (tab L ks) k = some (V.int ((cntK ks k : Nat) : Int)) := by
  unfold tab
  rw [map_val, if_pos h]
theorem tab_new {L : List (List Key)} {k : List Key} (h : k ∉ L) : putK (tab L []) k (.int 0) = tab (L ++ [k]) [] := by
  have none : valV (tab L []) k = .none := by
    unfold tab
    rw [map_val, if_neg h]
  rw [putK_new _ none]
  unfold tab
  rw [List.map_append]
  rfl
theorem tab_add {L ks : List (List Key)} {k : List Key} (h : k ∈ L) : putK (tab L ks) k (.int (((cntK ks k : Nat) : Int) + 1)) = tab L (ks ++ [k]) := by
  unfold putK
  rw [valV_any, tab_val h, Option.isSome_some, if_pos rfl]
  unfold tab
  rw [List.map_map]
  refine List.map_congr_left fun x _ => ?_
  show (if x = k then (x, V.int (((cntK ks k : Nat) : Int) + 1)) else (x, V.int ((cntK ks x : Nat) : Int))) = _
  by_cases e : x = k
  · rw [if_pos e, e, cntK_app, cntK_cons, if_pos rfl]
    rfl
  · rw [if_neg e, cntK_app, cntK_cons, if_neg (fun z => e z.symm)]
    rfl
theorem key_in {t : Int} {p : Int × Int} (h : 0 ≤ p.1 ∧ p.1 < t ∧ 0 ≤ p.2 ∧ p.2 < t ∧ p.1 ≠ p.2) : keyOf p ∈ twos t.toNat := by
  obtain ⟨h1, h2, h3, h4, h5⟩ := h
  unfold twos
  rw [mem_twosTo]
  by_cases e : p.1 < p.2
  · refine ⟨p.1.toNat, p.2.toNat, by omega, by omega, by omega, ?_⟩
    have : keyOf p = [.inl p.1, .inl p.2] := key_lo e
    rw [this, show ((p.1.toNat : Nat) : Int) = p.1 by omega, show ((p.2.toNat : Nat) : Int) = p.2 by omega]
  · refine ⟨p.2.toNat, p.1.toNat, by omega, by omega, by omega, ?_⟩
    have : keyOf p = [.inl p.2, .inl p.1] := key_hi (show p.2 < p.1 by omega)
    rw [this, show ((p.1.toNat : Nat) : Int) = p.1 by omega, show ((p.2.toNat : Nat) : Int) = p.2 by omega]
theorem two_in {n : Nat} {a b : Int} (a0 : 0 ≤ a) (ab : a < b) (bn : b < n) : [Sum.inl a, Sum.inl b] ∈ twos n := by
  unfold twos
  rw [mem_twosTo]
  exact ⟨a.toNat, b.toNat, by omega, by omega, by omega, by rw [show ((a.toNat : Nat) : Int) = a by omega, show ((b.toNat : Nat) : Int) = b by omega]⟩
/-- the keys so far, of the rows ahead and a row's first ones -/
theorem keys_upto {pl : List (List (Int × Int))} {i j : Nat} {row : List (Int × Int)} (hr : pl[i]? = some row) {p : Int × Int} (hp : row[j]? = some p) : (keysOf (pl.take i) ++ (row.take j).map keyOf) ++ [keyOf p] = keysOf (pl.take i) ++ (row.take (j + 1)).map keyOf := by
  rw [take_snoc hp, List.map_append, List.append_assoc]
  rfl
theorem keys_row {pl : List (List (Int × Int))} {i : Nat} {row : List (Int × Int)} (hr : pl[i]? = some row) : keysOf (pl.take i) ++ row.map keyOf = keysOf (pl.take (i + 1)) := by
  unfold keysOf
  rw [take_snoc hr, List.flatten_append, List.map_append]
  simp
theorem dc2_sw {k v a p b q : Expr} {sc : Scope} {ps py : Pos} {y : Str} {l : Nat} {en : Env} (hk : en.scope.kind = .function) (hy : en.scope.names.lookup y = some .local) (hl : (py.line == ps.line) = true) (ha : (sc.names.any fun z => z.1 == y && (z.2 == .local || z.2 == .cell)) = false) :
    swapsWith (DC2 k v a p b q sc ps) (some (.Name y py)) l en = pure true := by
  have one : en.kindOf y = some .local := hy
  have fn : en.blockKind = .function := by
    unfold Env.blockKind
    rw [hk]
    rfl
  unfold swapsWith
  simp only [fn, one, ha, Expr.pos, hl]
  rfl
end EM
namespace EM
open PySem
def topS (i : Nat) : Stmt := PySem.Challenge.pw_everymeets_k05_refused.main.body.getD i (.Pass ⟨0, 0, 0, 0⟩)
abbrev t__wall : Stmt := topS 0
abbrev c_MeetError : Stmt := topS 2
abbrev c_BadTeams : Stmt := topS 3
abbrev c_BadTeam : Stmt := topS 4
abbrev c_BadRound : Stmt := topS 5
abbrev c_BadPlan : Stmt := topS 6
abbrev c_Alike : Stmt := topS 7
abbrev c_NotGood : Stmt := topS 8
abbrev t_is_number : Stmt := topS 11
abbrev t_is_counted : Stmt := topS 12
abbrev t_check_teams : Stmt := topS 13
abbrev t_check_judged_teams : Stmt := topS 14
abbrev t_check_team : Stmt := topS 15
abbrev t_check_round : Stmt := topS 16
abbrev t_check_plan : Stmt := topS 17
abbrev t__is_pair : Stmt := topS 18
abbrev t_opponent : Stmt := topS 20
abbrev t_at_home : Stmt := topS 21
abbrev t_round_of : Stmt := topS 22
abbrev t_break_of : Stmt := topS 23
abbrev t__check_team_in_round : Stmt := topS 24
abbrev t_pairs_of_each : Stmt := topS 26
abbrev t_pairs_of_two : Stmt := topS 27
abbrev c_Answer : Stmt := topS 29
abbrev c_Good : Stmt := topS 30
abbrev c_Lone : Stmt := topS 31
abbrev c_Twice : Stmt := topS 32
abbrev c_Never : Stmt := topS 33
abbrev t_judged : Stmt := topS 35
abbrev t_breaks : Stmt := topS 36
abbrev t__lone_team : Stmt := topS 37
abbrev t__wrong_two : Stmt := topS 38
abbrev t__home_of_each : Stmt := topS 39
abbrev t__law_cell_at : Stmt := topS 41
abbrev t__law_draw : Stmt := topS 42
abbrev t__law_value : Stmt := topS 43
abbrev t__law_teams : Stmt := topS 44
abbrev t__law_plan : Stmt := topS 45
abbrev t__law_kinds : Stmt := topS 46
abbrev t__law_with_teams : Stmt := topS 47
abbrev t__law_with_team : Stmt := topS 48
abbrev t__law_with_round : Stmt := topS 49
abbrev t__law_with_plan : Stmt := topS 50
abbrev t__law_told : Stmt := topS 51
abbrev t__law_all : Stmt := topS 52
abbrev t_law : Stmt := topS 53
end EM
namespace EM
open PySem PySem.Spec PyProof.Rows L2
theorem scIsNumber : FnScope ["value"] ["value"] (defScope t_is_number) := ⟨rfl, rfl, rfl, by decide +kernel, rfl, by decide +kernel, by decide +kernel⟩
theorem scChkTeams : FnScope ["teams"] ["teams"] (defScope t_check_teams) := ⟨rfl, rfl, rfl, by decide +kernel, rfl, by decide +kernel, by decide +kernel⟩
theorem scChkTeam : FnScope ["teams", "team"] ["teams", "team"] (defScope t_check_team) := ⟨rfl, rfl, rfl, by decide +kernel, rfl, by decide +kernel, by decide +kernel⟩
theorem scChkRound : FnScope ["teams", "number"] ["teams", "number"] (defScope t_check_round) := ⟨rfl, rfl, rfl, by decide +kernel, rfl, by decide +kernel, by decide +kernel⟩
theorem scChkTR : FnScope ["teams", "team", "number"] ["teams", "team", "number"] (defScope t__check_team_in_round) := ⟨rfl, rfl, rfl, by decide +kernel, rfl, by decide +kernel, by decide +kernel⟩
section
variable {P : Program} {w : World} {K : PySem.W.Frag} {mg : Str → Option Value} {base : Heap}
/-! ### is_number -/
def spWhole : Sp := fun vs H Q _ => ∃ n : Int, vs = [.int n] ∧ Q (.bl true) H
theorem fn_isNumber (d : DefAt K mg "is_number" t_is_number ["value"]) (T : Names mg) : Fn P w K mg base "is_number" ["value"] 1 spWhole := by
  refine d.fn scIsNumber (fun vs H Q E h => ?_) (fun f cdv A outer s H vs Q E hr h => ?_)
  · obtain ⟨n, rfl, _⟩ := h
    rfl
  · obtain ⟨n, rfl, q⟩ := h
    refine ⟨_, pss_one (ps_ret (pe_and (pe_callB call_isi (by rfl) T.isinst boot_isinstance (pa_cons (pv 0) (pa_cons (pe_bltn (v := .ty "int") (by rfl) T.int boot_int rfl) pa_nil)))
      (pe_one (pe_not (pe_callB call_isi (by rfl) T.isinst boot_isinstance (pa_cons (pv 0) (pa_cons (pe_bltn (v := .ty "bool") (by rfl) T.bool boot_bool rfl) pa_nil))))))), ?_⟩
    refine ⟨.int n, rfl, .int n, .ty "int", _, _, true, rfl, .ty "int", .base (.int n), kit_ty (by decide +kernel), true, rfl, iteT ?_⟩
    exact ⟨.int n, rfl, .int n, .ty "bool", _, _, false, rfl, .ty "bool", .base (.int n), kit_ty (by decide +kernel), false, rfl, q⟩
/-! ### check_teams, check_team, check_round -/
def spTeams : Sp := fun vs H Q _ => ∃ t : Int, vs = [.int t] ∧ TOk t ∧ Q .non H
theorem fn_chkTeams (d : DefAt K mg "check_teams" t_check_teams ["teams"]) (F : Fn P w K mg base "is_number" ["value"] 1 spWhole) : Fn P w K mg base "check_teams" ["teams"] 2 spTeams := by
  refine d.fn scChkTeams (fun vs H Q E h => ?_) (fun f cdv A outer s H vs Q E hr h => ?_)
  · obtain ⟨n, rfl, _⟩ := h
    rfl
  · obtain ⟨t, rfl, T, q⟩ := h
    refine ⟨_, pss_one (ps_if (PW.pt (pw_or (pt_not (pt_val (pe_f F hr (by decide) (by rfl) (pa_cons (pv 0) pa_nil))))
      (pw_or (pt_cmpR op_lt (pv 0) pe_int (nomark _)) (pw_or1 (pt_cmpR op_ne (pe_op op_mod (pv 0) pe_int) pe_int (nomark _))))))
      (pss_one ps_never) pss_nil), ?_⟩
    have := T.two
    refine ⟨.int t, rfl, t, rfl, true, rfl, iteF ⟨.int t, rfl, t, 2, rfl, rfl, _, rfl, itF (by omega) ?_⟩⟩
    exact ⟨.int t, rfl, t, 2, rfl, rfl, (by show (0 : Int) < 2; decide), rfl, _, rfl, iteNS (c := V.int (t % 2) = V.int 0) (by rw [T.even]) q⟩
/-! ### is_counted -/
theorem scCounted : FnScope ["many", "value"] ["many", "value"] (defScope t_is_counted) := ⟨rfl, rfl, rfl, by decide +kernel, rfl, by decide +kernel, by decide +kernel⟩
def spCnt : Sp := fun vs H Q _ => ∃ n a : Int, vs = [.int n, .int a] ∧ Q (.bl (decide (0 ≤ a ∧ a < n))) H
theorem fn_counted (d : DefAt K mg "is_counted" t_is_counted ["many", "value"]) (F : Fn P w K mg base "is_number" ["value"] 1 spWhole) : Fn P w K mg base "is_counted" ["many", "value"] 2 spCnt := by
  refine d.fn scCounted (fun vs H Q E h => ?_) (fun f cdv A outer s H vs Q E hr h => ?_)
  · obtain ⟨n, a, rfl, _⟩ := h
    rfl
  · obtain ⟨n, a, rfl, q⟩ := h
    refine ⟨_, pss_one (ps_ret (pe_and (pe_f F hr (by decide) (by rfl) (pa_cons (pv 1) pa_nil)) (pe_one (pe_chain op_le op_lt pe_int (pv 1) (pv 0))))), ?_⟩
    refine ⟨.int a, rfl, a, rfl, true, rfl, iteT ⟨.int a, rfl, 0, a, rfl, rfl, _, rfl, ite2 (fun z => ?_) (fun z => ?_)⟩⟩
    · have z : 0 ≤ a := of_decide_eq_true z
      refine ⟨.int n, rfl, a, n, rfl, rfl, ?_⟩
      have e : decide (0 ≤ a ∧ a < n) = decide (a < n) := decide_eq_decide.mpr ⟨fun h => h.2, fun h => ⟨z, h⟩⟩
      rw [e] at q
      exact q
    · have z : ¬ 0 ≤ a := fun y => z (decide_eq_true y)
      rw [decide_eq_false fun y => z y.1] at q
      exact q
def spTeam : Sp := fun vs H Q _ => ∃ t a : Int, vs = [.int t, .int a] ∧ 0 ≤ a ∧ a < t ∧ Q .non H
theorem fn_chkTeam (d : DefAt K mg "check_team" t_check_team ["teams", "team"]) (F : Fn P w K mg base "is_counted" ["many", "value"] 2 spCnt) : Fn P w K mg base "check_team" ["teams", "team"] 3 spTeam := by
  refine d.fn scChkTeam (fun vs H Q E h => ?_) (fun f cdv A outer s H vs Q E hr h => ?_)
  · obtain ⟨t, a, rfl, _⟩ := h
    rfl
  · obtain ⟨t, a, rfl, a0, a1, q⟩ := h
    refine ⟨_, pss_one (ps_if (pt_not (pt_val (pe_f F hr (by decide) (by rfl) (pa_cons (pv 0) (pa_cons (pv 1) pa_nil))))) (pss_one ps_never) pss_nil), ?_⟩
    refine ⟨.int t, rfl, .int a, rfl, t, a, rfl, _, rfl, ?_⟩
    rw [decide_eq_true (⟨a0, a1⟩ : 0 ≤ a ∧ a < t)]
    exact iteF q
def spRound : Sp := fun vs H Q _ => ∃ t r : Int, vs = [.int t, .int r] ∧ 0 ≤ r ∧ r < t - 1 ∧ Q .non H
theorem fn_chkRound (d : DefAt K mg "check_round" t_check_round ["teams", "number"]) (F : Fn P w K mg base "is_counted" ["many", "value"] 2 spCnt) : Fn P w K mg base "check_round" ["teams", "number"] 3 spRound := by
  refine d.fn scChkRound (fun vs H Q E h => ?_) (fun f cdv A outer s H vs Q E hr h => ?_)
  · obtain ⟨t, a, rfl, _⟩ := h
    rfl
  · obtain ⟨t, a, rfl, a0, a1, q⟩ := h
    refine ⟨_, pss_one (ps_if (pt_not (pt_val (pe_f F hr (by decide) (by rfl) (pa_cons (pe_op op_sub (pv 0) pe_int) (pa_cons (pv 1) pa_nil))))) (pss_one ps_never) pss_nil), ?_⟩
    refine ⟨.int t, rfl, t, 1, rfl, rfl, .int a, rfl, t - 1, a, rfl, _, rfl, ?_⟩
    rw [decide_eq_true (⟨a0, a1⟩ : 0 ≤ a ∧ a < t - 1)]
    exact iteF q
def spTR : Sp := fun vs H Q _ => ∃ t a r : Int, vs = [.int t, .int a, .int r] ∧ TOk t ∧ 0 ≤ a ∧ a < t ∧ 0 ≤ r ∧ r < t - 1 ∧ Q .non H
theorem fn_chkTR (d : DefAt K mg "_check_team_in_round" t__check_team_in_round ["teams", "team", "number"]) (F1 : Fn P w K mg base "check_teams" ["teams"] 2 spTeams) (F2 : Fn P w K mg base "check_team" ["teams", "team"] 3 spTeam) (F3 : Fn P w K mg base "check_round" ["teams", "number"] 3 spRound) : Fn P w K mg base "_check_team_in_round" ["teams", "team", "number"] 4 spTR := by
  refine d.fn scChkTR (fun vs H Q E h => ?_) (fun f cdv A outer s H vs Q E hr h => ?_)
  · obtain ⟨t, a, r, rfl, _⟩ := h
    rfl
  · obtain ⟨t, a, r, rfl, T, a0, a1, r0, r1, q⟩ := h
    refine ⟨_, pss_cons (ps_expr (pe_f F1 hr (by decide) (by rfl) (pa_cons (pv 0) pa_nil))) (pss_cons (ps_expr (pe_f F2 hr (by decide) (by rfl) (pa_cons (pv 0) (pa_cons (pv 1) pa_nil))))
      (pss_one (ps_expr (pe_f F3 hr (by decide) (by rfl) (pa_cons (pv 0) (pa_cons (pv 2) pa_nil)))))), ?_⟩
    exact ⟨.int t, rfl, t, rfl, T, .int t, rfl, .int a, rfl, t, a, rfl, a0, a1, .int t, rfl, .int r, rfl, t, r, rfl, r0, r1, q⟩
end
end EM
namespace EM
open PySem PySem.Spec PyProof.Rows L2
/-! ### pairs_of_two -/
theorem scTwo : FnScope ["teams", "plan", "counts", "pairs", "home", "away", "one", "other"] ["teams", "plan"] (defScope t_pairs_of_two) := ⟨rfl, rfl, rfl, by decide +kernel, rfl, by decide +kernel, by decide +kernel⟩
section
variable {P : Program} {w : World} {K : PySem.W.Frag} {mg : Str → Option Value} {base : Heap}
def spTwo : Sp := fun vs H Q _ => ∃ (t : Int) (v : V) (pl : List (List (Int × Int))), vs = [.int t, v] ∧ 2 ≤ t ∧ t ≤ 20 ∧ LAt RowAt H v pl ∧ Valid t pl ∧ ∀ G p, Same H G → H p = none → G p = some (.dT (tab (twos t.toNat) (keysOf pl))) → Q (.ref p) G
theorem fn_two0 (d : DefAt K mg "pairs_of_two" t_pairs_of_two ["teams", "plan"]) (N : Names mg) : Fn P w K mg base "pairs_of_two" ["teams", "plan"] 1 spTwo := by
  refine d.fn scTwo (fun vs H Q E h => ?_) (fun f cdv A outer s H vs Q E hr h => ?_)
  · obtain ⟨t, v, pl, rfl, _⟩ := h
    rfl
  · obtain ⟨t, v, pl, rfl, t2, t20, hP, hv, q⟩ := h
    refine ⟨_, pss_cons (ps_setDc2 (i := 2) (own := [("one", 6), ("other", 7)]) (vs1 := [7]) (g := gName 6) (g1 := gName 7) rfl scTwo.nd rfl rfl (dc2_sw rfl rfl rfl (by decide +kernel)) (Nat.lt_of_succ_lt (hu_of hr)) (pi_range1 (by rfl) N.range (pa_cons (pv 0) pa_nil))
        (blkOk_by (N := ["teams", "plan", "counts", "pairs", "home", "away", "one", "other"]) (sc := defScope t_pairs_of_two) (by decide +kernel)) (fun j hj => by rw [List.mem_singleton.mp hj]; decide)
        (fun _ _ _ _ _ => pg_name (i := 6) scTwo.nd rfl (Or.inl rfl)) (fun _ _ _ _ _ => pi_range2 (by rfl) N.range (pa_cons (pe_op op_add (pv 6) pe_int) (pa_cons (pv 0) pa_nil))) (fun _ _ _ _ _ => pg_name (i := 7) scTwo.nd rfl (Or.inl rfl))
        (fun _ _ _ _ _ => pe_tup (pa_cons (pv 6) (pa_cons (pv 7) pa_nil))) (fun _ _ _ _ _ => pe_int))
      (pss_cons (ps_for PassesOwn.never rfl (pi_list (pv 1)) (pg_name (i := 3) scTwo.nd rfl (.inl rfl))
        (pss_one (ps_for PassesOwn.never rfl (pi_list (pv 3)) (pg_tup rfl (pgs_cons (pg_name (i := 4) scTwo.nd rfl (.inl rfl)) (pgs_cons (pg_name (i := 5) scTwo.nd rfl (.inl rfl)) pgs_nil)))
          (pss_one (ps_daug (hu_of hr) (pv 2) (pe_tup (pa_cons (pe_callB (call_min2 rfl) (by rfl) N.min boot_min (pa_cons (pv 4) (pa_cons (pv 5) pa_nil))) (pa_cons (pe_callB (call_max2 rfl) (by rfl) N.max boot_max (pa_cons (pv 4) (pa_cons (pv 5) pa_nil))) pa_nil))) pe_int in_add (fun _ _ _ => rfl))))))
      (pss_one (ps_ret (pv 2)))), ?_⟩
    obtain ⟨n, rfl⟩ : ∃ n : Nat, t = (n : Int) := ⟨t.toNat, by omega⟩
    have tn : ((n : Int)).toNat = n := Int.toNat_natCast n
    rw [tn] at q
    refine ⟨.int n, rfl, n, rfl, by omega, by omega, fun D nD => ?_⟩
    refine ⟨fun i m G => m = n - i ∧ i ≤ n ∧ Same H G ∧ G D = some (.dT (tab (twosTo n i) [])), ⟨n, rfl, Nat.zero_le _, same_upd nD, upd_same⟩, ?_⟩
    rintro i m G ⟨rfl, le, s1, e1⟩
    by_cases lt : i < n
    · refine .inr ⟨lt, fun G' => Same H G' ∧ G' D = some (.dT (tab (twosTo n (i + 1)) [])), fun G' h => ⟨n - (i + 1), by omega, rfl, lt, h⟩, ?_⟩
      rintro x G' ⟨rfl, rfl⟩
      rw [Int.zero_add]
      refine ⟨rfl, .int i, rfl, i, 1, rfl, rfl, .int n, rfl, i + 1, n, rfl, by omega, ?_⟩
      have cnt : ((n : Int) - ((i : Int) + 1)).toNat = n - (i + 1) := by omega
      rw [cnt]
      refine ⟨fun j m G => m = (n - (i + 1)) - j ∧ j ≤ n - (i + 1) ∧ Same H G ∧ G D = some (.dT (tab (twosTo n i ++ keyTo n i j) [])), ⟨_, rfl, Nat.zero_le _, s1, by rw [e1]; unfold keyTo; simp⟩, ?_⟩
      rintro j m G2 ⟨rfl, le2, s2, e2⟩
      by_cases lt2 : j < n - (i + 1)
      · refine .inr ⟨lt2, fun G' => Same H G' ∧ G' D = some (.dT (tab (twosTo n i ++ keyTo n i (j + 1)) [])), fun G' h => ⟨(n - (i + 1)) - (j + 1), by omega, rfl, lt2, h⟩, ?_⟩
        rintro x G' ⟨rfl, rfl⟩
        refine ⟨rfl, .int i, rfl, .int (i + 1 + j), rfl, by show 2 ≤ sizeLine; decide, fun b nb => ?_⟩
        have s3 := same_upd (o := .tup [.int (i : Int), .int ((i : Int) + 1 + (j : Int))]) nb
        have len := twos_part_len (n := n) (i := i) (j := j) (by omega)
        have room : (i + 1) * n ≤ 20 * 20 := Nat.mul_le_mul (by omega) (by omega)
        refine ⟨b, tab (twosTo n i ++ keyTo n i j) [], [.inl (i : Int), .inl ((i : Int) + 1 + (j : Int))], rfl, s3 _ _ e2, upd_same, ?_, ?_, ?_⟩
        · unfold tab
          rw [List.length_map]
          exact small1000 (by omega)
        · refine fun c o ec => ?_
          rw [upd_ne (ne_of_none ec nD)]
          exact s3 _ _ (s2 _ _ ec)
        · rw [upd_same, tab_new twos_new, keyTo_succ, ← List.append_assoc]
      · obtain rfl : j = n - (i + 1) := by omega
        exact .inl ⟨Nat.le_refl _, s2, by rw [e2]; rfl⟩
    · obtain rfl : i = n := by omega
      refine .inl ⟨Nat.le_refl _, ?_⟩
      have e1 : G D = some (.dT (tab (twos i) (keysOf (pl.take 0)))) := e1
      obtain ⟨a, us, rfl, ea, au⟩ := hP
      have ea1 := s1 _ _ ea
      have klen : (tab (twos i) []).length ≤ 400 := by
        unfold tab
        rw [List.length_map]
        exact Nat.le_trans (twosTo_len i i) (Nat.mul_le_mul (show i ≤ 20 by omega) (show i ≤ 20 by omega))
      refine ⟨.ref a, rfl, a, rfl, ⟨_, SqL.of ea1⟩, for_list (K := K) (a := a) (xs := us) (fun r σ G' => ∃ y3 y4 y5, σ = [some (.int i), some (.ref a), some (.ref D), y3, y4, y5, none, none] ∧ Same H G' ∧ G' D = some (.dT (tab (twos i) (keysOf (pl.take r)))))
        ⟨_, _, _, rfl, s1, e1⟩ (fun r σ G' _ ⟨_, _, _, _, h, _⟩ => SqL.of (h _ _ ea)) ?_ ?_⟩
      · rintro r x σ G1 hx ⟨y3, y4, y5, rfl, s2, e2⟩
        obtain ⟨row, hrow, q', ws, rfl, hq, aw⟩ := au.at hx
        refine ⟨.ref q', rfl, q', rfl, ⟨_, SqL.of (s2 _ _ hq)⟩, for_list (K := K) (a := q') (xs := ws) (fun j σ G' => ∃ y4 y5, σ = [some (.int i), some (.ref a), some (.ref D), some (.ref q'), y4, y5, none, none] ∧ Same H G' ∧ G' D = some (.dT (tab (twos i) (keysOf (pl.take r) ++ (row.take j).map keyOf))))
          ⟨_, _, rfl, s2, by rw [e2]; simp⟩ (fun j σ G' _ ⟨_, _, _, h, _⟩ => SqL.of (h _ _ hq)) ?_ ?_⟩
        · rintro j y σ G2 hy ⟨y4, y5, rfl, s3, e3⟩
          obtain ⟨p, hp, qp, rfl, hqp⟩ := aw.at hy
          have ep := s3 _ _ hqp
          have inn : keyOf p ∈ twos i := by
            have := key_in (hv row (List.mem_of_getElem? hrow) p (List.mem_of_getElem? hp))
            rw [tn] at this
            exact this
          refine ⟨qp, _, rfl, SqT.of ep, rfl, _, _, rfl, _, _, rfl, rfl, ?_⟩
          refine ⟨.ref D, rfl, _, rfl, _, rfl, p.1, p.2, rfl, _, rfl, _, rfl, p.1, p.2, rfl, by show 2 ≤ sizeLine; decide, fun b nb => ?_⟩
          have s4 := same_upd (o := .tup [.int (if p.2 < p.1 then p.2 else p.1), .int (if p.2 > p.1 then p.2 else p.1)]) nb
          have e4 := s4 _ _ e3
          refine ⟨D, _, rfl, by rw [← tab_val inn]; exact DGet.t (k := keyOf p) e4 upd_same, _, 1, rfl, rfl, _, DPut.t (k := keyOf p) e4 upd_same (by unfold tab at klen ⊢; rw [List.length_map] at klen ⊢; exact small1000 (by omega)), ?_⟩
          refine ⟨_, _, rfl, fun c o ec => ?_, ?_⟩
          · rw [upd_ne (ne_of_none ec nD)]
            exact s4 _ _ (s3 _ _ ec)
          · rw [upd_same]
            refine (congrArg (fun x => some (HO.dT x)) (tab_add inn)).trans ?_
            rw [keys_upto hrow hp]
        · rintro σ G2 ⟨y4, y5, rfl, s3, e3⟩
          refine ⟨_, _, _, rfl, s3, ?_⟩
          rw [e3, aw.len, List.take_length, keys_row hrow]
      · rintro σ G1 ⟨y3, y4, y5, rfl, s2, e2⟩
        refine ⟨.ref D, rfl, q G1 D s2 nD ?_⟩
        rw [e2, au.len, List.take_length]
end
end EM
namespace EM
open PySem PySem.Spec PyProof.Rows L2
/-! ### pairs_of_each -/
def rGetL (K : PySem.W.Frag) : R2 := fun x y H Q => ∃ (p : Addr) (xs : List V) (i : Nat) (z : V), x = .ref p ∧ y = .int (i : Int) ∧ SqL K H p xs ∧ xs[i]? = some z ∧ Q z H
theorem get_listN {X : Cx} : PGet X (rGetL X.K) := by
  intro pins s σ H o i ov iv Q I ro ri h
  obtain ⟨p, xs, n, z, rfl, rfl, hq, he, q⟩ := h
  cases ro
  obtain ⟨t, rfl⟩ := ri
  obtain ⟨its, r, pl, hz⟩ := I.list hq
  obtain ⟨w, ew, rw'⟩ := r.get he
  have lt := (List.getElem?_eq_some_iff.mp ew).1
  have line := line63
  have len := r.length
  refine wpAny_getItem_list pl.isList (by omega) (by omega) (x := w) ?_ ⟨z, H, I, rw', q⟩
  rw [Int.toNat_natCast]
  simpa using ew
def eachL (n : Nat) (g : Nat → Int) : List V := (List.range n).map fun c => V.int (g c)
theorem eachL_len (n : Nat) (g : Nat → Int) : (eachL n g).length = n := by
  unfold eachL
  rw [List.length_map, List.length_range]
theorem at_each {n : Nat} {g : Nat → Int} {j : Nat} (h : j < n) : (eachL n g)[j]? = some (.int (g j)) := by
  unfold eachL
  rw [List.getElem?_map, List.getElem?_range h]
  rfl
theorem set_each {n : Nat} {g : Nat → Int} {j : Nat} {z : Int} : (eachL n g).set j (.int z) = eachL n (fun c => if c = j then z else g c) := by
  refine List.ext_getElem? fun i => ?_
  by_cases hi : i < n
  · rw [at_each hi]
    by_cases e : j = i
    · subst e
      rw [List.getElem?_set_self (by rw [eachL_len]; exact hi), if_pos rfl]
    · rw [List.getElem?_set_ne e, at_each hi, if_neg (fun z => e z.symm)]
  · rw [List.getElem?_eq_none (by rw [List.length_set, eachL_len]; omega), List.getElem?_eq_none (by rw [eachL_len]; omega)]
theorem each_zero (n : Nat) : (List.replicate n [V.int 0]).flatten = eachL n fun _ => 0 := by
  unfold eachL
  rw [List.map_const', List.length_range]
  induction n with
  | zero => rfl
  | succ n ih =>
    rw [List.replicate_succ, List.flatten_cons, ih, List.replicate_succ]
    rfl
theorem cnt_take {row : List (Int × Int)} {i : Nat} {p : Int × Int} (h : row[i]? = some p) (ne : p.1 ≠ p.2) (c : Int) : ((cntOf (row.take (i + 1)) c : Nat) : Int) = ((cntOf (row.take i) c : Nat) : Int) + (if c = p.1 then 1 else 0) + (if c = p.2 then 1 else 0) := by
  unfold cntOf
  rw [take_snoc h, List.filter_append, List.length_append]
  by_cases e1 : p.1 = c
  · have : hasB c p = true := hasB_iff.mpr (.inl e1)
    rw [if_pos e1.symm, if_neg (fun z => ne (e1.trans z)), List.filter_cons_of_pos this]
    simp
  · by_cases e2 : p.2 = c
    · have : hasB c p = true := hasB_iff.mpr (.inr e2)
      rw [if_neg (fun z => e1 z.symm), if_pos e2.symm, List.filter_cons_of_pos this]
      simp
    · have : ¬ hasB c p = true := fun z => (hasB_iff.mp z).elim e1 e2
      rw [if_neg (fun z => e1 z.symm), if_neg (fun z => e2 z.symm), List.filter_cons_of_neg this]
      simp
theorem scEach : FnScope ["teams", "pairs", "counts", "home", "away"] ["teams", "pairs"] (defScope t_pairs_of_each) := ⟨rfl, rfl, rfl, by decide +kernel, rfl, by decide +kernel, by decide +kernel⟩
section
variable {P : Program} {w : World} {K : PySem.W.Frag} {mg : Str → Option Value} {base : Heap}
def eachOf (t : Int) (row : List (Int × Int)) : List V := eachL t.toNat fun c => ((cntOf row (c : Int) : Nat) : Int)
def spEach : Sp := fun vs H Q _ => ∃ (t : Int) (v : V) (row : List (Int × Int)), vs = [.int t, v] ∧ 2 ≤ t ∧ t ≤ 20 ∧ RowAt H v row ∧ VRow t row ∧ ∀ G p, Same H G → H p = none → G p = some (.lst (eachOf t row)) → Q (.ref p) G
theorem fn_each (d : DefAt K mg "pairs_of_each" t_pairs_of_each ["teams", "pairs"]) : Fn P w K mg base "pairs_of_each" ["teams", "pairs"] 1 spEach := by
  refine d.fn scEach (fun vs H Q E h => ?_) (fun f cdv A outer s H vs Q E hr h => ?_)
  · obtain ⟨t, v, row, rfl, _⟩ := h
    rfl
  · obtain ⟨t, v, row, rfl, t2, t20, hR, hv, q⟩ := h
    refine ⟨_, pss_cons (ps_set (i := 2) scEach.nd rfl (.inl rfl) (pe_op op_rep (pe_lst (pa_cons pe_int pa_nil)) (pv 0)))
      (pss_cons (ps_for PassesOwn.never rfl (pi_list (pv 1)) (pg_tup rfl (pgs_cons (pg_name (i := 3) scEach.nd rfl (.inl rfl)) (pgs_cons (pg_name (i := 4) scEach.nd rfl (.inl rfl)) pgs_nil)))
        (pss_cons (ps_augS (pv 2) (pv 3) get_listN pe_int ip_add set_list) (pss_one (ps_augS (pv 2) (pv 4) get_listN pe_int ip_add set_list))))
      (pss_one (ps_ret (pv 2)))), ?_⟩
    obtain ⟨n, rfl⟩ : ∃ n : Nat, t = (n : Int) := ⟨t.toNat, by omega⟩
    have tn : ((n : Int)).toNat = n := Int.toNat_natCast n
    unfold eachOf at q
    rw [tn] at q
    obtain ⟨a, us, rfl, ea, au⟩ := hR
    refine ⟨by show 1 ≤ sizeLine; decide, fun L nL => ?_⟩
    have sL := same_upd (o := .lst [.int 0]) nL
    refine ⟨.int n, rfl, L, n, [.int 0], rfl, rfl, upd_same, by omega, by omega, ?_, fun D nD => ?_⟩
    · rw [tn]
      exact Nat.le_of_lt (small1000 (by simp; omega))
    rw [tn, each_zero]
    have sD := same_upd (o := .lst (eachL n fun _ => 0)) nD
    have nD0 : H D = none := sL.free nD
    refine ⟨.ref a, rfl, a, rfl, ⟨_, SqL.of (sD _ _ (sL _ _ ea))⟩, for_list (K := K) (a := a) (xs := us) (fun i σ G => ∃ y3 y4, σ = [some (.int n), some (.ref a), some (.ref D), y3, y4] ∧ Same H G ∧ G D = some (.lst (eachL n fun c => ((cntOf (row.take i) (c : Int) : Nat) : Int))))
      ⟨_, _, rfl, sL.trans sD, upd_same⟩ (fun i σ G _ ⟨_, _, _, h, _⟩ => SqL.of (h _ _ ea)) ?_ ?_⟩
    · rintro i x σ G hx ⟨y3, y4, rfl, s1, e1⟩
      obtain ⟨p, hp, qp, rfl, hqp⟩ := au.at hx
      obtain ⟨b0, b1, b2, b3, ne⟩ := hv p (List.mem_of_getElem? hp)
      obtain ⟨h, hh⟩ : ∃ h : Nat, p.1 = (h : Int) := ⟨p.1.toNat, by omega⟩
      obtain ⟨k, hk⟩ : ∃ k : Nat, p.2 = (k : Int) := ⟨p.2.toNat, by omega⟩
      have hn : h < n := by omega
      have kn : k < n := by omega
      refine ⟨qp, _, rfl, SqT.of (s1 _ _ hqp), rfl, _, _, rfl, _, _, rfl, rfl, ?_⟩
      refine ⟨.ref D, rfl, .int p.1, rfl, D, _, h, _, rfl, by rw [hh], SqL.of e1, at_each hn, _, 1, rfl, rfl, D, _, p.1, h, rfl, rfl, e1, ?_, ?_⟩
      · rw [eachL_len, hh]
        unfold ixN
        rw [if_pos (by omega), if_pos (by omega), Int.toNat_natCast]
      rw [set_each]
      refine ⟨.ref D, rfl, .int p.2, rfl, D, _, k, _, rfl, by rw [hk], SqL.of upd_same, at_each kn, _, 1, rfl, rfl, D, _, p.2, k, rfl, rfl, upd_same, ?_, ?_⟩
      · rw [eachL_len, hk]
        unfold ixN
        rw [if_pos (by omega), if_pos (by omega), Int.toNat_natCast]
      rw [set_each]
      refine ⟨_, _, rfl, fun c o ec => ?_, ?_⟩
      · have ncD : c ≠ D := ne_of_none ec nD0
        rw [upd_ne ncD, upd_ne ncD]
        exact s1 _ _ ec
      · rw [upd_same]
        congr 3
        funext c
        rw [cnt_take hp ne, hh, hk]
        have nhk : h ≠ k := fun z => ne (by rw [hh, hk, z])
        by_cases e2 : c = k
        · rw [if_pos e2, e2, if_neg (fun z : k = h => nhk z.symm), if_pos rfl, if_neg (fun z => nhk (by omega))]
          dsimp only
          omega
        · rw [if_neg e2, if_neg (fun z : (c : Int) = (k : Int) => e2 (by omega))]
          by_cases e3 : c = h
          · rw [if_pos e3, e3, if_pos rfl]
            dsimp only
            omega
          · rw [if_neg e3, if_neg (fun z : (c : Int) = (h : Int) => e3 (by omega))]
            omega
    · rintro σ G ⟨y3, y4, rfl, s1, e1⟩
      refine ⟨.ref D, rfl, q G D s1 nD0 ?_⟩
      rw [e1, au.len, List.take_length]
end
end EM
namespace EM
open PySem PySem.Spec PyProof.Rows L2
/-! ### C(): an own class that has no __init__ of its own -/
structure MkO (K : PySem.W.Frag) (C : Addr) : Prop where
  makes : PySem.W.makesIn K C = true
  init : PySem.W.findIn K (.ref C) "__init__" = some (some (.builtin "object.__init__"))
  kp : PySem.W.keepIn K (.ref C) = true
def tMakeO (C : Addr) : TE := fun _ H Q => ∀ x dx, H x = none → H dx = none → dx ≠ x → Q (.ref x) (upd (upd H dx (.own x)) x (.ins C dx []))
section
variable {X : Cx} {C : Addr} {x : Str} {p pos : Pos}
theorem pe_makeO (M : MkO X.K C) (hg : Gl X x) (hm : X.mg x = some (.ref C)) (hdb : (x == ("__debug__" : Str)) = false := by decide) : PE X (.Call (.Name x p) [] [] pos) (tMakeO C) := by
  refine ⟨fun pins s σ H Q I h => ?_⟩
  refine wpAny_Call_Name_kw (ld_glob I hg hm ?_ hdb)
  refine PySem.W.callWith_K0 I.kIn M.kp (wpAny_call ?_)
  have made := Inv.made (C := C) I
  have top := (PySem.W.makes_of (M := model X.prog X.w) I.kIn M.makes).top
  have up : ∀ b o, s.heap.get? b = some o → ((s.heap.push PySem.W.emptyDict).push (PySem.W.instObj C s.heap.objs.size)).get? b = some o := fun b o e => Heap.get?_push_of_some _ (Heap.get?_push_of_some _ e)
  have here : ((s.heap.push PySem.W.emptyDict).push (PySem.W.instObj C s.heap.objs.size)).get? (s.heap.objs.size + 1) = some (PySem.W.instObj C s.heap.objs.size) := by
    have e := Heap.get?_push_size (s.heap.push PySem.W.emptyDict) (o := PySem.W.instObj C s.heap.objs.size) rfl
    rw [Heap.size_push] at e
    exact e
  have ty : PySem.W.Looks (model X.prog X.w) ((s.heap.push PySem.W.emptyDict).push (PySem.W.instObj C s.heap.objs.size)) (typeOf (.ref (s.heap.objs.size + 1))) (.ref C) := (PySem.W.Looks.ld here).andThen .now
  refine make_map0 I.kIn M.makes M.init (fun self => PySem.W.Looks.of_pure (PySem.W.oi_bind self)) ?_
  refine codeAny_call_builtin PySem.W.oi_plain PySem.W.entry_oi (@PySem.W.check_slot (model X.prog X.w) _ _ _ "object.__init__" "object" "__init__" (.ref (s.heap.objs.size + 1)) [] [] _ PySem.W.oi_kind PySem.W.oi_split (ty.andThen (top.keeps up)) (PySem.W.oi_args _) ?_)
  rw [PySem.W.oi_run]
  refine wpAny_pure (And.intro rfl ?_)
  exact ⟨V.ref (s.heap.objs.size + 1), _, made, rfl, h _ _ (I.hok.fresh (Nat.le_succ _)) (I.hok.fresh (Nat.le_refl _)) (Nat.ne_of_lt (Nat.lt_succ_self _))⟩
end
end EM
namespace EM
open PySem PySem.Spec PyProof.Rows L2
/-! ### a op b op c op d as a test -/
section
variable {X : Cx} {a b c d : Expr} {ta tb tc td : TE} {pos : Pos}
def tCh3 (r r' r2 : R2) (ta tb tc td : TE) : TT := fun σ H Q => ta σ H fun x H1 => tb σ H1 fun y H2 => r x y H2 fun z H3 => ∃ k, z = .bl k ∧
  if k = true then tc σ H3 fun y2 H4 => r' y y2 H4 fun z2 H5 => ∃ k2, z2 = .bl k2 ∧ (if k2 = true then td σ H5 fun y3 H6 => r2 y2 y3 H6 fun z3 H7 => ∃ k3, z3 = .bl k3 ∧ Q k3 H7 else Q false H5) else Q false H3
theorem pt_chain3 {o1 o2 o3 : CmpOp} {r r' r2 : R2} (h1 : OpR X (compareOp o1) r) (h2 : OpR X (compareOp o2) r') (h3 : OpR X (compareOp o3) r2) (ha : PE X a ta) (hb : PE X b tb) (hc : PE X c tc) (hd : PE X d td)
    (hm : lastMarks [o1, o2, o3] [b, c, d] = false := by with_unfolding_all rfl) : PT X (.Compare a [o1, o2, o3] [b, c, d] pos) (tCh3 r r' r2 ta tb tc td) := by
  refine ⟨fun pins s σ H Q I h => ?_⟩
  refine isTrue_chain (thn (ha.run pins s σ H _ I h) fun v s1 ⟨x, H1, I1, r1, q1⟩ => test_link (thn (hb.run pins s1 σ H1 _ I1 q1) fun u s2 ⟨y, H2, I2, r2, q2⟩ =>
    thn (h1 pins s2 σ H2 x y v u _ I2 r1 r2 q2) fun d s3 ⟨z, H3, I3, r3, k, e, q3⟩ => ?_)) hm
  subst e
  cases r3
  refine wpAny_truthy_bool ?_
  cases k with
  | false => exact ite_ff ⟨H3, I3, q3⟩
  | true =>
    refine ite_tt (test_link (thn (hc.run pins s3 σ H3 _ I3 q3) fun u2 s4 ⟨y2, H4, I4, r4, q4⟩ => thn (h2 pins s4 σ H4 y y2 u u2 _ I4 r2 r4 q4) fun d2 s5 ⟨z2, H5, I5, r5, k2, e2, q5⟩ => ?_))
    subst e2
    cases r5
    refine wpAny_truthy_bool ?_
    cases k2 with
    | false => exact ite_ff ⟨H5, I5, q5⟩
    | true =>
      refine ite_tt (test_last (thn (hd.run pins s5 σ H5 _ I5 q5) fun u3 s6 ⟨y3, H6, I6, r6, q6⟩ => thn (h3 pins s6 σ H6 y2 y3 u2 u3 _ I6 r4 r6 q6) fun d3 s7 ⟨z3, H7, I7, r7, k3, e3, q7⟩ => ?_))
      subst e3
      cases r7
      exact wpAny_truthy_bool ⟨H7, I7, q7⟩
end
/-! ### o.m(e, ..) where o is of one of several classes -/
def tMethD (S : Addr → Sp → Prop) (m : Str) (ta : TE) (t : TA) : TE := fun σ H Q => ta σ H fun x H1 => ∃ a dx fs C sp, x = .ref a ∧ H1 a = some (.ins C dx fs) ∧ fs.lookup m = none ∧ S C sp ∧ t σ H1 fun vs H2 => sp (x :: vs) H2 Q E0
structure Serves (P : Program) (w : World) (K : PySem.W.Frag) (mg : Str → Option Value) (base : Heap) (k : Nat) (C : Addr) (m : Str) (sp : Sp) : Prop where
  ex : ∃ (f : Addr) (fd : FuncData) (ps : List Str), Meth K C m f ∧ FnOk P w K mg base CX0 k f fd ps sp ∧ Binds K fd ps []
  cls : Cls K C
section
variable {X : Cx} {o e : Expr} {es : List Expr} {m : Str} {ta : TE} {t : TA} {pos apos : Pos}
theorem pe_methD {S : Addr → Sp → Prop} {k j : Nat} {pl : Sem Bool} (he : PE X o ta) (hS : ∀ C sp, S C sp → Serves X.prog X.w X.K X.mg X.base k C m sp) (hr : Room j X.A) (hj : k ≤ j) (ha : PA X (e :: es) t)
    (hst : starEach (e :: es) X.env = (false, eval e X.env) :: starEach es X.env := by rfl) (hpl : (backTo pos (starEach es X.env)).any (·.1) = false := by rfl)
    (ht : eval (.Call (.Attribute o m apos) (e :: es) [] pos) X.env = (do
      let ov ← eval o X.env
      standAt apos.atName
      let (f, first) ← holding [ov] (getMethod ov m pl)
      callWith pos f first (backTo pos (starEach (e :: es) X.env)) (backToKw pos (keywordEach [] X.env))) := by rfl) :
    PE X (.Call (.Attribute o m apos) (e :: es) [] pos) (tMethD S m ta t) := by
  refine ⟨fun pins s σ H Q I h => ?_⟩
  refine PySem.W.methodCall_KW (pl := pl) (thn (he.run pins s σ H _ I h) fun u s1 ⟨x, H1, I1, rx, a, dx, fs, C, sp, ex, ea, l, hC, q⟩ => ?_) ht
  subst ex
  obtain rfl : u = Value.ref a := rx
  obtain ⟨⟨f, fd, ps, hm, F, hb⟩, c⟩ := hS C sp hC
  refine getmeth_ok I1 ea c hm l ?_
  refine PySem.W.callWith_K (first := [.ref a]) (h₀ := X.base) I.ok.mod.kin hm.kp (thn (ha.run pos pins s1 σ H1 _ I1 q) fun us s2 ⟨vs, H2, I2, r, q2⟩ => ⟨I2.kIn, ?_⟩) hst hpl
  have q3 : sp ((.ref a :: vs) ++ []) H2 Q E0 := by rw [List.append_nil]; exact q2
  have := run_fn (us := .ref a :: us) (vs := .ref a :: vs) (ds := []) (dvs := []) F (hr.mono hj) hb .nil pass0 I2 (.cons rfl r) q3
  exact this
end
/-! ### how many True stand in a list of truths -/
def rCntB (K : PySem.W.Frag) : V → List V → Hp → VK → Prop := fun x xs H Q => ∃ (p : Addr) (bs : List Bool) (b : Bool), x = .ref p ∧ xs = [.bl b] ∧ SqL K H p (bs.map V.bl) ∧ Q (.int ((bs.countP fun y => y == b : Nat) : Int)) H
theorem dpBools {K : PySem.W.Frag} {H : Hp} : ∀ bs : List Bool, DpAll K H (bs.map V.bl) (bs.map PyData.bool)
  | [] => .nil
  | b :: r => .cons (.bl b) (dpBools r)
theorem plainBools : ∀ bs : List Bool, PyData.plainAll (bs.map PyData.bool) = true
  | [] => rfl
  | b :: r => by
    show (PyData.plain (.bool b) && PyData.plainAll (r.map PyData.bool)) = true
    rw [plainBools r]
    rfl
theorem mt_countB {X : Cx} (hu : X.A.units + 64 < cLine) : MtR X "list.count" (rCntB X.K) := by
  intro pins s σ H x xs v us Q I rx rxs h
  obtain ⟨p, bs, b, rfl, rfl, hs, q⟩ := h
  cases rx
  obtain ⟨u, rfl, ru⟩ := rxs.one
  cases ru
  obtain ⟨its, rv, hl, hlen⟩ := I.list hs
  obtain ⟨as, rs⟩ := Dp.readsAll I (bs.map PyData.bool) _ its (dpBools bs) rv
  refine SeqAt.count_list_data (as := as) (xs := bs.map PyData.bool) (d := .bool b) hl.isList (by simpa using rs) (Reads.bool b) (plainBools bs) rfl (by show X.A.units + 1 + min _ 0 < cLine; rw [Nat.min_zero]; omega) ?_
  refine ⟨.int ((bs.countP fun y => y == b : Nat) : Int), H, I.tok _, ⟨s.toks, ?_⟩, q⟩
  have e : (bs.map PyData.bool).countP (fun y => PyData.eqv y (.bool b)) = bs.countP fun y => y == b := by
    rw [List.countP_map]
    refine List.countP_congr fun y _ => ?_
    cases y <;> cases b <;> decide
  show Value.int _ s.toks = Value.int _ s.toks
  rw [e]
/-! ### what is told of a plan -/
inductive Ans where
  | good
  | lone (n c : Int)
  | twice (a b : Int)
  | never (a b : Int)
def twoB (t a b : Int) : Bool := decide (0 ≤ a ∧ a < b ∧ b < t)
def showsB (t : Int) (pl : List (List (Int × Int))) : Ans → Bool
  | .good => goodB t pl
  | .lone n c => decide (0 ≤ n ∧ n < ((pl.length : Nat) : Int)) && (decide (0 ≤ c ∧ c < t) && !decide (V.int ((cntOf (rowN pl n.toNat) c : Nat) : Int) = V.int 1))
  | .twice a b => twoB t a b && decide (1 < oftenOf pl a b)
  | .never a b => twoB t a b && decide (oftenOf pl a b = 0)
def isGoodA : Ans → Bool
  | .good => true
  | _ => false
theorem shows_good {t : Int} {pl : List (List (Int × Int))} {A : Ans} (t2 : 2 ≤ t) (hv : Valid t pl) (h : showsB t pl A = true) : goodB t pl = isGoodA A := by
  cases A with
  | good => exact h
  | lone n c =>
    cases g : goodB t pl with
    | false => rfl
    | true =>
      have G := (goodB_iff t2 hv).mp g
      simp only [showsB, Bool.and_eq_true, decide_eq_true_eq, Bool.not_eq_true', decide_eq_false_iff_not] at h
      obtain ⟨⟨n0, n1⟩, ⟨c0, c1⟩, k⟩ := h
      have hn : n.toNat < pl.length := by omega
      have e : rowN pl n.toNat = pl[n.toNat] := by
        unfold rowN
        rw [List.getElem?_eq_getElem hn]
        rfl
      rw [e, G.once _ (List.getElem_mem hn) c c0 c1] at k
      exact absurd rfl k
  | twice a b =>
    cases g : goodB t pl with
    | false => rfl
    | true =>
      have G := (goodB_iff t2 hv).mp g
      simp only [showsB, twoB, Bool.and_eq_true, decide_eq_true_eq] at h
      have := G.meet a b h.1.1 h.1.2.1 h.1.2.2
      omega
  | never a b =>
    cases g : goodB t pl with
    | false => rfl
    | true =>
      have G := (goodB_iff t2 hv).mp g
      simp only [showsB, twoB, Bool.and_eq_true, decide_eq_true_eq] at h
      have := G.meet a b h.1.1 h.1.2.1 h.1.2.2
      omega
/-- the four classes of answers -/
structure Cs where
  g : Addr
  l : Addr
  t : Addr
  n : Addr
def Cs.of (c : Cs) : Ans → Addr
  | .good => c.g
  | .lone _ _ => c.l
  | .twice _ _ => c.t
  | .never _ _ => c.n
def FldsOk : Ans → List (Str × V) → Prop
  | .good, fs => fs.lookup ("shows" : Str) = none
  | .lone n c, fs => fs.lookup ("number" : Str) = some (.int n) ∧ fs.lookup ("team" : Str) = some (.int c) ∧ fs.lookup ("shows" : Str) = none
  | .twice a b, fs => fs.lookup ("one" : Str) = some (.int a) ∧ fs.lookup ("other" : Str) = some (.int b) ∧ fs.lookup ("shows" : Str) = none
  | .never a b, fs => fs.lookup ("one" : Str) = some (.int a) ∧ fs.lookup ("other" : Str) = some (.int b) ∧ fs.lookup ("shows" : Str) = none
theorem FldsOk.shows {A : Ans} {fs : List (Str × V)} (h : FldsOk A fs) : fs.lookup ("shows" : Str) = none := by
  cases A with
  | good => exact h
  | lone n c => exact h.2.2
  | twice a b => exact h.2.2
  | never a b => exact h.2.2
def AnsAt (c : Cs) (H : Hp) (x : Addr) (A : Ans) : Prop := ∃ dx fs, H x = some (.ins (c.of A) dx fs) ∧ FldsOk A fs
theorem AnsAt.mono {c : Cs} {H H' : Hp} {x : Addr} {A : Ans} (s : Same H H') (h : AnsAt c H x A) : AnsAt c H' x A := by
  obtain ⟨dx, fs, e, k⟩ := h
  exact ⟨dx, fs, s _ _ e, k⟩
/-- what the top has made of a class whose objects are asked for their class -/
structure InsC (K : PySem.W.Frag) (C : Addr) : Prop where
  cls : Cls K C
  ha : PySem.W.findIn K (.ref C) "__class__" = some (some (.builtin "object.__class__"))
  hn : PySem.W.specialIn K (.builtin "object.__class__") "__get__" = some (some (.builtin "getset_descriptor.__get__"))
  ht : PySem.W.takesIn K (.builtin "object.__class__") = some true
  hm : PySem.W.mroIn K C (.type "object") = some true
theorem InsC.ty {K : PySem.W.Frag} {C : Addr} (c : InsC K C) {H : Hp} {a dx : Addr} {fs : List (Str × V)} (e : H a = some (.ins C dx fs)) : TyX K H (.ref a) (.ref C) := .base (.ins e c.cls c.ha c.hn c.ht c.hm)
structure AnsC (K : PySem.W.Frag) (mg : Str → Option Value) (c : Cs) : Prop where
  mG : mg "Good" = some (.ref c.g)
  mL : mg "Lone" = some (.ref c.l)
  mT : mg "Twice" = some (.ref c.t)
  mN : mg "Never" = some (.ref c.n)
  ins : ∀ A : Ans, InsC K (c.of A)
  kit : ∀ A B : Ans, PySem.W.kitOne K (.ref (c.of A)) (.ref (c.of B)) = some (match A, B with
    | .good, .good => true
    | .lone _ _, .lone _ _ => true
    | .twice _ _, .twice _ _ => true
    | .never _ _, .never _ _ => true
    | _, _ => false)
  nN : NoAttr K c.l "number"
  nT : NoAttr K c.l "team"
  nO : NoAttr K c.t "one"
  nP : NoAttr K c.t "other"
  nQ : NoAttr K c.n "one"
  nR : NoAttr K c.n "other"
/-- what judged is asked, what it tells -/
def spJudged (c : Cs) : Sp := fun vs H Q _ => ∃ (t : Int) (v : V) (pl : List (List (Int × Int))), vs = [.int t, v] ∧ TOk t ∧ t ≤ 20 ∧ LAt RowAt H v pl ∧ Valid t pl ∧ Sized pl ∧ ∀ G x A, Same H G → H x = none → AnsAt c G x A → showsB t pl A = true → Q (.ref x) G
/-- what an answer of the class C is asked, what it tells -/
def spShows (c : Cs) (C : Addr) : Sp := fun vs H Q _ => ∃ (x : Addr) (t : Int) (v : V) (pl : List (List (Int × Int))) (A : Ans), vs = [.ref x, .int t, v] ∧ AnsAt c H x A ∧ c.of A = C ∧ TOk t ∧ t ≤ 20 ∧ LAt RowAt H v pl ∧ Valid t pl ∧ Sized pl ∧ ∀ G, Same H G → Q (.bl (showsB t pl A)) G
def Shown (c : Cs) (C : Addr) (sp : Sp) : Prop := (∃ A : Ans, c.of A = C) ∧ sp = spShows c C
end EM
namespace EM
open PySem PySem.Spec PyProof.Rows L2
/-! ### the answers are made -/
abbrev i_Lone : Stmt := inClass c_Lone 0
abbrev i_Twice : Stmt := inClass c_Twice 0
abbrev i_Never : Stmt := inClass c_Never 0
/-- a method of a class of the text -/
structure MethAt (K : PySem.W.Frag) (C : Addr) (m qual : Str) (st : Stmt) (ps : List Str) : Prop where
  ex : ∃ (f : Addr) (fd : FuncData), Fun K m qual st f fd ∧ Binds K fd ps [] ∧ Meth K C m f
/-- C(..) keeps the promise, by at most level k -/
structure Makes (P : Program) (w : World) (K : PySem.W.Frag) (mg : Str → Option Value) (base : Heap) (k : Nat) (C : Addr) (sp : Sp) : Prop where
  ex : ∃ (f : Addr) (fd : FuncData) (ps : List Str), Mk K C f ∧ FnOk P w K mg base CX0 k f fd ps sp ∧ Binds K fd ps []
def spInit2 (C : Addr) (f1 f2 : Str) : Sp := fun vs H Q _ => ∃ (p dx : Addr) (y1 y2 : V), vs = [.ref p, y1, y2] ∧ H p = some (.ins C dx []) ∧ ∀ G, (∀ b o, H b = some o → b ≠ p → G b = some o) → G p = some (.ins C dx (putF f2 y2 (putF f1 y1 []))) → Q .non G
theorem made2 {C : Addr} {f1 f2 : Str} {H : Hp} {y1 y2 : V} {Q : VK} {E : XK} (h : ∀ x dx G, H x = none → Same H G → G x = some (.ins C dx (putF f2 y2 (putF f1 y1 []))) → Q (.ref x) G) :
    ∀ x dx, H x = none → H dx = none → dx ≠ x → spInit2 C f1 f2 (.ref x :: ([y1, y2] ++ [])) (upd (upd H dx (.own x)) x (.ins C dx [])) (fun v G => v = .non ∧ Q (.ref x) G) E :=
  fun x dx nx nd _ => ⟨x, dx, y1, y2, rfl, upd_same, fun G keep e => ⟨rfl, h x dx G nx (fun b o eb => keep b o (by rw [upd_ne (ne_of_none eb nx), upd_ne (ne_of_none eb nd)]; exact eb) (ne_of_none eb nx)) e⟩⟩
section
variable {X : Cx} {C : Addr} {sp : Sp} {x : Str} {k j : Nat} {e : Expr} {es : List Expr} {t : TA} {p pos : Pos}
theorem pe_mk (M : Makes X.prog X.w X.K X.mg X.base k C sp) (hr : Room j X.A) (hj : k + 1 ≤ j) (hg : Gl X x) (hm : X.mg x = some (.ref C)) (ha : PA X (e :: es) t) (hdb : (x == ("__debug__" : Str)) = false := by decide)
    (he : starEach (e :: es) X.env = (false, eval e X.env) :: starEach es X.env := by rfl) (hpl : (backTo pos (starEach es X.env)).any (·.1) = false := by rfl) : PE X (.Call (.Name x p) (e :: es) [] pos) (tMake C sp [] E0 t) := by
  obtain ⟨f, fd, ps, mk, F, b⟩ := M.ex
  exact pe_make mk F (hr.mono hj) hg hm b .nil pass0 ha hdb he hpl
end
section
variable {P : Program} {w : World} {K : PySem.W.Frag} {mg : Str → Option Value} {base : Heap}
theorem MethAt.makes {C : Addr} {qual : Str} {st : Stmt} {ps : List Str} {k : Nat} {sp : Sp} (d : MethAt K C "__init__" qual st ps) (m : PySem.W.makesIn K C = true) (kp : PySem.W.keepIn K (.ref C) = true) (F : ∀ f fd, Fun K "__init__" qual st f fd → FnOk P w K mg base CX0 k f fd ps sp) : Makes P w K mg base k C sp := by
  obtain ⟨f, fd, F0, b, M⟩ := d.ex
  exact ⟨f, fd, ps, ⟨m, M.at_, M.fn, kp⟩, F f fd F0, b⟩
theorem MethAt.serves {C : Addr} {m qual : Str} {st : Stmt} {ps : List Str} {k : Nat} {sp : Sp} (d : MethAt K C m qual st ps) (c : Cls K C) (F : ∀ f fd, Fun K m qual st f fd → FnOk P w K mg base CX0 k f fd ps sp) : Serves P w K mg base k C m sp := by
  obtain ⟨f, fd, F0, b, M⟩ := d.ex
  exact ⟨⟨f, fd, ps, M, F f fd F0, b⟩, c⟩
theorem scI_Lone : FnScope ["self", "number", "team"] ["self", "number", "team"] (defScope i_Lone) := ⟨rfl, rfl, rfl, by decide +kernel, rfl, by decide +kernel, by decide +kernel⟩
theorem ok_init_Lone {C f : Addr} {fd : FuncData} (c : Cls K C) (n1 : NoAttr K C "number") (n2 : NoAttr K C "team") (F : Fun K "__init__" "Lone.__init__" i_Lone f fd) : FnOk P w K mg base CX0 1 f fd ["self", "number", "team"] (spInit2 C "number" "team") := by
  refine F.ok scI_Lone (fun vs H Q E h => ?_) (fun cdv A outer s H vs Q E hr h => ?_)
  · obtain ⟨p, dx, y1, y2, rfl, _⟩ := h
    rfl
  · obtain ⟨p, dx, y1, y2, rfl, hp, q⟩ := h
    refine ⟨_, pss_cons (ps_fld (pv 0) (pv 1) rfl) (pss_one (ps_fld (pv 0) (pv 2) rfl)), ?_⟩
    refine ⟨y1, rfl, .ref p, rfl, p, C, dx, [], rfl, hp, c, n1, (by show 0 < 1000; decide), y2, rfl, .ref p, rfl, p, C, dx, _, rfl, upd_same, c, n2, (by show 1 < 1000; decide), ?_⟩
    refine q _ (fun b o eb nb => ?_) upd_same
    rw [upd_ne nb, upd_ne nb]
    exact eb
theorem scI_Twice : FnScope ["self", "one", "other"] ["self", "one", "other"] (defScope i_Twice) := ⟨rfl, rfl, rfl, by decide +kernel, rfl, by decide +kernel, by decide +kernel⟩
theorem ok_init_Twice {C f : Addr} {fd : FuncData} (c : Cls K C) (n1 : NoAttr K C "one") (n2 : NoAttr K C "other") (F : Fun K "__init__" "Twice.__init__" i_Twice f fd) : FnOk P w K mg base CX0 1 f fd ["self", "one", "other"] (spInit2 C "one" "other") := by
  refine F.ok scI_Twice (fun vs H Q E h => ?_) (fun cdv A outer s H vs Q E hr h => ?_)
  · obtain ⟨p, dx, y1, y2, rfl, _⟩ := h
    rfl
  · obtain ⟨p, dx, y1, y2, rfl, hp, q⟩ := h
    refine ⟨_, pss_cons (ps_fld (pv 0) (pv 1) rfl) (pss_one (ps_fld (pv 0) (pv 2) rfl)), ?_⟩
    refine ⟨y1, rfl, .ref p, rfl, p, C, dx, [], rfl, hp, c, n1, (by show 0 < 1000; decide), y2, rfl, .ref p, rfl, p, C, dx, _, rfl, upd_same, c, n2, (by show 1 < 1000; decide), ?_⟩
    refine q _ (fun b o eb nb => ?_) upd_same
    rw [upd_ne nb, upd_ne nb]
    exact eb
theorem scI_Never : FnScope ["self", "one", "other"] ["self", "one", "other"] (defScope i_Never) := ⟨rfl, rfl, rfl, by decide +kernel, rfl, by decide +kernel, by decide +kernel⟩
theorem ok_init_Never {C f : Addr} {fd : FuncData} (c : Cls K C) (n1 : NoAttr K C "one") (n2 : NoAttr K C "other") (F : Fun K "__init__" "Never.__init__" i_Never f fd) : FnOk P w K mg base CX0 1 f fd ["self", "one", "other"] (spInit2 C "one" "other") := by
  refine F.ok scI_Never (fun vs H Q E h => ?_) (fun cdv A outer s H vs Q E hr h => ?_)
  · obtain ⟨p, dx, y1, y2, rfl, _⟩ := h
    rfl
  · obtain ⟨p, dx, y1, y2, rfl, hp, q⟩ := h
    refine ⟨_, pss_cons (ps_fld (pv 0) (pv 1) rfl) (pss_one (ps_fld (pv 0) (pv 2) rfl)), ?_⟩
    refine ⟨y1, rfl, .ref p, rfl, p, C, dx, [], rfl, hp, c, n1, (by show 0 < 1000; decide), y2, rfl, .ref p, rfl, p, C, dx, _, rfl, upd_same, c, n2, (by show 1 < 1000; decide), ?_⟩
    refine q _ (fun b o eb nb => ?_) upd_same
    rw [upd_ne nb, upd_ne nb]
    exact eb
end
theorem two_flds {f1 f2 g : Str} {y1 y2 : V} (n1 : ¬ g = f1) (n2 : ¬ g = f2) : (putF f2 y2 (putF f1 y1 [])).lookup g = none := by
  rw [lookup_putF, if_neg n2, lookup_putF, if_neg n1]
  rfl
theorem fld_2 {f1 f2 : Str} {y1 y2 : V} : (putF f2 y2 (putF f1 y1 [])).lookup f2 = some y2 := by rw [lookup_putF, if_pos rfl]
theorem fld_1 {f1 f2 : Str} {y1 y2 : V} (n : ¬ f1 = f2) : (putF f2 y2 (putF f1 y1 [])).lookup f1 = some y1 := by rw [lookup_putF, if_neg n, lookup_putF, if_pos rfl]
end EM
namespace EM
open PySem PySem.Spec PyProof.Rows L2
/-- how Lone, Twice, Never are made -/
structure MkAns (P : Program) (w : World) (K : PySem.W.Frag) (mg : Str → Option Value) (base : Heap) (c : Cs) : Prop where
  l : Makes P w K mg base 1 c.l (spInit2 c.l "number" "team")
  t : Makes P w K mg base 1 c.t (spInit2 c.t "one" "other")
  n : Makes P w K mg base 1 c.n (spInit2 c.n "one" "other")
theorem flds_lone {n k : Int} : FldsOk (.lone n k) (putF "team" (.int k) (putF "number" (.int n) [])) := ⟨fld_1 (by decide +kernel), fld_2, two_flds (by decide +kernel) (by decide +kernel)⟩
theorem flds_two {a b : Int} : FldsOk (.twice a b) (putF "other" (.int b) (putF "one" (.int a) [])) := ⟨fld_1 (by decide +kernel), fld_2, two_flds (by decide +kernel) (by decide +kernel)⟩
theorem flds_never {a b : Int} : FldsOk (.never a b) (putF "other" (.int b) (putF "one" (.int a) [])) := ⟨fld_1 (by decide +kernel), fld_2, two_flds (by decide +kernel) (by decide +kernel)⟩
end EM
namespace EM
open PySem PySem.Spec PyProof.Rows L2
theorem scChkJT : FnScope ["teams"] ["teams"] (defScope t_check_judged_teams) := ⟨rfl, rfl, rfl, by decide +kernel, rfl, by decide +kernel, by decide +kernel⟩
theorem scIsPair : FnScope ["teams", "pair", "home", "away"] ["teams", "pair"] (defScope t__is_pair) := ⟨rfl, rfl, rfl, by decide +kernel, rfl, by decide +kernel, by decide +kernel⟩
theorem scChkPlan : FnScope ["teams", "plan", "pairs", "pair"] ["teams", "plan"] (defScope t_check_plan) := ⟨rfl, rfl, rfl, by decide +kernel, rfl, by decide +kernel, by decide +kernel⟩
/-- what the walk leans on of a further few names -/
structure Names2 (mg : Str → Option Value) : Prop where
  list : mg "list" = none
  tuple : mg "tuple" = none
  enum : mg "enumerate" = none
  most : ∃ tk, mg "MOST_JUDGED" = some (.int 20 tk)
section
variable {P : Program} {w : World} {K : PySem.W.Frag} {mg : Str → Option Value} {base : Heap}
def spJT : Sp := fun vs H Q _ => ∃ t : Int, vs = [.int t] ∧ TOk t ∧ t ≤ 20 ∧ Q .non H
theorem fn_chkJT (d : DefAt K mg "check_judged_teams" t_check_judged_teams ["teams"]) (Z : Names2 mg) (F : Fn P w K mg base "check_teams" ["teams"] 2 spTeams) : Fn P w K mg base "check_judged_teams" ["teams"] 3 spJT := by
  refine d.fn scChkJT (fun vs H Q E h => ?_) (fun f cdv A outer s H vs Q E hr h => ?_)
  · obtain ⟨n, rfl, _⟩ := h
    rfl
  · obtain ⟨t, rfl, T, t20, q⟩ := h
    obtain ⟨tk, mM⟩ := Z.most
    refine ⟨_, pss_cons (ps_expr (pe_f F hr (by decide) (by rfl) (pa_cons (pv 0) pa_nil))) (pss_one (ps_if (pt_cmpR op_gt (pv 0) (pe_glob (v := .int 20) (by rfl) mM ⟨_, rfl⟩) (nomark _)) (pss_one ps_never) pss_nil)), ?_⟩
    exact ⟨.int t, rfl, t, rfl, T, .int t, rfl, t, 20, rfl, rfl, _, rfl, itF (by omega) q⟩
def spPair : Sp := fun vs H Q _ => ∃ (t : Int) (v : V) (p : Int × Int), vs = [.int t, v] ∧ PairAt H v p ∧ (0 ≤ p.1 ∧ p.1 < t ∧ 0 ≤ p.2 ∧ p.2 < t ∧ p.1 ≠ p.2) ∧ Q (.bl true) H
theorem fn_isPair (d : DefAt K mg "_is_pair" t__is_pair ["teams", "pair"]) (N : Names mg) (Z : Names2 mg) (F : Fn P w K mg base "is_counted" ["many", "value"] 2 spCnt) : Fn P w K mg base "_is_pair" ["teams", "pair"] 3 spPair := by
  refine d.fn scIsPair (fun vs H Q E h => ?_) (fun f cdv A outer s H vs Q E hr h => ?_)
  · obtain ⟨t, v, p, rfl, _⟩ := h
    rfl
  · obtain ⟨t, v, p, rfl, ⟨q', rfl, e⟩, ⟨a0, a1, b0, b1, ne⟩, q⟩ := h
    refine ⟨_, pss_cons (ps_if (PW.pt (pw_or (pt_not (pt_val (pe_callB call_isi (by rfl) N.isinst boot_isinstance (pa_cons (pv 1) (pa_cons (pe_bltn (v := .ty "tuple") (by rfl) Z.tuple boot_tuple rfl) pa_nil)))))
        (pw_or1 (pt_cmpR op_ne (pe_callB call_len_seq (by rfl) N.len PySem.boot_len (pa_cons (pv 1) pa_nil)) pe_int (nomark _))))) (pss_one (ps_ret pe_bl)) pss_nil)
      (pss_cons (ps_asg (pv 1) (pg_tup rfl (pgs_cons (pg_name (i := 2) scIsPair.nd rfl (.inl rfl)) (pgs_cons (pg_name (i := 3) scIsPair.nd rfl (.inl rfl)) pgs_nil))))
      (pss_one (ps_ret (pe_and (pe_f F hr (by decide) (by rfl) (pa_cons (pv 0) (pa_cons (pv 2) pa_nil))) (pe_and (pe_f F hr (by decide) (by rfl) (pa_cons (pv 0) (pa_cons (pv 3) pa_nil))) (pe_one (pe_cmpR op_ne (pv 2) (pv 3) (nomark _)))))))), ?_⟩
    refine ⟨.ref q', rfl, .ref q', .ty "tuple", _, _, true, rfl, .ty "tuple", .base (.tup e), kit_ty (by decide +kernel), true, rfl, iteF ?_⟩
    refine ⟨.ref q', rfl, q', _, rfl, .inr (SqT.of e), rfl, _, rfl, iteNS rfl ?_⟩
    refine ⟨.ref q', rfl, q', _, rfl, SqT.of e, rfl, _, _, rfl, _, _, rfl, rfl, ?_⟩
    refine ⟨.int t, rfl, .int p.1, rfl, t, p.1, rfl, _, rfl, ?_⟩
    rw [decide_eq_true (⟨a0, a1⟩ : 0 ≤ p.1 ∧ p.1 < t)]
    refine iteT ⟨.int t, rfl, .int p.2, rfl, t, p.2, rfl, _, rfl, ?_⟩
    rw [decide_eq_true (⟨b0, b1⟩ : 0 ≤ p.2 ∧ p.2 < t)]
    refine iteT ⟨.int p.1, rfl, .int p.2, rfl, rfl, ?_⟩
    rw [decide_eq_false (fun z => ne (V.int.inj z))]
    exact q
def spChkPlan : Sp := fun vs H Q _ => ∃ (t : Int) (v : V) (pl : List (List (Int × Int))), vs = [.int t, v] ∧ LAt RowAt H v pl ∧ Valid t pl ∧ Q .non H
theorem fn_chkPlan (d : DefAt K mg "check_plan" t_check_plan ["teams", "plan"]) (N : Names mg) (Z : Names2 mg) (F : Fn P w K mg base "_is_pair" ["teams", "pair"] 3 spPair) : Fn P w K mg base "check_plan" ["teams", "plan"] 4 spChkPlan := by
  refine d.fn scChkPlan (fun vs H Q E h => ?_) (fun f cdv A outer s H vs Q E hr h => ?_)
  · obtain ⟨t, v, pl, rfl, _⟩ := h
    rfl
  · obtain ⟨t, v, pl, rfl, ⟨a, us, rfl, ea, au⟩, hv, q⟩ := h
    refine ⟨_, pss_cons (ps_if (pt_not (pt_val (pe_callB call_isi (by rfl) N.isinst boot_isinstance (pa_cons (pv 1) (pa_cons (pe_bltn (v := .ty "list") (by rfl) Z.list boot_list rfl) pa_nil))))) (pss_one ps_never) pss_nil)
      (pss_one (ps_for PassesOwn.never rfl (pi_list (pv 1)) (pg_name (i := 2) scChkPlan.nd rfl (.inl rfl))
        (pss_cons (ps_if (pt_not (pt_val (pe_callB call_isi (by rfl) N.isinst boot_isinstance (pa_cons (pv 2) (pa_cons (pe_bltn (v := .ty "list") (by rfl) Z.list boot_list rfl) pa_nil))))) (pss_one ps_never) pss_nil)
        (pss_one (ps_for PassesOwn.never rfl (pi_list (pv 2)) (pg_name (i := 3) scChkPlan.nd rfl (.inl rfl))
          (pss_one (ps_if (pt_not (pt_val (pe_f F hr (by decide) (by rfl) (pa_cons (pv 0) (pa_cons (pv 3) pa_nil))))) (pss_one ps_never) pss_nil))))))), ?_⟩
    refine ⟨.ref a, rfl, .ref a, .ty "list", _, _, true, rfl, .ty "list", .base (.lst ea), kit_ty (by decide +kernel), true, rfl, iteF ?_⟩
    refine ⟨.ref a, rfl, a, rfl, ⟨_, SqL.of ea⟩, for_list (K := K) (a := a) (xs := us) (fun i σ G => ∃ y2 y3, σ = [some (.int t), some (.ref a), y2, y3] ∧ G = H) ⟨_, _, rfl, rfl⟩ (fun i σ G _ ⟨_, _, _, e⟩ => by rw [e]; exact SqL.of ea) ?_ ?_⟩
    · rintro i x σ G hx ⟨y2, y3, rfl, rfl⟩
      obtain ⟨row, hrow, q', ws, rfl, hq, aw⟩ := au.at hx
      refine ⟨.ref q', rfl, .ref q', .ty "list", _, _, true, rfl, .ty "list", .base (.lst hq), kit_ty (by decide +kernel), true, rfl, iteF ?_⟩
      refine ⟨.ref q', rfl, q', rfl, ⟨_, SqL.of hq⟩, for_list (K := K) (a := q') (xs := ws) (fun j σ G' => ∃ y3, σ = [some (.int t), some (.ref a), some (.ref q'), y3] ∧ G' = G) ⟨_, rfl, rfl⟩ (fun i σ G' _ ⟨_, _, e⟩ => by rw [e]; exact SqL.of hq) ?_ ?_⟩
      · rintro j y σ G' hy ⟨y3, rfl, rfl⟩
        obtain ⟨p, hp, pa⟩ := aw.at hy
        refine ⟨.int t, rfl, y, rfl, t, y, p, rfl, pa, hv row (List.mem_of_getElem? hrow) p (List.mem_of_getElem? hp), true, rfl, iteF ?_⟩
        exact ⟨_, rfl, rfl⟩
      · rintro σ G' ⟨y3, rfl, rfl⟩
        exact ⟨_, _, rfl, rfl⟩
    · rintro σ G ⟨y2, y3, rfl, rfl⟩
      exact q
end
end EM
namespace EM
open PySem PySem.Spec PyProof.Rows L2
theorem itNn {c A B : Prop} [Decidable c] (h : ¬ c) (a : A) : if (!decide c) = true then A else B := by
  rw [decide_eq_false h]
  exact a
theorem scLoneTeam : FnScope ["teams", "plan", "number", "pairs", "counts", "team", "many"] ["teams", "plan"] (defScope t__lone_team) := ⟨rfl, rfl, rfl, by decide +kernel, rfl, by decide +kernel, by decide +kernel⟩
theorem scWrongTwo : FnScope ["teams", "plan", "counts", "one", "other", "many"] ["teams", "plan"] (defScope t__wrong_two) := ⟨rfl, rfl, rfl, by decide +kernel, rfl, by decide +kernel, by decide +kernel⟩
theorem walk_itemsT {d : Addr} {o : Obj} {kvs : List (List Key × V)} : Walk (Itit d o kvs) kvs.length (fun H => H d = some (.frz o (.dT kvs))) (Itit d o kvs).yld :=
  ⟨fun _ _ hi q => ⟨q, hi⟩, fun _ q => ⟨q, Nat.le_refl _⟩, fun _ _ _ _ _ _ y => y⟩
section
variable {P : Program} {w : World} {K : PySem.W.Frag} {mg : Str → Option Value} {base : Heap}
def spLoneTeam (c : Cs) : Sp := fun vs H Q _ => ∃ (t : Int) (v : V) (pl : List (List (Int × Int))), vs = [.int t, v] ∧ 2 ≤ t ∧ t ≤ 20 ∧ LAt RowAt H v pl ∧ Valid t pl ∧ (∀ G, Same H G → (∀ row ∈ pl, ∀ k : Int, 0 ≤ k → k < t → cntOf row k = 1) → Q .non G) ∧
  ∀ G x A, Same H G → H x = none → AnsAt c G x A → showsB t pl A = true → isGoodA A = false → Q (.ref x) G
theorem fn_loneTeam {c : Cs} (d : DefAt K mg "_lone_team" t__lone_team ["teams", "plan"]) (Z : Names2 mg) (mL : mg "Lone" = some (.ref c.l)) (M : MkAns P w K mg base c) (F : Fn P w K mg base "pairs_of_each" ["teams", "pairs"] 1 spEach) : Fn P w K mg base "_lone_team" ["teams", "plan"] 3 (spLoneTeam c) := by
  refine d.fn scLoneTeam (fun vs H Q E h => ?_) (fun f cdv A outer s H vs Q E hr h => ?_)
  · obtain ⟨t, v, pl, rfl, _⟩ := h
    rfl
  · obtain ⟨t, v, pl, rfl, t2, t20, ⟨a, us, rfl, ea, au⟩, hv, q0, q1⟩ := h
    refine ⟨_, pss_cons (ps_for PassesOwn.never rfl (pi_enum (by rfl) Z.enum (pa_cons (pv 1) pa_nil)) (pg_tup rfl (pgs_cons (pg_name (i := 2) scLoneTeam.nd rfl (.inl rfl)) (pgs_cons (pg_name (i := 3) scLoneTeam.nd rfl (.inl rfl)) pgs_nil)))
        (pss_cons (ps_set (i := 4) scLoneTeam.nd rfl (.inl rfl) (pe_f F hr (by decide) (by rfl) (pa_cons (pv 0) (pa_cons (pv 3) pa_nil))))
        (pss_one (ps_for PassesOwn.never rfl (pi_enum (by rfl) Z.enum (pa_cons (pv 4) pa_nil)) (pg_tup rfl (pgs_cons (pg_name (i := 5) scLoneTeam.nd rfl (.inl rfl)) (pgs_cons (pg_name (i := 6) scLoneTeam.nd rfl (.inl rfl)) pgs_nil)))
          (pss_one (ps_if (pt_cmpR op_ne (pv 6) pe_int (nomark _)) (pss_one (ps_ret (pe_mk M.l hr (by decide) (by rfl) mL (pa_cons (pv 2) (pa_cons (pv 5) pa_nil))))) pss_nil))))))
      (pss_one (ps_ret pe_non)), ?_⟩
    refine ⟨.ref a, rfl, a, us, rfl, SqL.of ea, for_it (walk_enum (K := K) (a := a) (xs := us)) (fun i σ G => ∃ y2 y3 y4 y5 y6, σ = [some (.int t), some (.ref a), y2, y3, y4, y5, y6] ∧ Same H G ∧ ∀ row ∈ pl.take i, ∀ k : Int, 0 ≤ k → k < t → cntOf row k = 1)
      ⟨_, _, _, _, _, rfl, Same.refl H, fun _ h => absurd h (by simp)⟩ (fun i σ G _ ⟨_, _, _, _, _, _, h, _⟩ => SqL.of (h _ _ ea)) ?_ ?_⟩
    · rintro i x σ G G1 hi ⟨y2, y3, y4, y5, y6, rfl, s1, once⟩ ⟨T, u1, u2, rfl, nT, rfl, e1, e2⟩
      cases e1
      obtain ⟨row, hrow, rw0⟩ := au.at e2
      have sT := same_upd (o := .tup [.int (i : Int), u2]) nT
      have s2 := s1.trans sT
      have hvr : VRow t row := hv row (List.mem_of_getElem? hrow)
      refine ⟨T, _, rfl, SqT.of upd_same, rfl, _, _, rfl, _, _, rfl, rfl, ?_⟩
      refine ⟨.int t, rfl, u2, rfl, t, u2, row, rfl, t2, t20, rw0.mono s2, hvr, fun G2 D s3 nD eD => ?_⟩
      have s4 := s2.trans s3
      have len : (eachOf t row).length = t.toNat := eachL_len _ _
      refine ⟨.ref D, rfl, D, eachOf t row, rfl, SqL.of eD, for_it (walk_enum (K := K) (a := D) (xs := eachOf t row)) (fun j σ G' => ∃ y5 y6, σ = [some (.int t), some (.ref a), some (.int (i : Int)), some u2, some (.ref D), y5, y6] ∧ Same G2 G' ∧ ∀ k : Int, 0 ≤ k → k < j → cntOf row k = 1)
        ⟨_, _, rfl, Same.refl G2, fun k h0 h1 => by omega⟩ (fun j σ G' _ ⟨_, _, _, h, _⟩ => SqL.of (h _ _ eD)) ?_ ?_⟩
      · rintro j x2 σ G3 G4 hj ⟨w5, w6, rfl, s5, onceR⟩ ⟨T2, r1, r2, rfl, nT2, rfl, f1, f2⟩
        cases f1
        have hj : j < t.toNat := by rw [← len]; exact hj
        have ez : (eachOf t row)[j]? = some (.int ((cntOf row (j : Int) : Nat) : Int)) := at_each hj
        have f2 : (eachOf t row)[j]? = some r2 := f2
        rw [ez] at f2
        cases f2
        have sT2 := same_upd (o := .tup [.int (j : Int), .int ((cntOf row (j : Int) : Nat) : Int)]) nT2
        have s6 := s5.trans sT2
        refine ⟨T2, _, rfl, SqT.of upd_same, rfl, _, _, rfl, _, _, rfl, rfl, ?_⟩
        refine ⟨.int ((cntOf row (j : Int) : Nat) : Int), rfl, rfl, _, rfl, ?_⟩
        by_cases one : cntOf row (j : Int) = 1
        · refine iteNS (c := V.int ((cntOf row (j : Int) : Nat) : Int) = V.int 1) (by rw [one]; rfl) ⟨_, _, rfl, s6, fun k k0 k1 => ?_⟩
          by_cases e : k < j
          · exact onceR k k0 e
          · obtain rfl : k = (j : Int) := by omega
            exact one
        · have bad : ¬ V.int ((cntOf row (j : Int) : Nat) : Int) = V.int 1 := fun z => one (by have := V.int.inj z; omega)
          refine itNn bad ⟨.int (i : Int), rfl, .int (j : Int), rfl, made2 fun x dx G' nx s7 ex => ?_⟩
          have nxH : H x = none := (s4.trans s6).free nx
          refine q1 G' x (.lone (i : Int) (j : Int)) ((s4.trans s6).trans s7) nxH ⟨dx, _, ex, flds_lone⟩ ?_ rfl
          have il : i < pl.length := (List.getElem?_eq_some_iff.mp hrow).1
          have er : rowN pl ((i : Int)).toNat = row := by
            unfold rowN
            rw [Int.toNat_natCast, hrow]
            rfl
          show (decide (0 ≤ (i : Int) ∧ (i : Int) < ((pl.length : Nat) : Int)) && (decide (0 ≤ (j : Int) ∧ (j : Int) < t) && !decide (V.int ((cntOf (rowN pl ((i : Int)).toNat) (j : Int) : Nat) : Int) = V.int 1))) = true
          rw [er, decide_eq_false bad, decide_eq_true (⟨by omega, by omega⟩ : 0 ≤ (i : Int) ∧ (i : Int) < ((pl.length : Nat) : Int)), decide_eq_true (⟨by omega, by omega⟩ : 0 ≤ (j : Int) ∧ (j : Int) < t)]
          rfl
      · rintro σ G3 ⟨w5, w6, rfl, s5, onceR⟩
        refine ⟨_, _, _, _, _, rfl, s4.trans s5, fun r hr => ?_⟩
        rw [take_snoc hrow] at hr
        rcases List.mem_append.mp hr with h | h
        · exact once r h
        · rw [List.mem_singleton.mp h]
          exact fun k k0 k1 => onceR k k0 (by rw [len]; omega)
    · rintro σ G ⟨y2, y3, y4, y5, y6, rfl, s1, once⟩
      refine q0 G s1 fun row hr => once row ?_
      rw [au.len, List.take_length]
      exact hr
def spWrongTwo (c : Cs) : Sp := fun vs H Q _ => ∃ (t : Int) (v : V) (pl : List (List (Int × Int))), vs = [.int t, v] ∧ 2 ≤ t ∧ t ≤ 20 ∧ LAt RowAt H v pl ∧ Valid t pl ∧ (∀ G, Same H G → (∀ a b : Int, 0 ≤ a → a < b → b < t → oftenOf pl a b = 1) → Q .non G) ∧
  ∀ G x A, Same H G → H x = none → AnsAt c G x A → showsB t pl A = true → isGoodA A = false → Q (.ref x) G
theorem fn_wrongTwo {c : Cs} (d : DefAt K mg "_wrong_two" t__wrong_two ["teams", "plan"]) (mT : mg "Twice" = some (.ref c.t)) (mN : mg "Never" = some (.ref c.n)) (M : MkAns P w K mg base c) (F : Fn P w K mg base "pairs_of_two" ["teams", "plan"] 1 spTwo) : Fn P w K mg base "_wrong_two" ["teams", "plan"] 3 (spWrongTwo c) := by
  refine d.fn scWrongTwo (fun vs H Q E h => ?_) (fun f cdv A outer s H vs Q E hr h => ?_)
  · obtain ⟨t, v, pl, rfl, _⟩ := h
    rfl
  · obtain ⟨t, v, pl, rfl, t2, t20, hP, hv, q0, q1⟩ := h
    refine ⟨_, pss_cons (ps_set (i := 2) scWrongTwo.nd rfl (.inl rfl) (pe_f F hr (by decide) (by rfl) (pa_cons (pv 0) (pa_cons (pv 1) pa_nil))))
      (pss_cons (ps_lock (ps_for PassesOwn.never rfl (pi_itemsT (pv 2)) (pg_tup rfl (pgs_cons (pg_tup rfl (pgs_cons (pg_name (i := 3) scWrongTwo.nd rfl (.inl rfl)) (pgs_cons (pg_name (i := 4) scWrongTwo.nd rfl (.inl rfl)) pgs_nil))) (pgs_cons (pg_name (i := 5) scWrongTwo.nd rfl (.inl rfl)) pgs_nil)))
        (pss_cons (ps_if (pt_cmpR op_gt (pv 5) pe_int (nomark _)) (pss_one (ps_ret (pe_mk M.t hr (by decide) (by rfl) mT (pa_cons (pv 3) (pa_cons (pv 4) pa_nil))))) pss_nil)
        (pss_one (ps_if (pt_cmpR op_eq (pv 5) pe_int (nomark _)) (pss_one (ps_ret (pe_mk M.n hr (by decide) (by rfl) mN (pa_cons (pv 3) (pa_cons (pv 4) pa_nil))))) pss_nil)))))
      (pss_one (ps_ret pe_non))), ?_⟩
    refine ⟨.int t, rfl, v, rfl, t, v, pl, rfl, t2, t20, hP, hv, fun G D s1 nD eD => ?_⟩
    refine ⟨D, _, eD, True.intro, fun od => ?_⟩
    have s2 : Same H (upd G D (.frz od (.dT (tab (twos t.toNat) (keysOf pl))))) := fun b o eb => by
      rw [upd_ne (ne_of_none eb nD)]
      exact s1 _ _ eb
    have back : ∀ G', Same H G' → Same H (upd G' D (.dT (tab (twos t.toNat) (keysOf pl)))) := fun G' s b o eb => by
      rw [upd_ne (ne_of_none eb nD)]
      exact s _ _ eb
    have len : (tab (twos t.toNat) (keysOf pl)).length = (twos t.toNat).length := by
      unfold tab
      rw [List.length_map]
    refine ⟨.ref D, rfl, D, od, _, rfl, upd_same, for_it walk_itemsT (fun i σ G' => ∃ y3 y4 y5, σ = [some (.int t), some v, some (.ref D), y3, y4, y5] ∧ Same H G' ∧ G' D = some (.frz od (.dT (tab (twos t.toNat) (keysOf pl)))) ∧ ∀ k ∈ (twos t.toNat).take i, cntK (keysOf pl) k = 1)
      ⟨_, _, _, rfl, s2, upd_same, fun _ h => absurd h (by simp)⟩ (fun i σ G' _ ⟨_, _, _, _, _, h, _⟩ => h) ?_ ?_⟩
    · rintro i x σ G1 G2 hi ⟨y3, y4, y5, rfl, s3, lock, all1⟩ ⟨T, b, k, u, ek, eb, rfl, nT, rfl⟩
      obtain ⟨kk, hk, e0⟩ : ∃ kk, (twos t.toNat)[i]? = some kk ∧ (kk, V.int ((cntK (keysOf pl) kk : Nat) : Int)) = (k, u) := by
        unfold tab at ek
        rw [List.getElem?_map] at ek
        obtain ⟨kk, h1, h2⟩ := Option.map_eq_some_iff.mp ek
        exact ⟨kk, h1, h2⟩
      obtain ⟨rfl, rfl⟩ := Prod.mk.inj e0
      obtain ⟨n1, n2, _, h12, h2t, ekk⟩ := mem_twosTo.mp (List.mem_of_getElem? hk)
      have sT := same_upd (o := .tup [.ref b, .int ((cntK (keysOf pl) kk : Nat) : Int)]) nT
      have lock2 := sT _ _ lock
      have eb2 : (upd G1 T (.tup [.ref b, .int ((cntK (keysOf pl) kk : Nat) : Int)])) b = some (.tup [.int (n1 : Int), .int (n2 : Int)]) := (sT _ _ eb).trans (by rw [ekk]; rfl)
      have s4 := s3.trans sT
      have oft := often_count hv (a := (n1 : Int)) (b := (n2 : Int)) (by omega)
      rw [← ekk] at oft
      have two : twoB t (n1 : Int) (n2 : Int) = true := decide_eq_true ⟨by omega, by omega, by omega⟩
      refine ⟨T, _, rfl, SqT.of upd_same, rfl, _, _, rfl, ⟨b, _, rfl, SqT.of eb2, rfl, _, _, rfl, _, _, rfl, rfl, ?_⟩⟩
      refine ⟨_, _, rfl, rfl, ?_⟩
      refine ⟨.int ((cntK (keysOf pl) kk : Nat) : Int), rfl, ((cntK (keysOf pl) kk : Nat) : Int), 1, rfl, rfl, _, rfl, ite2 (fun g => ?_) (fun g => ?_)⟩
      · have g : ((cntK (keysOf pl) kk : Nat) : Int) > 1 := of_decide_eq_true g
        refine ⟨.int n1, rfl, .int n2, rfl, made2 fun x dx G' nx s7 ex => ⟨s7 _ _ lock2, ?_⟩⟩
        have nxD : x ≠ D := fun z => by rw [z, lock2] at nx; cases nx
        refine q1 _ x (.twice n1 n2) (back G' (s4.trans s7)) (s4.free nx) ⟨dx, _, by rw [upd_ne nxD]; exact ex, flds_two⟩ ?_ rfl
        show (twoB t n1 n2 && decide (1 < oftenOf pl n1 n2)) = true
        rw [two, oft, decide_eq_true (by omega)]
        rfl
      · have g : ¬ ((cntK (keysOf pl) kk : Nat) : Int) > 1 := fun z => g (decide_eq_true z)
        refine ⟨.int ((cntK (keysOf pl) kk : Nat) : Int), rfl, rfl, _, rfl, ite2 (fun z => ?_) (fun z => ?_)⟩
        · have z := V.int.inj (of_decide_eq_true z)
          refine ⟨.int n1, rfl, .int n2, rfl, made2 fun x dx G' nx s7 ex => ⟨s7 _ _ lock2, ?_⟩⟩
          have nxD : x ≠ D := fun z => by rw [z, lock2] at nx; cases nx
          refine q1 _ x (.never n1 n2) (back G' (s4.trans s7)) (s4.free nx) ⟨dx, _, by rw [upd_ne nxD]; exact ex, flds_never⟩ ?_ rfl
          show (twoB t n1 n2 && decide (oftenOf pl n1 n2 = 0)) = true
          rw [two, oft, decide_eq_true (by omega)]
          rfl
        · have z : ¬ cntK (keysOf pl) kk = 0 := fun y => z (decide_eq_true (by rw [y]; rfl))
          refine ⟨_, _, _, rfl, s4, lock2, fun k' hk' => ?_⟩
          rw [take_snoc hk] at hk'
          rcases List.mem_append.mp hk' with h | h
          · exact all1 k' h
          · rw [List.mem_singleton.mp h]
            omega
    · rintro σ G1 ⟨y3, y4, y5, rfl, s3, lock, all1⟩
      refine ⟨lock, q0 _ (back G1 s3) fun a b a0 ab bt => ?_⟩
      rw [often_count hv ab]
      refine all1 _ ?_
      rw [len, List.take_length]
      exact two_in a0 ab (by omega)
end
end EM
namespace EM
open PySem PySem.Spec PyProof.Rows L2
theorem scJudged : FnScope ["teams", "plan", "fault"] ["teams", "plan"] (defScope t_judged) := ⟨rfl, rfl, rfl, by decide +kernel, rfl, by decide +kernel, by decide +kernel⟩
section
variable {P : Program} {w : World} {K : PySem.W.Frag} {mg : Str → Option Value} {base : Heap}
theorem fn_judged {c : Cs} (d : DefAt K mg "judged" t_judged ["teams", "plan"]) (mG : mg "Good" = some (.ref c.g)) (MG : MkO K c.g) (F1 : Fn P w K mg base "check_judged_teams" ["teams"] 3 spJT) (F2 : Fn P w K mg base "check_plan" ["teams", "plan"] 4 spChkPlan)
    (F3 : Fn P w K mg base "_lone_team" ["teams", "plan"] 3 (spLoneTeam c)) (F4 : Fn P w K mg base "_wrong_two" ["teams", "plan"] 3 (spWrongTwo c)) : Fn P w K mg base "judged" ["teams", "plan"] 5 (spJudged c) := by
  refine d.fn scJudged (fun vs H Q E h => ?_) (fun f cdv A outer s H vs Q E hr h => ?_)
  · obtain ⟨t, v, pl, rfl, _⟩ := h
    rfl
  · obtain ⟨t, v, pl, rfl, T, t20, hP, hv, hs, q⟩ := h
    refine ⟨_, pss_cons (ps_expr (pe_f F1 hr (by decide) (by rfl) (pa_cons (pv 0) pa_nil))) (pss_cons (ps_expr (pe_f F2 hr (by decide) (by rfl) (pa_cons (pv 0) (pa_cons (pv 1) pa_nil))))
      (pss_cons (ps_set (i := 2) scJudged.nd rfl (.inl rfl) (pe_f F3 hr (by decide) (by rfl) (pa_cons (pv 0) (pa_cons (pv 1) pa_nil))))
      (pss_cons (ps_if (pt_cmpR op_isN (pv 2) pe_non (nomark _)) (pss_one (ps_set (i := 2) scJudged.nd rfl (.inl rfl) (pe_f F4 hr (by decide) (by rfl) (pa_cons (pv 0) (pa_cons (pv 1) pa_nil))))) pss_nil)
      (pss_cons (ps_if (pt_cmpR op_isN (pv 2) pe_non (nomark _)) (pss_one (ps_ret (pe_makeO MG (by rfl) mG))) pss_nil)
      (pss_one (ps_ret (pv 2))))))), ?_⟩
    have t2 := T.two
    refine ⟨.int t, rfl, t, rfl, T, t20, .int t, rfl, v, rfl, t, v, pl, rfl, hP, hv, .int t, rfl, v, rfl, t, v, pl, rfl, t2, t20, hP, hv, fun G s1 once => ?_, fun G x A s1 nx ax sh ng => ?_⟩
    · refine ⟨.non, rfl, rfl, _, rfl, itT rfl ⟨.int t, rfl, v, rfl, t, v, pl, rfl, t2, t20, hP.mono monRow s1, hv, fun G2 s2 meet => ?_, fun G2 x A s2 nx ax sh ng => ?_⟩⟩
      · refine ⟨.non, rfl, rfl, _, rfl, itT rfl fun x dx nx nd ne => ?_⟩
        have s3 := s1.trans s2
        refine q _ x .good (fun b o eb => ?_) (s3.free nx) ⟨dx, [], upd_same, rfl⟩ ((goodB_iff t2 hv).mpr ⟨once, meet⟩)
        rw [upd_ne (ne_of_none (s3 _ _ eb) nx), upd_ne (ne_of_none (s3 _ _ eb) nd)]
        exact s3 _ _ eb
      · exact ⟨.ref x, rfl, rfl, _, rfl, itF (fun z => nomatch z) ⟨.ref x, rfl, q G2 x A (s1.trans s2) (s1.free nx) ax sh⟩⟩
    · exact ⟨.ref x, rfl, rfl, _, rfl, itF (fun z => nomatch z) ⟨.ref x, rfl, rfl, _, rfl, itF (fun z => nomatch z) ⟨.ref x, rfl, q G x A s1 nx ax sh⟩⟩⟩
end
end EM
namespace EM
open PySem PySem.Spec PyProof.Rows L2
/-! ### plans as written data; what is asked of the program about good plans -/
def pairD (p : Int × Int) : PyData := .tuple [.int p.1, .int p.2]
def rowD (row : List (Int × Int)) : PyData := .list (row.map pairD)
def planD (pl : List (List (Int × Int))) : PyData := .list (pl.map rowD)
theorem PairAt.dp {K : PySem.W.Frag} {H : Hp} {v : V} {p : Int × Int} (h : PairAt H v p) : Dp K H v (pairD p) := by
  obtain ⟨q, rfl, e⟩ := h
  exact .tup (SqT.of e) (.cons (.int _) (.cons (.int _) .nil))
theorem dpAll_of {K : PySem.W.Frag} {H : Hp} {β : Type} {R : V → β → Prop} {f : β → PyData} (g : ∀ v x, R v x → Dp K H v (f x)) : ∀ {vs : List V} {xs : List β}, All2 R vs xs → DpAll K H vs (xs.map f)
  | _, _, .nil => .nil
  | _, _, .cons r k => .cons (g _ _ r) (dpAll_of g k)
theorem RowAt.dp {K : PySem.W.Frag} {H : Hp} {v : V} {row : List (Int × Int)} (h : RowAt H v row) : Dp K H v (rowD row) := by
  obtain ⟨q, vs, rfl, e, k⟩ := h
  exact .lst (SqL.of e) (dpAll_of (f := pairD) (fun _ _ => PairAt.dp) k)
theorem plan_dp {K : PySem.W.Frag} {H : Hp} {v : V} {pl : List (List (Int × Int))} (h : LAt RowAt H v pl) : Dp K H v (planD pl) := by
  obtain ⟨q, vs, rfl, e, k⟩ := h
  exact .lst (SqL.of e) (dpAll_of (f := rowD) (fun _ _ => RowAt.dp) k)
theorem lay_all {β : Type} {f : β → PyData} (h : ∀ x, (f x).canLay0 = true) : ∀ l : List β, PyData.canLayAll0 (l.map f) = true
  | [] => rfl
  | x :: l => by
    show (PyData.canLay0 (f x) && PyData.canLayAll0 (l.map f)) = true
    rw [h x, lay_all h l]
    rfl
theorem deep_all {β : Type} {f : β → PyData} {n : Nat} (h : ∀ x, (f x).depth ≤ n) : ∀ l : List β, PyData.depthAll (l.map f) ≤ n
  | [] => Nat.zero_le _
  | x :: l => by
    show max (PyData.depth (f x)) (PyData.depthAll (l.map f)) ≤ n
    exact Nat.max_le.mpr ⟨h x, deep_all h l⟩
theorem deep_row (row : List (Int × Int)) : (rowD row).depth ≤ 5 := by
  have := deep_all (f := pairD) (n := 4) (fun p => by show max 0 (max 0 0) + 1 ≤ 4; decide) row
  show PyData.depthAll (row.map pairD) + 1 ≤ 5
  omega
theorem lay_row (row : List (Int × Int)) : (rowD row).canLay0 = true := lay_all (f := pairD) (fun _ => rfl) row
theorem shaped_row (row : List (Int × Int)) : SeqAt.shaped (rowD row) = true := by
  unfold SeqAt.shaped
  rw [Bool.and_eq_true, decide_eq_true_eq]
  exact ⟨lay_row row, Nat.le_trans (deep_row row) (by decide)⟩
theorem shaped_plan (pl : List (List (Int × Int))) : SeqAt.shaped (planD pl) = true := by
  unfold SeqAt.shaped
  rw [Bool.and_eq_true, decide_eq_true_eq]
  have := deep_all (f := rowD) deep_row pl
  exact ⟨lay_all (f := rowD) lay_row pl, by show PyData.depthAll (pl.map rowD) + 1 ≤ 64; omega⟩
def spBreaksOk : Sp := fun vs H Q _ => ∃ (t : Int) (v : V) (pl : List (List (Int × Int))), vs = [.int t, v] ∧ TOk t ∧ t ≤ 20 ∧ LAt RowAt H v pl ∧ Valid t pl ∧ Sized pl ∧ goodB t pl = true ∧ ∀ G p, Same H G → H p = none → RowAt G (.ref p) (breaksOf t pl) → Q (.ref p) G
end EM
namespace EM
open PySem PySem.Spec PyProof.Rows L2
/-! ### the program's breaks -/
def valsL (n : Nat) (g : Nat → V) : List V := (List.range n).map g
theorem valsL_len (n : Nat) (g : Nat → V) : (valsL n g).length = n := by
  unfold valsL
  rw [List.length_map, List.length_range]
theorem at_vals {n : Nat} {g : Nat → V} {j : Nat} (h : j < n) : (valsL n g)[j]? = some (g j) := by
  unfold valsL
  rw [List.getElem?_map, List.getElem?_range h]
  rfl
theorem set_vals {n : Nat} {g : Nat → V} {j : Nat} {z : V} : (valsL n g).set j z = valsL n (fun c => if c = j then z else g c) := by
  refine List.ext_getElem? fun i => ?_
  by_cases hi : i < n
  · rw [at_vals hi]
    by_cases e : j = i
    · subst e
      rw [List.getElem?_set_self (by rw [valsL_len]; exact hi), if_pos rfl]
    · rw [List.getElem?_set_ne e, at_vals hi, if_neg (fun z => e z.symm)]
  · rw [List.getElem?_eq_none (by rw [List.length_set, valsL_len]; omega), List.getElem?_eq_none (by rw [valsL_len]; omega)]
theorem vals_rep (n : Nat) (z : V) : (List.replicate n [z]).flatten = valsL n fun _ => z := by
  unfold valsL
  rw [List.map_const', List.length_range]
  induction n with
  | zero => rfl
  | succ n ih =>
    rw [List.replicate_succ, List.flatten_cons, ih, List.replicate_succ]
    rfl
theorem home_take {row : List (Int × Int)} {i : Nat} {p : Int × Int} (h : row[i]? = some p) (c : Int) : homeIn (row.take (i + 1)) c = (homeIn (row.take i) c || decide (c = p.1)) := by
  rw [Bool.eq_iff_iff, homeIn_iff, Bool.or_eq_true, homeIn_iff, decide_eq_true_eq]
  constructor
  · rintro ⟨q, hq, e⟩
    rw [take_snoc h] at hq
    rcases List.mem_append.mp hq with m | m
    · exact .inl ⟨q, m, e⟩
    · rw [List.mem_singleton.mp m] at e
      exact .inr e.symm
  · rintro (⟨q, hq, e⟩ | e)
    · exact ⟨q, by rw [take_snoc h]; exact List.mem_append_left _ hq, e⟩
    · exact ⟨p, by rw [take_snoc h]; exact List.mem_append_right _ List.mem_cons_self, e.symm⟩
/-- of each team, whether it is at home in the row -/
def homesOf (t : Int) (row : List (Int × Int)) : List V := valsL t.toNat fun c => .bl (homeIn row (c : Int))
def HomesAt (t : Int) (H : Hp) (v : V) (row : List (Int × Int)) : Prop := ∃ q, v = .ref q ∧ H q = some (.lst (homesOf t row))
theorem monHomes (t : Int) : Mon (HomesAt t) := ⟨fun _ _ _ _ s ⟨q, e, h⟩ => ⟨q, e, s _ _ h⟩⟩
theorem scHomes : FnScope ["teams", "pairs", "home", "team", "_"] ["teams", "pairs"] (defScope t__home_of_each) := ⟨rfl, rfl, rfl, by decide +kernel, rfl, by decide +kernel, by decide +kernel⟩
theorem scBrks : FnScope ["teams", "plan", "home", "found", "number", "team", "pairs"] ["teams", "plan"] (defScope t_breaks) := ⟨rfl, rfl, rfl, by decide +kernel, rfl, by decide +kernel, by decide +kernel⟩
section
variable {P : Program} {w : World} {K : PySem.W.Frag} {mg : Str → Option Value} {base : Heap}
def spHomes : Sp := fun vs H Q _ => ∃ (t : Int) (v : V) (row : List (Int × Int)), vs = [.int t, v] ∧ 2 ≤ t ∧ t ≤ 20 ∧ RowAt H v row ∧ VRow t row ∧ ∀ G p, Same H G → H p = none → G p = some (.lst (homesOf t row)) → Q (.ref p) G
theorem fn_homes (d : DefAt K mg "_home_of_each" t__home_of_each ["teams", "pairs"]) : Fn P w K mg base "_home_of_each" ["teams", "pairs"] 1 spHomes := by
  refine d.fn scHomes (fun vs H Q E h => ?_) (fun f cdv A outer s H vs Q E hr h => ?_)
  · obtain ⟨t, v, row, rfl, _⟩ := h
    rfl
  · obtain ⟨t, v, row, rfl, t2, t20, hR, hv, q⟩ := h
    refine ⟨_, pss_cons (ps_set (i := 2) scHomes.nd rfl (.inl rfl) (pe_op op_rep (pe_lst (pa_cons pe_bl pa_nil)) (pv 0)))
      (pss_cons (ps_for PassesOwn.never rfl (pi_list (pv 1)) (pg_tup rfl (pgs_cons (pg_name (i := 3) scHomes.nd rfl (.inl rfl)) (pgs_cons (pg_name (i := 4) scHomes.nd rfl (.inl rfl)) pgs_nil))) (pss_one (ps_asg pe_bl (pg_sub (pv 2) (pv 3) set_list))))
      (pss_one (ps_ret (pv 2)))), ?_⟩
    obtain ⟨n, rfl⟩ : ∃ n : Nat, t = (n : Int) := ⟨t.toNat, by omega⟩
    have tn : ((n : Int)).toNat = n := Int.toNat_natCast n
    unfold homesOf at q
    rw [tn] at q
    obtain ⟨a, us, rfl, ea, au⟩ := hR
    refine ⟨by show 1 ≤ sizeLine; decide, fun L nL => ?_⟩
    have sL := same_upd (o := .lst [.bl false]) nL
    refine ⟨.int n, rfl, L, n, [.bl false], rfl, rfl, upd_same, by omega, by omega, ?_, fun D nD => ?_⟩
    · rw [tn]
      exact Nat.le_of_lt (small1000 (by simp; omega))
    rw [tn, vals_rep]
    have sD := same_upd (o := .lst (valsL n fun _ => .bl false)) nD
    have nD0 : H D = none := sL.free nD
    refine ⟨.ref a, rfl, a, rfl, ⟨_, SqL.of (sD _ _ (sL _ _ ea))⟩, for_list (K := K) (a := a) (xs := us) (fun i σ G => ∃ y3 y4, σ = [some (.int n), some (.ref a), some (.ref D), y3, y4] ∧ Same H G ∧ G D = some (.lst (valsL n fun c => .bl (homeIn (row.take i) (c : Int)))))
      ⟨_, _, rfl, sL.trans sD, upd_same⟩ (fun i σ G _ ⟨_, _, _, h, _⟩ => SqL.of (h _ _ ea)) ?_ ?_⟩
    · rintro i x σ G hx ⟨y3, y4, rfl, s1, e1⟩
      obtain ⟨p, hp, qp, rfl, hqp⟩ := au.at hx
      obtain ⟨b0, b1, b2, b3, ne⟩ := hv p (List.mem_of_getElem? hp)
      obtain ⟨h, hh⟩ : ∃ h : Nat, p.1 = (h : Int) := ⟨p.1.toNat, by omega⟩
      have hn : h < n := by omega
      refine ⟨qp, _, rfl, SqT.of (s1 _ _ hqp), rfl, _, _, rfl, _, _, rfl, rfl, ?_⟩
      refine ⟨.ref D, rfl, .int p.1, rfl, D, _, p.1, h, rfl, rfl, e1, ?_, ?_⟩
      · rw [valsL_len, hh]
        unfold ixN
        rw [if_pos (by omega), if_pos (by omega), Int.toNat_natCast]
      rw [set_vals]
      refine ⟨_, _, rfl, fun c o ec => ?_, ?_⟩
      · rw [upd_ne (ne_of_none ec nD0)]
        exact s1 _ _ ec
      · rw [upd_same]
        congr 3
        funext c
        rw [home_take hp, hh]
        by_cases e2 : c = h
        · rw [if_pos e2, e2, decide_eq_true rfl, Bool.or_true]
        · rw [if_neg e2, decide_eq_false (fun z : (c : Int) = (h : Int) => e2 (by omega)), Bool.or_false]
    · rintro σ G ⟨y3, y4, rfl, s1, e1⟩
      refine ⟨.ref D, rfl, q G D s1 nD0 ?_⟩
      rw [e1, au.len, List.take_length]
theorem fn_brks {c : Cs} (d : DefAt K mg "breaks" t_breaks ["teams", "plan"]) (N : Names mg) (Z : AnsC K mg c) (Fj : Fn P w K mg base "judged" ["teams", "plan"] 5 (spJudged c)) (Fh : Fn P w K mg base "_home_of_each" ["teams", "pairs"] 1 spHomes) : Fn P w K mg base "breaks" ["teams", "plan"] 6 spBreaksOk := by
  refine d.fn scBrks (fun vs H Q E h => ?_) (fun f cdv A0 outer s H vs Q E hr h => ?_)
  · obtain ⟨t, v, pl, rfl, _⟩ := h
    rfl
  · obtain ⟨t, v, pl, rfl, T, t20, hP, hv, hs, good, q⟩ := h
    refine ⟨_, pss_cons (ps_if (pt_not (pt_val (pe_callB call_isi (by rfl) N.isinst boot_isinstance (pa_cons (pe_f Fj hr (by decide) (by rfl) (pa_cons (pv 0) (pa_cons (pv 1) pa_nil))) (pa_cons (pe_glob (v := .ref c.g) (by rfl) Z.mG rfl) pa_nil))))) (pss_one ps_never) pss_nil)
      (pss_cons (ps_setLc (i := 2) (own := [("pairs", 6)]) (g := gName 6) (tt := tYes) rfl scBrks.nd rfl rfl (sw_true rfl rfl rfl (by decide +kernel)) (pi_list (pv 1)) (blkOk_by (N := ["teams", "plan", "home", "found", "number", "team", "pairs"]) (sc := defScope t_breaks) (by decide +kernel))
          (fun _ _ _ _ _ => pg_name (i := 6) scBrks.nd rfl (Or.inl rfl)) (fun _ _ _ _ _ => pts_nil) (fun _ _ _ _ _ => pe_f Fh hr (by decide) (by rfl) (pa_cons (pv 0) (pa_cons (pv 6) pa_nil))))
      (pss_cons (ps_set (i := 3) scBrks.nd rfl (.inl rfl) (pe_lst pa_nil))
      (pss_cons (ps_for PassesOwn.never rfl (pi_range2 (by rfl) N.range (pa_cons pe_int (pa_cons (pe_callB call_len_seq (by rfl) N.len PySem.boot_len (pa_cons (pv 1) pa_nil)) pa_nil))) (pg_name (i := 4) scBrks.nd rfl (.inl rfl))
        (pss_one (ps_for PassesOwn.never rfl (pi_range1 (by rfl) N.range (pa_cons (pv 0) pa_nil)) (pg_name (i := 5) scBrks.nd rfl (.inl rfl))
          (pss_one (ps_if (pt_cmpR op_eq (pe_ix ix_list (pe_ix ix_list (pv 2) (pv 4) (fun _ _ => rfl)) (pv 5) (fun _ _ => rfl)) (pe_ix ix_list (pe_ix ix_list (pv 2) (pe_op op_sub (pv 4) pe_int) (fun _ _ => rfl)) (pv 5) (fun _ _ => rfl)) (nomark _))
            (pss_one (ps_expr (pe_bm PySem.F.plainAttrs_list PySem.F.slot_list_append PySem.F.type_list_append mt_append (pv 3) (pa_cons (pe_tup (pa_cons (pv 4) (pa_cons (pv 5) pa_nil))) pa_nil)))) pss_nil)))))
      (pss_one (ps_ret (pv 3)))))), ?_⟩
    have t2 := T.two
    refine ⟨.int t, rfl, v, rfl, t, v, pl, rfl, T, t20, hP, hv, hs, fun G x A s1 nx ax sh => ?_⟩
    have isg : isGoodA A = true := (shows_good t2 hv sh).symm.trans good
    have eA : A = .good := by
      cases A with
      | good => rfl
      | _ => cases isg
    subst eA
    obtain ⟨dx, fs, ex, _⟩ := ax
    refine ⟨.ref x, .ref c.g, _, _, true, rfl, .own c.g, (Z.ins .good).ty ex, Z.kit .good .good, true, rfl, iteF ?_⟩
    obtain ⟨a, us, rfl, ea, au⟩ := hP
    have au1 := All2.up monRow au s1
    have ul := au.len
    have few := hs.few
    refine ⟨.ref a, rfl, a, rfl, ⟨_, SqL.of (s1 _ _ ea)⟩, fun D nD => lc_list (K := K) (a := a) (xs := us) (fun i G' => Same G G' ∧ OAt (HomesAt t) G' D (pl.take i)) ⟨same_upd nD, OAt.new _⟩ (fun i G' _ h => SqL.of (h.1 _ _ (s1 _ _ ea))) ?_ ?_⟩
    · rintro i y G1 hy ⟨s2, o2⟩
      obtain ⟨row, hrow, ra⟩ := au1.at hy
      have il := (List.getElem?_eq_some_iff.mp hrow).1
      refine ⟨rfl, .int t, rfl, y, rfl, t, y, row, rfl, t2, t20, ra.mono s2, hv row (List.mem_of_getElem? hrow), fun G2 p s3 np ep => ?_⟩
      have o3 := o2.keep (monHomes t) s3
      obtain ⟨acc0, eD⟩ := o2.at
      have npD : p ≠ D := fun z => by rw [z, eD] at np; cases np
      obtain ⟨acc, eacc, lacc, o4⟩ := o3.push (monHomes t) (x := row) (v := .ref p) (by rw [List.length_take]; omega) ⟨p, rfl, by rw [del_ne npD]; exact ep⟩
      refine ⟨acc, eacc, lacc, same_push nD (s2.trans s3), ?_⟩
      rw [take_snoc hrow]
      exact o4
    · rintro G1 ⟨s2, o2⟩
      rw [ul, List.take_length] at o2
      obtain ⟨hs0, eD, ah⟩ := (o2.close (monHomes t)).spot
      refine ⟨Nat.zero_le _, fun p np => ?_⟩
      have s3 := s1.trans s2
      have s0 := same_upd (o := .lst []) np
      have npH : H p = none := s3.free np
      have ah0 := All2.up (monHomes t) ah s0
      have eD0 := s0 _ _ eD
      refine ⟨.ref a, rfl, a, us, rfl, .inl (SqL.of (s0 _ _ (s3 _ _ ea))), 1, _, rfl, ⟨by omega, by omega, by omega, by omega⟩, for_range (lo := 1) (n := ((((us.length : Nat) : Int)) - 1).toNat) (fun i σ G' => ∃ y4 y5 ps, σ = [some (.int t), some (.ref a), some (.ref D), some (.ref p), y4, y5, none] ∧ Same G1 G' ∧ G' p = some (.lst ps) ∧ All2 (PairAt G') ps (breaksTo t pl i))
        ⟨_, _, [], rfl, s0, upd_same, .nil⟩ ?_ ?_⟩
      · rintro i σ G2 hi ⟨y4, y5, ps, rfl, s4, e4, ap⟩
        have i1 : i + 1 < pl.length := by omega
        have g0 : pl[i]? = some pl[i] := List.getElem?_eq_getElem (by omega)
        have g1 : pl[i + 1]? = some pl[i + 1] := List.getElem?_eq_getElem i1
        obtain ⟨v0, ev0, q0, rfl, hq0⟩ := ah.at' g0
        obtain ⟨v1, ev1, q1, rfl, hq1⟩ := ah.at' g1
        have r0 : rowN pl i = pl[i] := by unfold rowN; rw [g0]; rfl
        have r1 : rowN pl (i + 1) = pl[i + 1] := by unfold rowN; rw [g1]; rfl
        have ix0 : atI hs0 (1 + (i : Int) - 1) = some (.ref q0) := by
          rw [show 1 + (i : Int) - 1 = (i : Int) by omega]
          exact atI_nat ev0
        have ix1 : atI hs0 (1 + (i : Int)) = some (.ref q1) := by
          rw [show 1 + (i : Int) = ((i + 1 : Nat) : Int) by omega]
          exact atI_nat ev1
        refine ⟨.int t, rfl, t, rfl, by omega, by omega, for_range (n := t.toNat) (fun j σ G' => ∃ y5 ps, σ = [some (.int t), some (.ref a), some (.ref D), some (.ref p), some (.int (1 + (i : Int))), y5, none] ∧ Same G1 G' ∧ G' p = some (.lst ps) ∧ All2 (PairAt G') ps (breaksTo t pl i ++ brkRow (rowN pl i) (rowN pl (i + 1)) (1 + (i : Int)) j))
          ⟨_, ps, rfl, s4, e4, by show All2 _ _ (_ ++ []); rw [List.append_nil]; exact ap⟩ ?_ ?_⟩
        · rintro j σ G3 hj ⟨y5, ps', rfl, s5, e5, ap'⟩
          rw [Int.zero_add]
          have at1 : atI (homesOf t pl[i + 1]) (j : Int) = some (.bl (homeIn pl[i + 1] (j : Int))) := atI_nat (at_vals hj)
          have at0 : atI (homesOf t pl[i]) (j : Int) = some (.bl (homeIn pl[i] (j : Int))) := atI_nat (at_vals hj)
          refine ⟨.ref D, rfl, .int (1 + (i : Int)), rfl, D, hs0, 1 + (i : Int), .ref q1, rfl, rfl, SqL.of (s5 _ _ eD), ix1, .int (j : Int), rfl, q1, _, (j : Int), _, rfl, rfl, SqL.of (s5 _ _ hq1), at1, ?_⟩
          refine ⟨.ref D, rfl, .int (1 + (i : Int)), rfl, 1 + (i : Int), 1, rfl, rfl, D, hs0, 1 + (i : Int) - 1, .ref q0, rfl, rfl, SqL.of (s5 _ _ eD), ix0, .int (j : Int), rfl, q0, _, (j : Int), _, rfl, rfl, SqL.of (s5 _ _ hq0), at0, ?_⟩
          refine ⟨rfl, _, rfl, ite2 (fun e => ?_) (fun e => ?_)⟩
          · have e := of_decide_eq_true e
            refine ⟨.ref p, rfl, .inl ⟨rfl, _, SqL.of e5⟩, .int (1 + (i : Int)), rfl, .int (j : Int), rfl, by show 2 ≤ sizeLine; decide, fun T0 nT => ?_⟩
            have npT : p ≠ T0 := ne_of_none e5 nT
            have s6 := same_upd (o := .tup [.int (1 + (i : Int)), .int (j : Int)]) nT
            refine ⟨p, ps', .ref T0, rfl, rfl, by rw [upd_ne npT]; exact e5, ?_, ?_⟩
            · have h1 := ap'.len
              have h2 := breaksTo_len t pl i
              have h3 := brkRow_len (rowN pl i) (rowN pl (i + 1)) (1 + (i : Int)) j
              rw [List.length_append] at h1
              have h4 : i * t.toNat ≤ 900 * 900 := Nat.mul_le_mul (by omega) (by omega)
              have : ps'.length ≤ 900 * 900 + 900 := by omega
              exact Nat.lt_of_le_of_lt this (by decide)
            · refine ⟨_, _, rfl, fun b o eb => ?_, upd_same, ?_⟩
              · have nbp : b ≠ p := ne_of_none eb np
                rw [upd_ne nbp]
                exact s6 _ _ (s5 _ _ eb)
              · have e' : decide (V.bl (homeIn (rowN pl i) (j : Int)) = V.bl (homeIn (rowN pl (i + 1)) (j : Int))) = true := by
                  rw [r0, r1]
                  exact decide_eq_true e.symm
                rw [brkRow_succ, if_pos e', ← List.append_assoc]
                have e7 : upd G3 T0 (.tup [.int (1 + (i : Int)), .int (j : Int)]) p = some (.lst ps') := by rw [upd_ne npT]; exact e5
                exact (ap'.mono fun _ _ h => (h.mono s6).upd e7).snoc ⟨T0, rfl, by rw [upd_ne npT.symm, upd_same]⟩
          · have e : ¬ decide (V.bl (homeIn (rowN pl i) (j : Int)) = V.bl (homeIn (rowN pl (i + 1)) (j : Int))) = true := by
              rw [r0, r1]
              exact fun z => e (decide_eq_true (of_decide_eq_true z).symm)
            exact ⟨_, ps', rfl, s5, e5, by rw [brkRow_succ, if_neg e, List.append_nil]; exact ap'⟩
        · rintro σ G3 ⟨y5, ps', rfl, s5, e5, ap'⟩
          exact ⟨_, _, ps', rfl, s5, e5, by rw [breaksTo_succ]; exact ap'⟩
      · rintro σ G2 ⟨y4, y5, ps, rfl, s4, e4, ap⟩
        refine ⟨.ref p, rfl, q G2 p (s3.trans s4) npH ⟨p, ps, rfl, e4, ?_⟩⟩
        unfold breaksOf
        rw [show pl.length - 1 = ((((us.length : Nat) : Int)) - 1).toNat by omega]
        exact ap
end
end EM
namespace EM
open PySem PySem.Spec PyProof.Rows L2
theorem scOpponent : FnScope ["teams", "team", "number", "last"] ["teams", "team", "number"] (defScope t_opponent) := ⟨rfl, rfl, rfl, by decide +kernel, rfl, by decide +kernel, by decide +kernel⟩
theorem scAtHome : FnScope ["teams", "team", "number", "last"] ["teams", "team", "number"] (defScope t_at_home) := ⟨rfl, rfl, rfl, by decide +kernel, rfl, by decide +kernel, by decide +kernel⟩
section
variable {P : Program} {w : World} {K : PySem.W.Frag} {mg : Str → Option Value} {base : Heap}
/-! ### opponent, at_home, round_of -/
def spOpp : Sp := fun vs H Q _ => ∃ t a r : Int, vs = [.int t, .int a, .int r] ∧ TOk t ∧ 0 ≤ a ∧ a < t ∧ 0 ≤ r ∧ r < t - 1 ∧ Q (.int (opp t a r)) H
theorem fn_opponent (d : DefAt K mg "opponent" t_opponent ["teams", "team", "number"]) (F : Fn P w K mg base "_check_team_in_round" ["teams", "team", "number"] 4 spTR) : Fn P w K mg base "opponent" ["teams", "team", "number"] 5 spOpp := by
  refine d.fn scOpponent (fun vs H Q E h => ?_) (fun f cdv A outer s H vs Q E hr h => ?_)
  · obtain ⟨t, a, r, rfl, _⟩ := h
    rfl
  · obtain ⟨t, a, r, rfl, T, a0, a1, r0, r1, q⟩ := h
    have := T.two
    refine ⟨_, pss_cons (ps_expr (pe_f F hr (by decide) (by rfl) (pa_cons (pv 0) (pa_cons (pv 1) (pa_cons (pv 2) pa_nil)))))
      (pss_cons (ps_set (i := 3) scOpponent.nd rfl (.inl rfl) (pe_op op_sub (pv 0) pe_int))
      (pss_cons (ps_if (pt_cmpR op_eq (pv 1) (pv 3) (nomark _)) (pss_one (ps_ret (pv 2))) pss_nil)
      (pss_cons (ps_if (pt_cmpR op_eq (pv 1) (pv 2) (nomark _)) (pss_one (ps_ret (pv 3))) pss_nil)
      (pss_one (ps_ret (pe_op op_mod (pe_op op_sub (pe_op op_mul pe_int (pv 2)) (pv 1)) (pv 3))))))), ?_⟩
    refine ⟨.int t, rfl, .int a, rfl, .int r, rfl, t, a, r, rfl, T, a0, a1, r0, r1, .int t, rfl, t, 1, rfl, rfl, ?_⟩
    refine ⟨.int a, rfl, .int (t - 1), rfl, rfl, _, rfl, ite2 (fun e => ?_) (fun e => ?_)⟩
    · have e := V.int.inj (of_decide_eq_true e)
      have : opp t a r = r := by unfold opp; rw [if_pos e]
      rw [this] at q
      exact ⟨.int r, rfl, q⟩
    · have e1 : ¬ a = t - 1 := fun z => e (decide_eq_true (congrArg V.int z))
      refine ⟨.int a, rfl, .int r, rfl, rfl, _, rfl, ite2 (fun e => ?_) (fun e => ?_)⟩
      · have e := V.int.inj (of_decide_eq_true e)
        have : opp t a r = t - 1 := by unfold opp; rw [if_neg e1, if_pos e]
        rw [this] at q
        exact ⟨.int (t - 1), rfl, q⟩
      · have e2 : ¬ a = r := fun z => e (decide_eq_true (congrArg V.int z))
        have : opp t a r = (2 * r - a) % (t - 1) := by unfold opp; rw [if_neg e1, if_neg e2]
        rw [this] at q
        exact ⟨.int r, rfl, 2, r, rfl, rfl, .inl ⟨by decide, by decide⟩, .int a, rfl, 2 * r, a, rfl, rfl, .int (t - 1), rfl, 2 * r - a, t - 1, rfl, rfl, (by show (0 : Int) < t - 1; omega), q⟩
def spHome : Sp := fun vs H Q _ => ∃ t a r : Int, vs = [.int t, .int a, .int r] ∧ TOk t ∧ 0 ≤ a ∧ a < t ∧ 0 ≤ r ∧ r < t - 1 ∧ Q (.bl (home t a r)) H
theorem fn_atHome (d : DefAt K mg "at_home" t_at_home ["teams", "team", "number"]) (F : Fn P w K mg base "_check_team_in_round" ["teams", "team", "number"] 4 spTR) : Fn P w K mg base "at_home" ["teams", "team", "number"] 5 spHome := by
  refine d.fn scAtHome (fun vs H Q E h => ?_) (fun f cdv A outer s H vs Q E hr h => ?_)
  · obtain ⟨t, a, r, rfl, _⟩ := h
    rfl
  · obtain ⟨t, a, r, rfl, T, a0, a1, r0, r1, q⟩ := h
    have := T.two
    refine ⟨_, pss_cons (ps_expr (pe_f F hr (by decide) (by rfl) (pa_cons (pv 0) (pa_cons (pv 1) (pa_cons (pv 2) pa_nil)))))
      (pss_cons (ps_set (i := 3) scAtHome.nd rfl (.inl rfl) (pe_op op_sub (pv 0) pe_int))
      (pss_cons (ps_if (pt_cmpR op_eq (pv 1) (pv 3) (nomark _)) (pss_one (ps_ret (pe_cmpR op_eq (pe_op op_mod (pv 2) pe_int) pe_int (nomark _)))) pss_nil)
      (pss_cons (ps_if (pt_cmpR op_eq (pv 1) (pv 2) (nomark _)) (pss_one (ps_ret (pe_cmpR op_eq (pe_op op_mod (pv 2) pe_int) pe_int (nomark _)))) pss_nil)
      (pss_one (ps_ret (pe_cmpR op_eq (pe_op op_mod (pe_op op_mod (pe_op op_sub (pv 1) (pv 2)) (pv 3)) pe_int) pe_int (nomark _))))))), ?_⟩
    refine ⟨.int t, rfl, .int a, rfl, .int r, rfl, t, a, r, rfl, T, a0, a1, r0, r1, .int t, rfl, t, 1, rfl, rfl, ?_⟩
    refine ⟨.int a, rfl, .int (t - 1), rfl, rfl, _, rfl, ite2 (fun e => ?_) (fun e => ?_)⟩
    · have e := V.int.inj (of_decide_eq_true e)
      have : home t a r = decide (V.int (r % 2) = V.int 0) := by unfold home; rw [if_pos e, dec_int]
      rw [this] at q
      exact ⟨.int r, rfl, r, 2, rfl, rfl, (by show (0 : Int) < 2; decide), rfl, q⟩
    · have e1 : ¬ a = t - 1 := fun z => e (decide_eq_true (congrArg V.int z))
      refine ⟨.int a, rfl, .int r, rfl, rfl, _, rfl, ite2 (fun e => ?_) (fun e => ?_)⟩
      · have e := V.int.inj (of_decide_eq_true e)
        have : home t a r = decide (V.int (r % 2) = V.int 1) := by unfold home; rw [if_neg e1, if_pos e, dec_int]
        rw [this] at q
        exact ⟨.int r, rfl, r, 2, rfl, rfl, (by show (0 : Int) < 2; decide), rfl, q⟩
      · have e2 : ¬ a = r := fun z => e (decide_eq_true (congrArg V.int z))
        have : home t a r = decide (V.int ((a - r) % (t - 1) % 2) = V.int 1) := by unfold home; rw [if_neg e1, if_neg e2, dec_int]
        rw [this] at q
        exact ⟨.int a, rfl, .int r, rfl, a, r, rfl, rfl, .int (t - 1), rfl, a - r, t - 1, rfl, rfl, (by show (0 : Int) < t - 1; omega), (a - r) % (t - 1), 2, rfl, rfl, (by show (0 : Int) < 2; decide), rfl, q⟩
end
end EM
namespace EM
open PySem PySem.Spec PyProof.Rows L2
theorem scRoundOf : FnScope ["teams", "one", "other", "last"] ["teams", "one", "other"] (defScope t_round_of) := ⟨rfl, rfl, rfl, by decide +kernel, rfl, by decide +kernel, by decide +kernel⟩
section
variable {P : Program} {w : World} {K : PySem.W.Frag} {mg : Str → Option Value} {base : Heap}
def spRnd : Sp := fun vs H Q _ => ∃ t a b : Int, vs = [.int t, .int a, .int b] ∧ TOk t ∧ t.natAbs < 2 ^ 200 ∧ 0 ≤ a ∧ a < t ∧ 0 ≤ b ∧ b < t ∧ a ≠ b ∧ Q (.int (rnd t a b)) H
theorem fn_roundOf (d : DefAt K mg "round_of" t_round_of ["teams", "one", "other"]) (F1 : Fn P w K mg base "check_teams" ["teams"] 2 spTeams) (F2 : Fn P w K mg base "check_team" ["teams", "team"] 3 spTeam) : Fn P w K mg base "round_of" ["teams", "one", "other"] 4 spRnd := by
  refine d.fn scRoundOf (fun vs H Q E h => ?_) (fun f cdv A outer s H vs Q E hr h => ?_)
  · obtain ⟨t, a, r, rfl, _⟩ := h
    rfl
  · obtain ⟨t, a, b, rfl, T, tb, a0, a1, b0, b1, ne, q⟩ := h
    have := T.two
    refine ⟨_, pss_cons (ps_expr (pe_f F1 hr (by decide) (by rfl) (pa_cons (pv 0) pa_nil))) (pss_cons (ps_expr (pe_f F2 hr (by decide) (by rfl) (pa_cons (pv 0) (pa_cons (pv 1) pa_nil))))
      (pss_cons (ps_expr (pe_f F2 hr (by decide) (by rfl) (pa_cons (pv 0) (pa_cons (pv 2) pa_nil))))
      (pss_cons (ps_if (pt_cmpR op_eq (pv 1) (pv 2) (nomark _)) (pss_one ps_never) pss_nil)
      (pss_cons (ps_set (i := 3) scRoundOf.nd rfl (.inl rfl) (pe_op op_sub (pv 0) pe_int))
      (pss_cons (ps_if (pt_cmpR op_eq (pv 1) (pv 3) (nomark _)) (pss_one (ps_ret (pv 2))) pss_nil)
      (pss_cons (ps_if (pt_cmpR op_eq (pv 2) (pv 3) (nomark _)) (pss_one (ps_ret (pv 1))) pss_nil)
      (pss_one (ps_ret (pe_op op_mod (pe_op op_mulW (pe_op op_add (pv 1) (pv 2)) (pe_op op_fdiv (pv 0) pe_int)) (pv 3)))))))))), ?_⟩
    refine ⟨.int t, rfl, t, rfl, T, .int t, rfl, .int a, rfl, t, a, rfl, a0, a1, .int t, rfl, .int b, rfl, t, b, rfl, b0, b1, ?_⟩
    refine ⟨.int a, rfl, .int b, rfl, rfl, _, rfl, itF (fun z => ne (V.int.inj z)) ?_⟩
    refine ⟨.int t, rfl, t, 1, rfl, rfl, ?_⟩
    refine ⟨.int a, rfl, .int (t - 1), rfl, rfl, _, rfl, ite2 (fun e => ?_) (fun e => ?_)⟩
    · have e := V.int.inj (of_decide_eq_true e)
      have : rnd t a b = b := by unfold rnd; rw [if_pos e]
      rw [this] at q
      exact ⟨.int b, rfl, q⟩
    · have e1 : ¬ a = t - 1 := fun z => e (decide_eq_true (congrArg V.int z))
      refine ⟨.int b, rfl, .int (t - 1), rfl, rfl, _, rfl, ite2 (fun e => ?_) (fun e => ?_)⟩
      · have e := V.int.inj (of_decide_eq_true e)
        have : rnd t a b = a := by unfold rnd; rw [if_neg e1, if_pos e]
        rw [this] at q
        exact ⟨.int a, rfl, q⟩
      · have e2 : ¬ b = t - 1 := fun z => e (decide_eq_true (congrArg V.int z))
        have : rnd t a b = (a + b) * (t / 2) % (t - 1) := by unfold rnd; rw [if_neg e1, if_neg e2]
        rw [this] at q
        have p1 : (2 : Nat) ^ 201 = 2 * 2 ^ 200 := by rw [Nat.pow_succ, Nat.mul_comm]
        have h1 : (a + b).natAbs < 2 ^ 201 := by rw [p1]; generalize (2 : Nat) ^ 200 = z at *; omega
        have h2 : (t / 2).natAbs < 2 ^ 200 := by generalize (2 : Nat) ^ 200 = z at *; omega
        exact ⟨.int a, rfl, .int b, rfl, a, b, rfl, rfl, .int t, rfl, t, 2, rfl, rfl, ⟨by decide, by decide⟩, a + b, t / 2, rfl, rfl, wide_mul h1 h2 (by decide) (by decide) (by decide), .int (t - 1), rfl, _, t - 1, rfl, rfl, (by show (0 : Int) < t - 1; omega), q⟩
end
end EM
namespace EM
open PySem PySem.Spec PyProof.Rows L2
theorem scBreakOf : FnScope ["teams", "team"] ["teams", "team"] (defScope t_break_of) := ⟨rfl, rfl, rfl, by decide +kernel, rfl, by decide +kernel, by decide +kernel⟩
section
variable {P : Program} {w : World} {K : PySem.W.Frag} {mg : Str → Option Value} {base : Heap}
def spBreak : Sp := fun vs H Q _ => ∃ t a : Int, vs = [.int t, .int a] ∧ TOk t ∧ 0 ≤ a ∧ a < t ∧ (a < t - 2 → Q (.int (brk a)) H) ∧ (t - 2 ≤ a → Q .non H)
theorem fn_breakOf (d : DefAt K mg "break_of" t_break_of ["teams", "team"]) (F1 : Fn P w K mg base "check_teams" ["teams"] 2 spTeams) (F2 : Fn P w K mg base "check_team" ["teams", "team"] 3 spTeam) : Fn P w K mg base "break_of" ["teams", "team"] 4 spBreak := by
  refine d.fn scBreakOf (fun vs H Q E h => ?_) (fun f cdv A outer s H vs Q E hr h => ?_)
  · obtain ⟨t, a, rfl, _⟩ := h
    rfl
  · obtain ⟨t, a, rfl, T, a0, a1, q, q'⟩ := h
    refine ⟨_, pss_cons (ps_expr (pe_f F1 hr (by decide) (by rfl) (pa_cons (pv 0) pa_nil))) (pss_cons (ps_expr (pe_f F2 hr (by decide) (by rfl) (pa_cons (pv 0) (pa_cons (pv 1) pa_nil))))
      (pss_cons (ps_if (pt_cmpR op_ge (pv 1) (pe_op op_sub (pv 0) pe_int) (nomark _)) (pss_one (ps_ret pe_non)) pss_nil)
      (pss_cons (ps_if (pt_cmpR op_eq (pe_op op_mod (pv 1) pe_int) pe_int (nomark _)) (pss_one (ps_ret (pv 1))) pss_nil)
      (pss_one (ps_ret (pe_op op_add (pv 1) pe_int)))))), ?_⟩
    refine ⟨.int t, rfl, t, rfl, T, .int t, rfl, .int a, rfl, t, a, rfl, a0, a1, ?_⟩
    refine ⟨.int a, rfl, .int t, rfl, t, 2, rfl, rfl, a, t - 2, rfl, rfl, _, rfl, ite2 (fun e => ?_) (fun e => ?_)⟩
    · have e := of_decide_eq_true e
      exact q' (by omega)
    · have e : ¬ t - 2 ≤ a := fun z => e (decide_eq_true z)
      have q := q (by omega)
      refine ⟨.int a, rfl, a, 2, rfl, rfl, (by show (0 : Int) < 2; decide), rfl, _, rfl, ite2 (fun e => ?_) (fun e => ?_)⟩
      · have e := V.int.inj (of_decide_eq_true e)
        have : brk a = a := by unfold brk; rw [if_pos e]
        rw [this] at q
        exact ⟨.int a, rfl, q⟩
      · have e2 : ¬ a % 2 = 1 := fun z => e (decide_eq_true (congrArg V.int z))
        have : brk a = a + 1 := by unfold brk; rw [if_neg e2]
        rw [this] at q
        exact ⟨.int a, rfl, a, 1, rfl, rfl, q⟩
end
end EM
namespace EM
open PySem PySem.Spec PyProof.Rows L2
/-! ### defs that refuse: their promise tells what they raise -/
structure FnE (P : Program) (w : World) (K : PySem.W.Frag) (mg : Str → Option Value) (base : Heap) (x : Str) (ps : List Str) (k : Nat) (sp : Sp) : Prop where
  ex : ∃ (f : Addr) (fd : FuncData), FnOk P w K mg base (L2N.CX P w) k f fd ps sp ∧ mg x = some (.ref f) ∧ PySem.W.keepIn K (.ref f) = true ∧ Binds K fd ps []
theorem DefAt.fnE {P : Program} {w : World} {K : PySem.W.Frag} {mg : Str → Option Value} {base : Heap} {x : Str} {st : Stmt} {ps N : List Str} {k : Nat} {sp : Sp} (d : DefAt K mg x st ps) (S : FnScope N ps (defScope st)) (len : ∀ vs H Q E, sp vs H Q E → vs.length = ps.length)
    (body : ∀ (f : Addr) (cdv : Value) (A : Around) (outer : List Env) (s : Shared) (H : Hp) (vs : List V) (Q : VK) (E : XK), Room k (A.deeper (envOfC x (defScope st) s.heap.objs.size f cdv)) → sp vs H Q E →
      ∃ t, PSs (cxOf (L2N.CX P w) P w K mg base N x (defScope st) f cdv A outer s H E) (defBody st) t ∧ t { nx := fun _ H' => Q .non H', rt := Q } (start N vs) H) : FnE P w K mg base x ps (k + 1) sp := by
  obtain ⟨f, fd, F, b, m⟩ := d.ex
  obtain ⟨oc, od, kV, doc, pm, an, cdv, ct, osl, rfl, lk, hcd⟩ := F.ex
  exact ⟨f, _, fn_of lk hcd S len fun A outer s H vs Q E hr h => body f cdv A outer s H vs Q E hr h, m, F.kp, b⟩
/-- a def that raises nothing -/
theorem Fn.toE {P : Program} {w : World} {K : PySem.W.Frag} {mg : Str → Option Value} {base : Heap} {x : Str} {ps : List Str} {k : Nat} {sp : Sp} (F : Fn P w K mg base x ps k sp) : FnE P w K mg base x ps k sp := by
  obtain ⟨f, fd, G, m, kp, b⟩ := F.ex
  refine ⟨f, fd, ⟨G.len, fun A outer s H args us vs Q E hr e0 hb r h => codeAny_mono (G.run A outer s H args us vs Q E hr e0 hb r h) fun res s' hq => ?_⟩, m, kp, b⟩
  cases res with
  | error e => exact False.elim hq
  | ok fl => cases fl <;> exact hq
section
variable {X : Cx} {x : Str} {ps : List Str} {k : Nat} {sp : Sp} {e : Expr} {es : List Expr} {t : TA} {p pos : Pos} {W : WX}
theorem pe_fE (F : FnE X.prog X.w X.K X.mg X.base x ps k sp) {j : Nat} (hr : Room j X.A) (hj : k ≤ j) (tk : L2N.Takes X W) (hg : Gl X x) (ha : PA X (e :: es) t) (hdb : (x == ("__debug__" : Str)) = false := by decide)
    (he : starEach (e :: es) X.env = (false, eval e X.env) :: starEach es X.env := by rfl) (hpl : (backTo pos (starEach es X.env)).any (·.1) = false := by rfl) :
    PE X (.Call (.Name x p) (e :: es) [] pos) (tCallS sp (WE W) t) := by
  obtain ⟨f, fd, G, m, kp, b⟩ := F.ex
  exact pe_callS G (hr.mono hj) hg m kp b (fun σ => L2N.passAt tk σ) ha hdb he hpl
end
/-- an own error class that stands under ValueError, at C -/
structure ErrC (K : PySem.W.Frag) (mg : Str → Option Value) (x : Str) (C : Addr) : Prop where
  gC : mg x = some (.ref C)
  ex : PySem.W.excIn K C [.type "ValueError", .type "Exception", .type "BaseException", .type "object"] "ValueError.__new__" = true
  kC : PySem.W.keepIn K (.ref C) = true
  sb : PySem.W.subIn K (.ref C) (.type "BaseException") = some true
  ty : PySem.W.typeIn K (.ref C) = some (.type "type")
section
variable {X : Cx} {W : WX} {x m : Str} {C : Addr} {j : Nat} {p p2 pos pos2 : Pos}
theorem ps_refuse (F : ErrC X.K X.mg x C) (hc : X.calm = true) (tk : L2N.Takes X W) (hg : Gl X x) (hdb : (x == ("__debug__" : Str)) = false := by decide) :
    PS X (.Raise (some (.Call (.Name x p) [.Constant (.str m) j p2] [] pos)) none pos2) (fun _ σ H => W (.ref C) none σ H) :=
  L2N.ps_raise hc tk (L2N.pmk_own PySem.F.excBase_ValueError F.ex F.gC F.kC (raises_own F.sb F.ty) hg hdb)
end
/-! ### values of any kind -/
def isIntV : V → Bool
  | .int _ => true
  | _ => false
inductive Kind (K : PySem.W.Frag) (H : Hp) : V → Prop where
  | non : Kind K H .non
  | bl (b : Bool) : Kind K H (.bl b)
  | int (i : Int) : Kind K H (.int i)
  | str (s : Str) : Kind K H (.str s)
  | lst {a : Addr} {xs : List V} (h : H a = some (.lst xs)) : Kind K H (.ref a)
  | tup {a : Addr} {xs : List V} (h : H a = some (.tup xs)) : Kind K H (.ref a)
  | dK {a : Addr} {kvs : List (Key × V)} (h : H a = some (.dK kvs)) : Kind K H (.ref a)
theorem Kind.mono {K : PySem.W.Frag} {H H' : Hp} {v : V} (s : Same H H') (k : Kind K H v) : Kind K H' v := by
  cases k with
  | non => exact .non
  | bl b => exact .bl b
  | int i => exact .int i
  | str z => exact .str z
  | lst h => exact .lst (s _ _ h)
  | tup h => exact .tup (s _ _ h)
  | dK h => exact .dK (s _ _ h)
def okT : V → Bool
  | .int t => decide (2 ≤ t) && decide (t % 2 = 0)
  | _ => false
def inB (n : Int) : V → Bool
  | .int a => decide (0 ≤ a) && decide (a < n)
  | _ => false
theorem okT_iff {t : Int} : okT (.int t) = true ↔ TOk t := by
  show (decide (2 ≤ t) && decide (t % 2 = 0)) = true ↔ _
  rw [Bool.and_eq_true, decide_eq_true_eq, decide_eq_true_eq]
  exact ⟨fun h => ⟨h.1, h.2⟩, fun h => ⟨h.two, h.even⟩⟩
theorem inB_iff {n a : Int} : inB n (.int a) = true ↔ 0 ≤ a ∧ a < n := by
  show (decide (0 ≤ a) && decide (a < n)) = true ↔ _
  rw [Bool.and_eq_true, decide_eq_true_eq, decide_eq_true_eq]
section
variable {P : Program} {w : World} {K : PySem.W.Frag} {mg : Str → Option Value} {base : Heap}
def spNum (K : PySem.W.Frag) : Sp := fun vs H Q _ => ∃ v : V, vs = [v] ∧ Kind K H v ∧ Q (.bl (isIntV v)) H
theorem fn_isNumberK (d : DefAt K mg "is_number" t_is_number ["value"]) (T : Names mg) : Fn P w K mg base "is_number" ["value"] 1 (spNum K) := by
  refine d.fn scIsNumber (fun vs H Q E h => ?_) (fun f cdv A outer s H vs Q E hr h => ?_)
  · obtain ⟨v, rfl, _⟩ := h
    rfl
  · obtain ⟨v, rfl, kd, q⟩ := h
    refine ⟨_, pss_one (ps_ret (pe_and (pe_callB call_isi (by rfl) T.isinst boot_isinstance (pa_cons (pv 0) (pa_cons (pe_bltn (v := .ty "int") (by rfl) T.int boot_int rfl) pa_nil)))
      (pe_one (pe_not (pe_callB call_isi (by rfl) T.isinst boot_isinstance (pa_cons (pv 0) (pa_cons (pe_bltn (v := .ty "bool") (by rfl) T.bool boot_bool rfl) pa_nil))))))), ?_⟩
    have no : ∀ {n : String}, kitB n "int" = some false → TyX K H v (.type n) → isIntV v = false → tAndV (tCB (rIsi K) (tCons (tVar 0) (tCons (tC (.ty "int")) tNil))) (tNotV (tCB (rIsi K) (tCons (tVar 0) (tCons (tC (.ty "bool")) tNil)))) (start ["value"] [v]) H Q := fun {n} hk ty hi => by
      rw [hi] at q
      exact ⟨v, rfl, v, .ty "int", _, _, false, rfl, .ty "int", ty, kit_ty hk, false, rfl, iteF q⟩
    cases kd with
    | non => exact no (n := "NoneType") (by decide +kernel) (.base .non) rfl
    | bl b => exact ⟨.bl b, rfl, .bl b, .ty "int", _, _, true, rfl, .ty "int", .base (.bl b), kit_ty (by decide +kernel), true, rfl, iteT ⟨.bl b, rfl, .bl b, .ty "bool", _, _, true, rfl, .ty "bool", .base (.bl b), kit_ty (by decide +kernel), true, rfl, q⟩⟩
    | int i => exact ⟨.int i, rfl, .int i, .ty "int", _, _, true, rfl, .ty "int", .base (.int i), kit_ty (by decide +kernel), true, rfl, iteT ⟨.int i, rfl, .int i, .ty "bool", _, _, false, rfl, .ty "bool", .base (.int i), kit_ty (by decide +kernel), false, rfl, q⟩⟩
    | str z => exact no (n := "str") (by decide +kernel) (.base (.str z)) rfl
    | lst h => exact no (n := "list") (by decide +kernel) (.base (.lst h)) rfl
    | tup h => exact no (n := "tuple") (by decide +kernel) (.base (.tup h)) rfl
    | dK h => exact no (n := "dict") (by decide +kernel) (.base (.dK h)) rfl
def spTeamsE (K : PySem.W.Frag) (C : Addr) : Sp := fun vs H Q E => ∃ v : V, vs = [v] ∧ Kind K H v ∧ (okT v = true → Q .non H) ∧ (okT v = false → E (.ref C) none H)
theorem fn_chkTeamsE {C : Addr} (d : DefAt K mg "check_teams" t_check_teams ["teams"]) (Z : ErrC K mg "BadTeams" C) (F : FnE P w K mg base "is_number" ["value"] 1 (spNum K)) : FnE P w K mg base "check_teams" ["teams"] 2 (spTeamsE K C) := by
  refine d.fnE scChkTeams (fun vs H Q E h => ?_) (fun f cdv A outer s H vs Q E hr h => ?_)
  · obtain ⟨n, rfl, _⟩ := h
    rfl
  · obtain ⟨v, rfl, kd, q, e⟩ := h
    refine ⟨_, pss_one (ps_if (PW.pt (pw_or (pt_not (pt_val (pe_fE F hr (by decide) (L2N.takes_of rfl rfl rfl rfl) (by rfl) (pa_cons (pv 0) pa_nil))))
      (pw_or (pt_cmpR op_lt (pv 0) pe_int (nomark _)) (pw_or1 (pt_cmpR op_ne (pe_op op_mod (pv 0) pe_int) pe_int (nomark _))))))
      (pss_one (ps_refuse Z rfl (L2N.takes_of rfl rfl rfl rfl) (by rfl))) pss_nil), ?_⟩
    refine ⟨v, rfl, v, rfl, kd, isIntV v, rfl, ?_⟩
    cases v with
    | int t =>
      refine iteF ⟨.int t, rfl, t, 2, rfl, rfl, _, rfl, ite2 (fun z => ?_) (fun z => ?_)⟩
      · have z := of_decide_eq_true z
        refine e ?_
        cases h : okT (.int t) with
        | false => rfl
        | true => have := (okT_iff.mp h).two; omega
      · have z : ¬ t < 2 := fun y => z (decide_eq_true y)
        refine ⟨.int t, rfl, t, 2, rfl, rfl, (by show (0 : Int) < 2; decide), rfl, _, rfl, ?_⟩
        by_cases h : t % 2 = 0
        · exact iteNS (c := V.int (t % 2) = V.int 0) (by rw [h]) (q (okT_iff.mpr ⟨by omega, h⟩))
        · have : (!decide (V.int (t % 2) = V.int 0)) = true := by
            rw [decide_eq_false fun y => h (V.int.inj y)]
            rfl
          show (fun b H1 => if b = true then _ else _) (!decide (V.int (t % 2) = V.int 0)) H
          rw [this]
          refine iteT (e ?_)
          cases k : okT (.int t) with
          | false => rfl
          | true => exact absurd (okT_iff.mp k).even h
    | _ => exact iteT (e rfl)
def spInE (K : PySem.W.Frag) (C : Addr) (less : Int) : Sp := fun vs H Q E => ∃ (t : Int) (v : V), vs = [.int t, v] ∧ Kind K H v ∧ (inB (t - less) v = true → Q .non H) ∧ (inB (t - less) v = false → E (.ref C) none H)
def spCntK (K : PySem.W.Frag) : Sp := fun vs H Q _ => ∃ (n : Int) (v : V), vs = [.int n, v] ∧ Kind K H v ∧ Q (.bl (inB n v)) H
theorem fn_countedK (d : DefAt K mg "is_counted" t_is_counted ["many", "value"]) (F : Fn P w K mg base "is_number" ["value"] 1 (spNum K)) : Fn P w K mg base "is_counted" ["many", "value"] 2 (spCntK K) := by
  refine d.fn scCounted (fun vs H Q E h => ?_) (fun f cdv A outer s H vs Q E hr h => ?_)
  · obtain ⟨n, v, rfl, _⟩ := h
    rfl
  · obtain ⟨n, v, rfl, kd, q⟩ := h
    refine ⟨_, pss_one (ps_ret (pe_and (pe_f F hr (by decide) (by rfl) (pa_cons (pv 1) pa_nil)) (pe_one (pe_chain op_le op_lt pe_int (pv 1) (pv 0))))), ?_⟩
    refine ⟨v, rfl, v, rfl, kd, isIntV v, rfl, ?_⟩
    cases v with
    | int a =>
      refine iteT ⟨.int a, rfl, 0, a, rfl, rfl, _, rfl, ite2 (fun z => ?_) (fun z => ?_)⟩
      · refine ⟨.int n, rfl, a, n, rfl, rfl, ?_⟩
        have e : inB n (.int a) = decide (a < n) := by
          show (decide (0 ≤ a) && decide (a < n)) = _
          rw [z, Bool.true_and]
        rw [e] at q
        exact q
      · have e : inB n (.int a) = false := by
          show (decide (0 ≤ a) && decide (a < n)) = _
          rw [decide_eq_false (fun y => z (decide_eq_true y)), Bool.false_and]
        rw [e] at q
        exact q
    | _ => exact iteF q
theorem fn_chkTeamE {C : Addr} (d : DefAt K mg "check_team" t_check_team ["teams", "team"]) (Z : ErrC K mg "BadTeam" C) (F : FnE P w K mg base "is_counted" ["many", "value"] 2 (spCntK K)) : FnE P w K mg base "check_team" ["teams", "team"] 3 (spInE K C 0) := by
  refine d.fnE scChkTeam (fun vs H Q E h => ?_) (fun f cdv A outer s H vs Q E hr h => ?_)
  · obtain ⟨t, v, rfl, _⟩ := h
    rfl
  · obtain ⟨t, v, rfl, kd, q, e⟩ := h
    refine ⟨_, pss_one (ps_if (pt_not (pt_val (pe_fE F hr (by decide) (L2N.takes_of rfl rfl rfl rfl) (by rfl) (pa_cons (pv 0) (pa_cons (pv 1) pa_nil))))) (pss_one (ps_refuse Z rfl (L2N.takes_of rfl rfl rfl rfl) (by rfl))) pss_nil), ?_⟩
    rw [Int.sub_zero] at q e
    refine ⟨.int t, rfl, v, rfl, t, v, rfl, kd, inB t v, rfl, ?_⟩
    cases h : inB t v with
    | true => exact iteF (q h)
    | false => exact iteT (e h)
theorem fn_chkRoundE {C : Addr} (d : DefAt K mg "check_round" t_check_round ["teams", "number"]) (Z : ErrC K mg "BadRound" C) (F : FnE P w K mg base "is_counted" ["many", "value"] 2 (spCntK K)) : FnE P w K mg base "check_round" ["teams", "number"] 3 (spInE K C 1) := by
  refine d.fnE scChkRound (fun vs H Q E h => ?_) (fun f cdv A outer s H vs Q E hr h => ?_)
  · obtain ⟨t, v, rfl, _⟩ := h
    rfl
  · obtain ⟨t, v, rfl, kd, q, e⟩ := h
    refine ⟨_, pss_one (ps_if (pt_not (pt_val (pe_fE F hr (by decide) (L2N.takes_of rfl rfl rfl rfl) (by rfl) (pa_cons (pe_op op_sub (pv 0) pe_int) (pa_cons (pv 1) pa_nil))))) (pss_one (ps_refuse Z rfl (L2N.takes_of rfl rfl rfl rfl) (by rfl))) pss_nil), ?_⟩
    refine ⟨.int t, rfl, t, 1, rfl, rfl, v, rfl, t - 1, v, rfl, kd, inB (t - 1) v, rfl, ?_⟩
    cases h : inB (t - 1) v with
    | true => exact iteF (q h)
    | false => exact iteT (e h)
end
end EM
namespace EM
open PySem PySem.Spec PyProof.Rows L2
theorem okT_int {v : V} (h : okT v = true) : ∃ t : Int, v = .int t := by
  cases v with
  | int t => exact ⟨t, rfl⟩
  | _ => cases h
theorem inB_int {n : Int} {v : V} (h : inB n v = true) : ∃ a : Int, v = .int a ∧ 0 ≤ a ∧ a < n := by
  cases v with
  | int a => exact ⟨a, rfl, inB_iff.mp h⟩
  | _ => cases h
section
variable {P : Program} {w : World} {K : PySem.W.Frag} {mg : Str → Option Value} {base : Heap}
/-- of three: no count, no team, no round; what is asked if none is wrong -/
def spTRE (K : PySem.W.Frag) (CT CA CR : Addr) (ok : Int → Int → Int → VK → Hp → Prop) : Sp := fun vs H Q E => ∃ vt va vr : V, vs = [vt, va, vr] ∧ Kind K H vt ∧ Kind K H va ∧ Kind K H vr ∧ (okT vt = false → E (.ref CT) none H) ∧
  ∀ t : Int, vt = .int t → okT vt = true → (inB t va = false → E (.ref CA) none H) ∧ (inB t va = true → (inB (t - 1) vr = false → E (.ref CR) none H) ∧ (inB (t - 1) vr = true → ∀ a r, va = .int a → vr = .int r → ok t a r Q H))
theorem fn_chkTRE {CT CA CR : Addr} (d : DefAt K mg "_check_team_in_round" t__check_team_in_round ["teams", "team", "number"]) (F1 : FnE P w K mg base "check_teams" ["teams"] 2 (spTeamsE K CT)) (F2 : FnE P w K mg base "check_team" ["teams", "team"] 3 (spInE K CA 0))
    (F3 : FnE P w K mg base "check_round" ["teams", "number"] 3 (spInE K CR 1)) : FnE P w K mg base "_check_team_in_round" ["teams", "team", "number"] 4 (spTRE K CT CA CR fun _ _ _ Q H => Q .non H) := by
  refine d.fnE scChkTR (fun vs H Q E h => ?_) (fun f cdv A outer s H vs Q E hr h => ?_)
  · obtain ⟨t, a, r, rfl, _⟩ := h
    rfl
  · obtain ⟨vt, va, vr, rfl, kt, ka, kr, e1, q⟩ := h
    refine ⟨_, pss_cons (ps_expr (pe_fE F1 hr (by decide) (L2N.takes_of rfl rfl rfl rfl) (by rfl) (pa_cons (pv 0) pa_nil))) (pss_cons (ps_expr (pe_fE F2 hr (by decide) (L2N.takes_of rfl rfl rfl rfl) (by rfl) (pa_cons (pv 0) (pa_cons (pv 1) pa_nil))))
      (pss_one (ps_expr (pe_fE F3 hr (by decide) (L2N.takes_of rfl rfl rfl rfl) (by rfl) (pa_cons (pv 0) (pa_cons (pv 2) pa_nil)))))), ?_⟩
    refine ⟨vt, rfl, vt, rfl, kt, fun ht => ?_, e1⟩
    obtain ⟨t, rfl⟩ := okT_int ht
    obtain ⟨e2, q⟩ := q t rfl ht
    refine ⟨.int t, rfl, va, rfl, t, va, rfl, ka, fun ha => ?_, fun ha => ?_⟩
    · rw [Int.sub_zero] at ha
      obtain ⟨e3, q⟩ := q ha
      refine ⟨.int t, rfl, vr, rfl, t, vr, rfl, kr, fun hr' => ?_, e3⟩
      obtain ⟨a, rfl, _⟩ := inB_int ha
      obtain ⟨r, rfl, _⟩ := inB_int hr'
      exact q hr' a r rfl rfl
    · rw [Int.sub_zero] at ha
      exact e2 ha
theorem fn_opponentE {CT CA CR : Addr} (d : DefAt K mg "opponent" t_opponent ["teams", "team", "number"]) (F : FnE P w K mg base "_check_team_in_round" ["teams", "team", "number"] 4 (spTRE K CT CA CR fun _ _ _ Q H => Q .non H)) : FnE P w K mg base "opponent" ["teams", "team", "number"] 5 (spTRE K CT CA CR fun _ _ _ _ _ => False) := by
  refine d.fnE scOpponent (fun vs H Q E h => ?_) (fun f cdv A outer s H vs Q E hr h => ?_)
  · obtain ⟨t, a, r, rfl, _⟩ := h
    rfl
  · obtain ⟨vt, va, vr, rfl, kt, ka, kr, e1, q⟩ := h
    refine ⟨_, pss_cons (ps_expr (pe_fE F hr (by decide) (L2N.takes_of rfl rfl rfl rfl) (by rfl) (pa_cons (pv 0) (pa_cons (pv 1) (pa_cons (pv 2) pa_nil))))) pss_never, ?_⟩
    refine ⟨vt, rfl, va, rfl, vr, rfl, vt, va, vr, rfl, kt, ka, kr, e1, fun t ht h => ⟨(q t ht h).1, fun ha => ⟨((q t ht h).2 ha).1, fun hr' a r ea er => ((q t ht h).2 ha).2 hr' a r ea er⟩⟩⟩
theorem fn_atHomeE {CT CA CR : Addr} (d : DefAt K mg "at_home" t_at_home ["teams", "team", "number"]) (F : FnE P w K mg base "_check_team_in_round" ["teams", "team", "number"] 4 (spTRE K CT CA CR fun _ _ _ Q H => Q .non H)) : FnE P w K mg base "at_home" ["teams", "team", "number"] 5 (spTRE K CT CA CR fun _ _ _ _ _ => False) := by
  refine d.fnE scAtHome (fun vs H Q E h => ?_) (fun f cdv A outer s H vs Q E hr h => ?_)
  · obtain ⟨t, a, r, rfl, _⟩ := h
    rfl
  · obtain ⟨vt, va, vr, rfl, kt, ka, kr, e1, q⟩ := h
    refine ⟨_, pss_cons (ps_expr (pe_fE F hr (by decide) (L2N.takes_of rfl rfl rfl rfl) (by rfl) (pa_cons (pv 0) (pa_cons (pv 1) (pa_cons (pv 2) pa_nil))))) pss_never, ?_⟩
    refine ⟨vt, rfl, va, rfl, vr, rfl, vt, va, vr, rfl, kt, ka, kr, e1, fun t ht h => ⟨(q t ht h).1, fun ha => ⟨((q t ht h).2 ha).1, fun hr' a r ea er => ((q t ht h).2 ha).2 hr' a r ea er⟩⟩⟩
def spRndE (K : PySem.W.Frag) (CT CA CL : Addr) : Sp := fun vs H Q E => ∃ vt va vb : V, vs = [vt, va, vb] ∧ Kind K H vt ∧ Kind K H va ∧ Kind K H vb ∧ (okT vt = false → E (.ref CT) none H) ∧
  ∀ t : Int, vt = .int t → okT vt = true → (inB t va = false → E (.ref CA) none H) ∧ (inB t va = true → (inB t vb = false → E (.ref CA) none H) ∧ (inB t vb = true → va = vb ∧ E (.ref CL) none H))
theorem fn_roundOfE {CT CA CL : Addr} (d : DefAt K mg "round_of" t_round_of ["teams", "one", "other"]) (Z : ErrC K mg "Alike" CL) (F1 : FnE P w K mg base "check_teams" ["teams"] 2 (spTeamsE K CT)) (F2 : FnE P w K mg base "check_team" ["teams", "team"] 3 (spInE K CA 0)) : FnE P w K mg base "round_of" ["teams", "one", "other"] 4 (spRndE K CT CA CL) := by
  refine d.fnE scRoundOf (fun vs H Q E h => ?_) (fun f cdv A outer s H vs Q E hr h => ?_)
  · obtain ⟨t, a, r, rfl, _⟩ := h
    rfl
  · obtain ⟨vt, va, vb, rfl, kt, ka, kb, e1, q⟩ := h
    refine ⟨_, pss_cons (ps_expr (pe_fE F1 hr (by decide) (L2N.takes_of rfl rfl rfl rfl) (by rfl) (pa_cons (pv 0) pa_nil))) (pss_cons (ps_expr (pe_fE F2 hr (by decide) (L2N.takes_of rfl rfl rfl rfl) (by rfl) (pa_cons (pv 0) (pa_cons (pv 1) pa_nil))))
      (pss_cons (ps_expr (pe_fE F2 hr (by decide) (L2N.takes_of rfl rfl rfl rfl) (by rfl) (pa_cons (pv 0) (pa_cons (pv 2) pa_nil))))
      (pss_cons (ps_if (pt_cmpR op_eq (pv 1) (pv 2) (nomark _)) (pss_one (ps_refuse Z rfl (L2N.takes_of rfl rfl rfl rfl) (by rfl))) pss_nil) pss_never))), ?_⟩
    refine ⟨vt, rfl, vt, rfl, kt, fun ht => ?_, e1⟩
    obtain ⟨t, rfl⟩ := okT_int ht
    obtain ⟨e2, q⟩ := q t rfl ht
    refine ⟨.int t, rfl, va, rfl, t, va, rfl, ka, fun ha => ?_, fun ha => e2 (by rw [Int.sub_zero] at ha; exact ha)⟩
    rw [Int.sub_zero] at ha
    obtain ⟨e3, q⟩ := q ha
    refine ⟨.int t, rfl, vb, rfl, t, vb, rfl, kb, fun hb => ?_, fun hb => e3 (by rw [Int.sub_zero] at hb; exact hb)⟩
    rw [Int.sub_zero] at hb
    obtain ⟨rfl, e4⟩ := q hb
    obtain ⟨a, rfl, _⟩ := inB_int ha
    exact ⟨.int a, rfl, .int a, rfl, rfl, _, rfl, itT rfl e4⟩
def spBrkE (K : PySem.W.Frag) (CT CA : Addr) : Sp := fun vs H Q E => ∃ vt va : V, vs = [vt, va] ∧ Kind K H vt ∧ Kind K H va ∧ (okT vt = false → E (.ref CT) none H) ∧ ∀ t : Int, vt = .int t → okT vt = true → inB t va = false ∧ E (.ref CA) none H
theorem fn_breakOfE {CT CA : Addr} (d : DefAt K mg "break_of" t_break_of ["teams", "team"]) (F1 : FnE P w K mg base "check_teams" ["teams"] 2 (spTeamsE K CT)) (F2 : FnE P w K mg base "check_team" ["teams", "team"] 3 (spInE K CA 0)) : FnE P w K mg base "break_of" ["teams", "team"] 4 (spBrkE K CT CA) := by
  refine d.fnE scBreakOf (fun vs H Q E h => ?_) (fun f cdv A outer s H vs Q E hr h => ?_)
  · obtain ⟨t, a, rfl, _⟩ := h
    rfl
  · obtain ⟨vt, va, rfl, kt, ka, e1, q⟩ := h
    refine ⟨_, pss_cons (ps_expr (pe_fE F1 hr (by decide) (L2N.takes_of rfl rfl rfl rfl) (by rfl) (pa_cons (pv 0) pa_nil))) (pss_cons (ps_expr (pe_fE F2 hr (by decide) (L2N.takes_of rfl rfl rfl rfl) (by rfl) (pa_cons (pv 0) (pa_cons (pv 1) pa_nil)))) pss_never), ?_⟩
    refine ⟨vt, rfl, vt, rfl, kt, fun ht => ?_, e1⟩
    obtain ⟨t, rfl⟩ := okT_int ht
    obtain ⟨ha, e2⟩ := q t rfl ht
    refine ⟨.int t, rfl, va, rfl, t, va, rfl, ka, fun hb => ?_, fun _ => e2⟩
    rw [Int.sub_zero, ha] at hb
    cases hb
end
end EM
namespace EM
open PySem PySem.Spec PyProof.Rows L2
/-! ### what is asked of an error while it is in hand -/
/-- the def at f, called with an error at x of the class D in hand -/
structure FnX (P : Program) (w : World) (K : PySem.W.Frag) (mg : Str → Option Value) (base : Heap) (f : Addr) (ps : List Str) (x D : Addr) (sp : Sp) : Prop where
  run : ∀ (A : Around) (outer : List Env) (s : Shared) (H : Hp) (us : List Value) (vs : List V) (Q : VK) (oe : Obj), L2H.RoomH 1 A → L2H.Hot1 A (x, oe) → L2N.Zn (.ref D) none oe → L2H.PinOk outer H s (x, oe) → Env0 P w K mg base A outer s H →
    us.length = ps.length → Vals vs us → sp vs H Q E0 → codeAny (model P w) A (.call (.ref f) ⟨us, []⟩) (CR CX0 outer P w H s Q E0) s
section
variable {X : Cx} {a x D : Addr} {oe : Obj}
/-- isinstance of the error in hand -/
theorem call_isX (hm : (x, oe) ∈ X.pn) (C : ExcC X.K D) (hz : L2N.Zn (.ref D) none oe) (hf : ∃ vs, oe.data = .fields vs) : CallR X (.builtin "isinstance") (rIsE X.K D x) := by
  intro pins s σ H xs us Q I r h
  obtain ⟨c, cv, b, rfl, hcv, e, q⟩ := h
  obtain ⟨u1, u2, rfl, r1, r2⟩ := vals2 r
  cases (show u1 = Value.ref x from r1)
  cases hcv _ r2
  have get := (I.pin (x, oe) (List.mem_append_left _ hm)).1
  obtain ⟨fv, ef⟩ := hf
  obtain ⟨z1, z2, _⟩ := hz
  have J : PySem.W.InstAt s.heap x oe D none := by
    rcases oe with ⟨cl, dd, da, sl⟩
    simp only at z1 z2 ef
    subst z1 z2 ef
    exact ⟨get, rfl, rfl, trivial⟩
  refine PySem.W.kia_one (PySem.W.handS_kitx_exc C.hg C.hk C.hs C.hd C.ha C.hn C.ht C.hm) I.kIn J e (fun z => nomatch z) fun tk => ?_
  exact ⟨.bl b, H, I.kept (t' := tk) fun _ _ z => z, rfl, q⟩
end
/-- f(e), e the error that the suite holds at a -/
def tInHand (a : Addr) (cls : Value) (d : Option Addr) (S : Addr → Sp → Prop) (t : TA) : TE := fun σ H Q => t σ H fun vs G => vs = [.ref a] ∧ ∃ D sp, cls = .ref D ∧ d = none ∧ S D sp ∧ sp [.ref a] G Q E0
section
variable {X : Cx} {a f : Addr} {oe : Obj} {pn : List (Addr × Obj)} {cls : Value} {d : Option Addr} {S : Addr → Sp → Prop} {k : Nat} {y n : Str} {e : Expr} {t : TA} {p pos : Pos}
theorem pe_inHand (F : ∀ D sp, S D sp → FnX X.prog X.w X.K X.mg X.base f [y] a D sp) (hr : Room k X.A) (hk1 : 1 ≤ k) (hz : L2N.Zn cls d oe) (hf : ∃ vs, oe.data = .fields vs) (hg : Gl (X.suite a ((a, oe) :: pn)) n) (hm : X.mg n = some (.ref f)) (hk : PySem.W.keepIn X.K (.ref f) = true)
    (ha : PA (X.suite a ((a, oe) :: pn)) [e] t) (hdb : (n == ("__debug__" : Str)) = false := by decide)
    (hse : starEach [e] (X.suite a ((a, oe) :: pn)).env = (false, eval e (X.suite a ((a, oe) :: pn)).env) :: starEach [] (X.suite a ((a, oe) :: pn)).env := by rfl) (hpl : (backTo pos (starEach [] (X.suite a ((a, oe) :: pn)).env)).any (·.1) = false := by rfl) :
    PE (X.suite a ((a, oe) :: pn)) (.Call (.Name n p) [e] [] pos) (tInHand a cls d S t) := by
  refine ⟨fun pins s σ H Q I h => wpAny_Call_Name_kw (ld_glob I hg hm ?_ hdb)⟩
  refine PySem.W.callWith_K (h₀ := X.base) I.ok.mod.kin hk (thn (ha.run pos pins s σ H _ I h) fun us s1 got => ?_) hse hpl
  obtain ⟨vs, G, J, rv, ev, D, sp, ec, ed, hS, q⟩ := got
  subst ev ec ed
  refine ⟨J.kIn, ?_⟩
  have pin := J.pin (a, oe) (List.mem_append_left _ List.mem_cons_self)
  obtain ⟨p1, p2, p3, p4, p5⟩ := pin
  have away : a ∉ frs X.stack := fun hm => by
    rcases List.mem_cons.mp (J.stkSub a hm) with z | z
    · exact p3 z
    · exact p4 z
  have room : L2H.RoomH 1 (X.suite a ((a, oe) :: pn)).A := ⟨by have := hr.dp; show X.A.depth + 3 * 1 + 5 < _; omega, by have := hr.un; show X.A.units + 16 * 1 + 200 < _; omega⟩
  have hot : L2H.Hot1 (X.suite a ((a, oe) :: pn)).A (a, oe) := by
    obtain ⟨fv, ef⟩ := hf
    exact ⟨rfl, fv, ef, hz.2.2 fv ef⟩
  have len : us.length = [y].length := rv.length.symm
  have run := (F D sp hS).run _ X.stack s1 G us [.ref a] Q oe room hot hz ⟨p1, p2, away, p5⟩ J.env0 len rv q
  refine wpAny_call (codeAny_mono run fun res s' hq => ?_)
  cases res with
  | error er => exact False.elim hq
  | ok fl =>
    cases fl with
    | ret u => exact J.after hq
    | _ => exact False.elim hq
end
/-! ### the body of such a def -/
section
variable {P : Program} {w : World} {K : PySem.W.Frag} {mg : Str → Option Value} {base : Heap}
theorem fnX_of {x qual : Str} {st : Stmt} {f : Addr} {fd : FuncData} {N ps : List Str} {sp : Sp} {y D : Addr} (F : Fun K x qual st f fd) (B : Binds K fd ps []) (S : FnScope N ps (defScope st)) (len : ∀ vs H Q E, sp vs H Q E → vs.length = ps.length)
    (body : ∀ (cdv : Value) (A : Around) (outer : List Env) (s : Shared) (H : Hp) (vs : List V) (Q : VK) (oe : Obj), L2N.Zn (.ref D) none oe → (∃ v, oe.data = .fields v) → L2H.RoomH 0 (A.deeper (envOfC qual (defScope st) s.heap.objs.size f cdv)) → sp vs H Q E0 →
      ∃ t, PSs (L2H.cxH CX0 P w K mg base N qual (defScope st) f cdv A outer s H E0 (y, oe)) (defBody st) t ∧ t { nx := fun _ G => Q .non G, rt := Q } (start N vs) H) : FnX P w K mg base f ps y D sp := by
  obtain ⟨oc, od, kV, doc, pm, an, cdv, ct, osl, rfl, lk, hcd⟩ := F.ex
  refine ⟨fun A outer s H us vs Q oe hr hot hz hpin e0 hl r hsp => ?_⟩
  have inK : K.In s.heap := e0.mod.kin.keeps fun b o e => (e0.bs b o e).1
  have noLim : s.heap.NoLimit := e0.mod.nolimit.keeps fun b o e => (e0.bs b o e).1
  have bt := B s us inK (by rw [List.append_nil]; exact hl)
  rw [List.append_nil] at bt
  have lv := len _ _ _ _ hsp
  have kinds : ∀ z ∈ ps.zip us, (defScope st).names.lookup z.1 = some .local ∨ ((defScope st).names.lookup z.1 = some .cell ∧ ((cellsFrom (s.heap.objs.size + 1) (defScope st).names []).lookup z.1).isSome = true) := by
    rintro ⟨n, v⟩ hz'
    rcases S.par n (List.of_mem_zip hz').1 with q | q
    · exact .inl q
    · exact .inr ⟨q, PySem.W.cellsFrom_some _ _ _ (.inl q)⟩
  refine codeAny_call_function hr.depth (inK _ _ lk) rfl S.co S.gen rfl (PySem.W.codeRec_of inK hcd) (bt _ _ _ _ (wpAny_newFunctionEnv_cells S.kind kinds fun env he s1 inC => ?_))
  cases he
  refine ⟨noLim.keeps inC.toInCall.keep, codeAny_func ?_⟩
  obtain ⟨fv, ef, _⟩ := hot.2
  obtain ⟨t, ht, hq⟩ := body cdv A outer s H vs Q oe hz ⟨fv, ef⟩ (hr.deeper _) hsp
  have I : Inv (L2H.cxH CX0 P w K mg base N qual (defScope st) f cdv A outer s H E0 (y, oe)) [] (start N vs) H s1 := L2H.inv_startH S hpin e0 lv r inC
  refine wpAny_mono (ht.run [] s1 _ H _ I hq) (fun fl s' hs => ?_) fun er s' hs => hs
  cases fl with
  | ret u =>
    obtain ⟨v, τ, G, J, rv, q⟩ := hs
    exact ⟨v, G, J.os, J.bare, J.base, J.hok, rv, q⟩
  | next =>
    obtain ⟨τ, G, J, q⟩ := hs
    exact ⟨V.non, G, J.os, J.bare, J.base, J.hok, rfl, q⟩
  | brk =>
    obtain ⟨_, _, _, q⟩ := hs
    exact False.elim q
  | cont =>
    obtain ⟨_, _, _, q⟩ := hs
    exact False.elim q
end
end EM
namespace EM
open PySem PySem.Spec PyProof.Rows L2
/-- the error classes of the program -/
structure Errs (K : PySem.W.Frag) (mg : Str → Option Value) (cT cA cR cP cL cG cM : Addr) : Prop where
  T : ErrC K mg "BadTeams" cT
  A : ErrC K mg "BadTeam" cA
  R : ErrC K mg "BadRound" cR
  P : ErrC K mg "BadPlan" cP
  L : ErrC K mg "Alike" cL
  G : ErrC K mg "NotGood" cG
  M : mg "MeetError" = some (.ref cM)
  ve : mg "ValueError" = none
/-- what isinstance answers of an error of the class D -/
structure Hits (K : PySem.W.Frag) (cT cA cR cP cL cG cM D : Addr) (b0 b1 b2 b3 b4 b5 : Bool) : Prop where
  c : ExcC K D
  k0 : PySem.W.kitOne K (.ref D) (.ref cT) = some b0
  k1 : PySem.W.kitOne K (.ref D) (.ref cA) = some b1
  k2 : PySem.W.kitOne K (.ref D) (.ref cR) = some b2
  k3 : PySem.W.kitOne K (.ref D) (.ref cP) = some b3
  k4 : PySem.W.kitOne K (.ref D) (.ref cL) = some b4
  k5 : PySem.W.kitOne K (.ref D) (.ref cG) = some b5
  kv : PySem.W.kitOne K (.ref D) (.type "ValueError") = some true
  em : PySem.W.exmOne K (.ref D) (.ref cM) = some true
theorem scKinds : FnScope ["_law_error", "_law_found"] ["_law_error"] (defScope t__law_kinds) := ⟨rfl, rfl, rfl, by decide +kernel, rfl, by decide +kernel, by decide +kernel⟩
theorem scTold : FnScope ["_law_ask", "_law_one", "_law_other", "_law_error"] ["_law_ask", "_law_one", "_law_other"] (defScope t__law_told) := ⟨rfl, rfl, rfl, by decide +kernel, rfl, by decide +kernel, by decide +kernel⟩
theorem scAll : FnScope ["_law_ask", "_law_one", "_law_things", "_law_due", "_law_thing"] ["_law_ask", "_law_one", "_law_things", "_law_due"] (defScope t__law_all) := ⟨rfl, rfl, rfl, by decide +kernel, rfl, by decide +kernel, by decide +kernel⟩
def spKinds (y : Addr) (bs : List Bool) : Sp := fun vs H Q _ => vs = [.ref y] ∧ ∀ G p, Same H G → H p = none → G p = some (.lst (bs.map V.bl)) → Q (.ref p) G
section
variable {P : Program} {w : World} {K : PySem.W.Frag} {mg : Str → Option Value} {base : Heap} {cT cA cR cP cL cG cM : Addr}
theorem fx_kinds {f : Addr} {fd : FuncData} {y D : Addr} {b0 b1 b2 b3 b4 b5 : Bool} (F : Fun K "_law_kinds" "_law_kinds" t__law_kinds f fd) (B : Binds K fd ["_law_error"] []) (N : Names mg) (Z : Errs K mg cT cA cR cP cL cG cM) (U : Hits K cT cA cR cP cL cG cM D b0 b1 b2 b3 b4 b5) :
    FnX P w K mg base f ["_law_error"] y D (spKinds y [b0, b1, b2, b3, b4, b5, true]) := by
  refine fnX_of F B scKinds (fun vs H Q E h => by rw [h.1]; rfl) fun cdv A outer s H vs Q oe hz hf hr h => ?_
  obtain ⟨rfl, q⟩ := h
  refine ⟨_, pss_cons (ps_set (i := 1) scKinds.nd rfl (.inl rfl) (pe_lst (pa_cons (pe_callB (call_isX List.mem_cons_self U.c hz hf) (by rfl) N.isinst boot_isinstance (pa_cons (pv 0) (pa_cons (pe_glob (v := .ref cT) (by rfl) Z.T.gC rfl) pa_nil)))
      (pa_cons (pe_callB (call_isX List.mem_cons_self U.c hz hf) (by rfl) N.isinst boot_isinstance (pa_cons (pv 0) (pa_cons (pe_glob (v := .ref cA) (by rfl) Z.A.gC rfl) pa_nil)))
      (pa_cons (pe_callB (call_isX List.mem_cons_self U.c hz hf) (by rfl) N.isinst boot_isinstance (pa_cons (pv 0) (pa_cons (pe_glob (v := .ref cR) (by rfl) Z.R.gC rfl) pa_nil))) pa_nil)))))
    (pss_cons (ps_set (i := 1) scKinds.nd rfl (.inl rfl) (pe_op op_cat (pv 1) (pe_lst (pa_cons (pe_callB (call_isX List.mem_cons_self U.c hz hf) (by rfl) N.isinst boot_isinstance (pa_cons (pv 0) (pa_cons (pe_glob (v := .ref cP) (by rfl) Z.P.gC rfl) pa_nil)))
      (pa_cons (pe_callB (call_isX List.mem_cons_self U.c hz hf) (by rfl) N.isinst boot_isinstance (pa_cons (pv 0) (pa_cons (pe_glob (v := .ref cL) (by rfl) Z.L.gC rfl) pa_nil)))
      (pa_cons (pe_callB (call_isX List.mem_cons_self U.c hz hf) (by rfl) N.isinst boot_isinstance (pa_cons (pv 0) (pa_cons (pe_glob (v := .ref cG) (by rfl) Z.G.gC rfl) pa_nil))) pa_nil))))))
    (pss_one (ps_ret (pe_op op_cat (pv 1) (pe_lst (pa_cons (pe_callB (call_isX List.mem_cons_self U.c hz hf) (by rfl) N.isinst boot_isinstance (pa_cons (pv 0) (pa_cons (pe_bltn (v := .ty "ValueError") (by rfl) Z.ve boot_ValueError rfl) pa_nil))) pa_nil)))))), ?_⟩
  refine ⟨.ref y, rfl, .ref cT, .ref cT, b0, rfl, fun u h => h, U.k0, .ref y, rfl, .ref cA, .ref cA, b1, rfl, fun u h => h, U.k1, .ref y, rfl, .ref cR, .ref cR, b2, rfl, fun u h => h, U.k2, by show 3 ≤ sizeLine; decide, fun p1 n1 => ?_⟩
  have s1 := same_upd (o := .lst [.bl b0, .bl b1, .bl b2]) n1
  refine ⟨.ref p1, rfl, .ref y, rfl, .ref cP, .ref cP, b3, rfl, fun u h => h, U.k3, .ref y, rfl, .ref cL, .ref cL, b4, rfl, fun u h => h, U.k4, .ref y, rfl, .ref cG, .ref cG, b5, rfl, fun u h => h, U.k5, by show 3 ≤ sizeLine; decide, fun p2 n2 => ?_⟩
  have s2 := same_upd (o := .lst [.bl b3, .bl b4, .bl b5]) n2
  refine ⟨p1, p2, _, _, rfl, rfl, s2 _ _ upd_same, upd_same, by show 6 ≤ sizeLine; decide, fun p3 n3 => ?_⟩
  have s3 := same_upd (o := .lst ([V.bl b0, .bl b1, .bl b2] ++ [V.bl b3, .bl b4, .bl b5])) n3
  refine ⟨.ref p3, rfl, .ref y, rfl, .ty "ValueError", .type "ValueError", true, rfl, fun u h => h, U.kv, by show 1 ≤ sizeLine; decide, fun p4 n4 => ?_⟩
  have s4 := same_upd (o := .lst [V.bl true]) n4
  refine ⟨p3, p4, _, _, rfl, rfl, s4 _ _ upd_same, upd_same, by show 7 ≤ sizeLine; decide, fun p5 n5 => ?_⟩
  have s14 := ((s1.trans s2).trans s3).trans s4
  exact q _ p5 (s14.trans (same_upd n5)) (s14.free n5) upd_same
/-! ### _law_told -/
/-- the def at f, that may refuse -/
structure HeldE (P : Program) (w : World) (K : PySem.W.Frag) (mg : Str → Option Value) (base : Heap) (k : Nat) (f : Addr) (sp : Sp) : Prop where
  ex : ∃ (fd : FuncData) (ps : List Str), FnOk P w K mg base (L2N.CX P w) k f fd ps sp ∧ PySem.W.keepIn K (.ref f) = true ∧ Binds K fd ps []
def tAsk (P : Program) (w : World) (K : PySem.W.Frag) (mg : Str → Option Value) (base : Heap) (k i : Nat) (W : WX) (t : TA) : TE := fun σ H Q => ∃ f sp, σ[i]? = some (some (.ref f)) ∧ HeldE P w K mg base k f sp ∧ t σ H fun vs G => sp vs G Q (WE W σ)
end
section
variable {X : Cx} {k i j : Nat} {x : Str} {p pos : Pos} {e : Expr} {es : List Expr} {t : TA} {W : WX}
/-- a local name that holds a def is called; what it raises is wished for -/
theorem pe_ask (hr : Room j X.A) (hj : k ≤ j) (tk : L2N.Takes X W) (hN : X.N[i]? = some x) (hv : Vis X.env.scope x) (ha : PA X (e :: es) t) (hdb : (x == ("__debug__" : Str)) = false := by decide) (hcd : (x == ("__classdict__" : Str)) = false := by decide)
    (hse : starEach (e :: es) X.env = (false, eval e X.env) :: starEach es X.env := by rfl) (hpl : (backTo pos (starEach es X.env)).any (·.1) = false := by rfl) : PE X (.Call (.Name x p) (e :: es) [] pos) (tAsk X.prog X.w X.K X.mg X.base k i W t) := by
  refine ⟨fun pins s σ H Q I h => ?_⟩
  obtain ⟨f, sp, hs, D, ht⟩ := h
  obtain ⟨fd, ps, F, kp, b⟩ := D.ex
  have name := (pe_var (pos := p) hN hv hdb hcd).run pins s σ H (fun v G => v = .ref f ∧ G = H) I ⟨.ref f, hs, rfl, rfl⟩
  refine wpAny_Call_Name_kw (thn name fun u s1 got => ?_)
  obtain ⟨v, G, J, rv, rfl, rfl⟩ := got
  cases rv
  refine PySem.W.callWith_K (h₀ := X.base) I.ok.mod.kin kp (thn (ha.run pos pins s1 σ _ _ J ht) fun us s2 got => ?_) hse hpl
  obtain ⟨vs, H2, J2, r, q⟩ := got
  exact ⟨J2.kIn, run_fnS F (hr.mono hj) b (L2N.passAt tk σ) J2 r q⟩
/-- nothing is let out -/
theorem takes_none : L2N.Takes X (fun _ _ _ _ => False) := fun _ _ z => by
  obtain ⟨_, _, _, _, _, _, _, _, _, _, _, _, _, _, _, _, f⟩ := z
  exact f.elim
end
section
variable {P : Program} {w : World} {K : PySem.W.Frag} {mg : Str → Option Value} {base : Heap} {cT cA cR cP cL cG cM : Addr}
def spTold (P : Program) (w : World) (K : PySem.W.Frag) (mg : Str → Option Value) (base : Heap) (Told : Addr → List Bool → Prop) : Sp := fun vs H Q _ => ∃ (f : Addr) (v1 v2 : V) (sp : Sp) (D : Addr) (bs : List Bool), vs = [.ref f, v1, v2] ∧ HeldE P w K mg base 20 f sp ∧ Told D bs ∧
  (∀ (Q' : VK) (E : XK), (∀ G, Same H G → E (.ref D) none G) → sp [v1, v2] H Q' E) ∧ ∀ G p, Same H G → H p = none → G p = some (.lst (bs.map V.bl)) → Q (.ref p) G
theorem fn_told {fk : Addr} {Told : Addr → List Bool → Prop} (d : DefAt K mg "_law_told" t__law_told ["_law_ask", "_law_one", "_law_other"]) (mk : mg "_law_kinds" = some (.ref fk)) (kk : PySem.W.keepIn K (.ref fk) = true) (M : mg "MeetError" = some (.ref cM))
    (kinds : ∀ D bs, Told D bs → PySem.W.exmOne K (.ref D) (.ref cM) = some true ∧ ∀ y, FnX P w K mg base fk ["_law_error"] y D (spKinds y bs)) : Fn P w K mg base "_law_told" ["_law_ask", "_law_one", "_law_other"] 21 (spTold P w K mg base Told) := by
  refine d.fn scTold (fun vs H Q E h => ?_) (fun f cdv A outer s H vs Q E hr h => ?_)
  · obtain ⟨f, v1, v2, sp, D, bs, rfl, _⟩ := h
    rfl
  · obtain ⟨f, v1, v2, sp, D, bs, rfl, hf, hD, ask, q⟩ := h
    obtain ⟨em, kd⟩ := kinds D bs hD
    refine ⟨_, pss_cons (L2N.ps_try_as (i := 3) (c := .ref cM) (tb := fun W => tDrop (tAsk P w K mg base 20 0 W (tCons (tVar 1) (tCons (tVar 2) tNil)))) rfl rfl scTold.nd rfl rfl ⟨rfl, by decide, .inl M⟩ takes_none
        (fun W pn xe tk _ => pss_one (ps_expr (pe_ask (i := 0) (k := 20) hr (by decide) tk rfl (.inl rfl) (pa_cons (pv 1) (pa_cons (pv 2) pa_nil)))))
        (fun a oe cls dd pn hz hf => pss_one (ps_ret (pe_inHand (f := fk) (y := "_law_error") (S := fun D' sp' => ∃ bs', Told D' bs' ∧ sp' = spKinds a bs') (fun D' sp' h => by obtain ⟨bs', h1, rfl⟩ := h; exact (kinds D' bs' h1).2 a) hr (by decide) hz hf (by rfl) mk kk (pa_cons (pv 3) pa_nil)))))
      (pss_one (ps_ret (pe_lst pa_nil))), ?_⟩
    refine ⟨f, sp, rfl, hf, v1, rfl, v2, rfl, ask _ _ fun G sG => ?_⟩
    refine ⟨true, em, fun _ a na => ?_, fun z => Bool.noConfusion z⟩
    refine ⟨.ref a, rfl, rfl, D, spKinds a bs, rfl, rfl, ⟨bs, hD, rfl⟩, rfl, fun G' p s1 np e => q G' p (sG.trans s1) (sG.free np) e⟩
/-! ### _law_all -/
def spAll (P : Program) (w : World) (K : PySem.W.Frag) (mg : Str → Option Value) (base : Heap) (Told : Addr → List Bool → Prop) : Sp := fun vs H Q _ => ∃ (f L U : Addr) (v1 : V) (xs : List V) (sp : Sp) (D : Addr) (bs : List Bool), vs = [.ref f, v1, .ref L, .ref U] ∧ H L = some (.lst xs) ∧ xs.length ≤ 900 ∧ H U = some (.lst (bs.map V.bl)) ∧ HeldE P w K mg base 20 f sp ∧ Told D bs ∧
  (∀ x ∈ xs, ∀ G, Same H G → ∀ (Q' : VK) (E : XK), (∀ G', Same G G' → E (.ref D) none G') → sp [v1, x] G Q' E) ∧ ∀ G, Same H G → Q (.bl true) G
theorem dp_bools {K : PySem.W.Frag} {H : Hp} : ∀ bs : List Bool, DpAll K H (bs.map V.bl) (bs.map PyData.bool)
  | [] => .nil
  | b :: r => .cons (.bl b) (dp_bools r)
theorem fn_all {Told : Addr → List Bool → Prop} (d : DefAt K mg "_law_all" t__law_all ["_law_ask", "_law_one", "_law_things", "_law_due"]) (N : Names mg) (F : Fn P w K mg base "_law_told" ["_law_ask", "_law_one", "_law_other"] 21 (spTold P w K mg base Told)) (short : ∀ D bs, Told D bs → SeqAt.shaped (.list (bs.map PyData.bool)) = true) :
    Fn P w K mg base "_law_all" ["_law_ask", "_law_one", "_law_things", "_law_due"] 22 (spAll P w K mg base Told) := by
  refine d.fn scAll (fun vs H Q E h => ?_) (fun f cdv A outer s H vs Q E hr h => ?_)
  · obtain ⟨f, L, U, v1, xs, sp, D, bs, rfl, _⟩ := h
    rfl
  · obtain ⟨f, L, U, v1, xs, sp, D, bs, rfl, hL, hl, hU, hf, hD, ask, q⟩ := h
    have sh := short D bs hD
    have cl : PyData.canLay0 (.list (bs.map PyData.bool)) = true := by
      have z := sh
      unfold SeqAt.shaped at z
      rw [Bool.and_eq_true] at z
      exact z.1
    refine ⟨_, pss_one (ps_ret (pe_callB (cr_all rfl) (by rfl) N.all boot_all (pa_cons
      (pe_lc (own := [("_law_thing", 4)]) (g := gName 4) (tt := tYes) (te := tOp (rEqD K) (tCall (spTold P w K mg base Told) [] E0 (tCons (tVar 0) (tCons (tVar 1) (tCons (tVar 4) tNil)))) (tVar 3)) rfl scAll.nd (pi_list (pv 2))
        (blkOk_by (N := ["_law_ask", "_law_one", "_law_things", "_law_due", "_law_thing"]) (sc := defScope t__law_all) (by decide +kernel))
        (fun _ _ _ _ _ => pg_name (i := 4) scAll.nd rfl (Or.inl rfl)) (fun _ _ _ _ _ => pts_nil)
        (fun _ _ _ _ _ => pe_cmpR (op_eqD hr.units) (pe_f F hr (by decide) (by rfl) (pa_cons (pv 0) (pa_cons (pv 1) (pa_cons (pv 4) pa_nil)))) (pv 3) (nomark _))) pa_nil))), ?_⟩
    refine ⟨.ref L, rfl, L, rfl, ⟨_, SqL.of hL⟩, fun D' nD => lc_list (K := K) (a := L) (xs := xs) (fun i G => Same H G ∧ G D' = some (.lst ((List.replicate i true).map V.bl))) ⟨same_upd nD, upd_same⟩ (fun i G _ h => SqL.of (h.1 _ _ hL)) ?_ ?_⟩
    · rintro i x G hx ⟨s1, e1⟩
      have il := (List.getElem?_eq_some_iff.mp hx).1
      refine ⟨rfl, .ref f, rfl, v1, rfl, x, rfl, f, v1, x, sp, D, bs, rfl, hf, hD, ask x (List.mem_of_getElem? hx) G s1, fun G' p s2 np e2 => ?_⟩
      have s12 := s1.trans s2
      refine ⟨.ref U, rfl, .list (bs.map PyData.bool), .list (bs.map PyData.bool), .lst (SqL.of e2) (dp_bools bs), .lst (SqL.of (s12 _ _ hU)) (dp_bools bs), sh, sh, _, s2 _ _ e1, ?_, ?_, ?_⟩
      · rw [List.length_map, List.length_replicate]
        exact small1000 (by omega)
      · exact same_push nD s12
      · rw [upd_same, SeqAt.eqv_refl _ cl, List.replicate_succ', List.map_append]
        rfl
    · rintro G ⟨s1, e1⟩
      refine ⟨D', List.replicate xs.length true, rfl, SqL.of e1, ?_⟩
      have := q G s1
      rw [all_rep]
      exact this
end
end EM
namespace EM
open PySem PySem.Spec PyProof.Rows L2
theorem scWithTeam : FnScope ["_law_where", "_law_team", "_law_door", "_law_teams_here"] ["_law_where", "_law_team"] (defScope t__law_with_team) := ⟨rfl, rfl, rfl, by decide +kernel, rfl, by decide +kernel, by decide +kernel⟩
theorem scWithRound : FnScope ["_law_where", "_law_number", "_law_door", "_law_teams_here"] ["_law_where", "_law_number"] (defScope t__law_with_round) := ⟨rfl, rfl, rfl, by decide +kernel, rfl, by decide +kernel, by decide +kernel⟩
section
variable {P : Program} {w : World} {K : PySem.W.Frag} {mg : Str → Option Value} {base : Heap} {cT cA cR cL : Addr}
def spWithTeam (K : PySem.W.Frag) (cA : Addr) : Sp := fun vs H Q E => ∃ (W : Addr) (door t : Int) (v : V), vs = [.ref W, v] ∧ H W = some (.tup [.int door, .int t]) ∧ TOk t ∧ Kind K H v ∧ inB t v = false ∧ E (.ref cA) none H
theorem inB_zero {t : Int} (T : TOk t) : inB t (.int 0) = true := inB_iff.mpr ⟨by decide, by have := T.two; omega⟩
theorem fn_withTeam (d : DefAt K mg "_law_with_team" t__law_with_team ["_law_where", "_law_team"]) (Fo : FnE P w K mg base "opponent" ["teams", "team", "number"] 5 (spTRE K cT cA cR fun _ _ _ _ _ => False)) (Fh : FnE P w K mg base "at_home" ["teams", "team", "number"] 5 (spTRE K cT cA cR fun _ _ _ _ _ => False))
    (Fr : FnE P w K mg base "round_of" ["teams", "one", "other"] 4 (spRndE K cT cA cL)) (Fb : FnE P w K mg base "break_of" ["teams", "team"] 4 (spBrkE K cT cA)) : FnE P w K mg base "_law_with_team" ["_law_where", "_law_team"] 6 (spWithTeam K cA) := by
  refine d.fnE scWithTeam (fun vs H Q E h => ?_) (fun f cdv A outer s H vs Q E hr h => ?_)
  · obtain ⟨W, door, t, v, rfl, _⟩ := h
    rfl
  · obtain ⟨W, door, t, v, rfl, hW, T, kv, hv, e⟩ := h
    have T2 := L2N.takes_of (E := E) (X := cxOf (L2N.CX P w) P w K mg base ["_law_where", "_law_team", "_law_door", "_law_teams_here"] "_law_with_team" (defScope t__law_with_team) f cdv A outer s H E) rfl rfl rfl rfl
    refine ⟨_, pss_cons (ps_asg (pv 0) (pg_tup rfl (pgs_cons (pg_name (i := 2) scWithTeam.nd rfl (.inl rfl)) (pgs_cons (pg_name (i := 3) scWithTeam.nd rfl (.inl rfl)) pgs_nil))))
      (pss_cons (ps_if (pt_cmpR op_lt (pv 2) pe_int (nomark _)) (pss_one (ps_ret (pe_ifExp (pt_cmpR op_eq (pv 2) pe_int (nomark _)) (pe_fE Fo hr (by decide) T2 (by rfl) (pa_cons (pv 3) (pa_cons (pv 1) (pa_cons (pe_un un_neg pe_int) pa_nil)))) (pe_fE Fh hr (by decide) T2 (by rfl) (pa_cons (pv 3) (pa_cons (pv 1) (pa_cons pe_non pa_nil))))))) pss_nil)
      (pss_cons (ps_if (pt_cmpR op_lt (pv 2) pe_int (nomark _)) (pss_one (ps_ret (pe_ifExp (pt_cmpR op_eq (pv 2) pe_int (nomark _)) (pe_fE Fr hr (by decide) T2 (by rfl) (pa_cons (pv 3) (pa_cons (pv 1) (pa_cons pe_int pa_nil)))) (pe_fE Fr hr (by decide) T2 (by rfl) (pa_cons (pv 3) (pa_cons pe_int (pa_cons (pv 1) pa_nil))))))) pss_nil)
      (pss_one (ps_ret (pe_fE Fb hr (by decide) T2 (by rfl) (pa_cons (pv 3) (pa_cons (pv 1) pa_nil))))))), ?_⟩
    have ok : okT (.int t) = true := okT_iff.mpr T
    have no : okT (.int t) = false → E (.ref cT) none H := fun z => Bool.noConfusion (z.symm.trans ok)
    refine ⟨.ref W, rfl, W, _, rfl, SqT.of hW, rfl, _, _, rfl, _, _, rfl, rfl, ?_⟩
    have tre : ∀ r : V, Kind K H r → ∀ Q, spTRE K cT cA cR (fun _ _ _ _ _ => False) [.int t, v, r] H Q E := fun r kr Q => ⟨.int t, v, r, rfl, .int t, kv, kr, no, fun t' ht _ => by
      cases ht
      exact ⟨fun _ => e, fun z => Bool.noConfusion (hv.symm.trans z)⟩⟩
    refine ⟨.int door, rfl, door, 2, rfl, rfl, _, rfl, ite2 (fun _ => ?_) (fun _ => ?_)⟩
    · refine ⟨.int door, rfl, rfl, _, rfl, ite2 (fun _ => ?_) (fun _ => ?_)⟩
      · exact ⟨.int t, rfl, v, rfl, 1, rfl, tre _ (.int _) Q⟩
      · exact ⟨.int t, rfl, v, rfl, tre _ .non Q⟩
    · refine ⟨.int door, rfl, door, 4, rfl, rfl, _, rfl, ite2 (fun _ => ?_) (fun _ => ?_)⟩
      · refine ⟨.int door, rfl, rfl, _, rfl, ite2 (fun _ => ?_) (fun _ => ?_)⟩
        · refine ⟨.int t, rfl, v, rfl, .int t, v, .int 0, rfl, .int t, kv, .int 0, no, fun t' ht _ => ?_⟩
          cases ht
          exact ⟨fun _ => e, fun z => Bool.noConfusion (hv.symm.trans z)⟩
        · refine ⟨.int t, rfl, v, rfl, .int t, .int 0, v, rfl, .int t, .int 0, kv, no, fun t' ht _ => ?_⟩
          cases ht
          exact ⟨fun z => Bool.noConfusion (z.symm.trans (inB_zero T)), fun _ => ⟨fun _ => e, fun z => Bool.noConfusion (hv.symm.trans z)⟩⟩
      · refine ⟨.int t, rfl, v, rfl, .int t, v, rfl, .int t, kv, no, fun t' ht _ => ?_⟩
        cases ht
        exact ⟨hv, e⟩
def spWithRound (K : PySem.W.Frag) (cR : Addr) : Sp := fun vs H Q E => ∃ (W : Addr) (door t : Int) (v : V), vs = [.ref W, v] ∧ H W = some (.tup [.int door, .int t]) ∧ TOk t ∧ Kind K H v ∧ inB (t - 1) v = false ∧ E (.ref cR) none H
theorem fn_withRound (d : DefAt K mg "_law_with_round" t__law_with_round ["_law_where", "_law_number"]) (Fo : FnE P w K mg base "opponent" ["teams", "team", "number"] 5 (spTRE K cT cA cR fun _ _ _ _ _ => False)) (Fh : FnE P w K mg base "at_home" ["teams", "team", "number"] 5 (spTRE K cT cA cR fun _ _ _ _ _ => False)) :
    FnE P w K mg base "_law_with_round" ["_law_where", "_law_number"] 6 (spWithRound K cR) := by
  refine d.fnE scWithRound (fun vs H Q E h => ?_) (fun f cdv A outer s H vs Q E hr h => ?_)
  · obtain ⟨W, door, t, v, rfl, _⟩ := h
    rfl
  · obtain ⟨W, door, t, v, rfl, hW, T, kv, hv, e⟩ := h
    have T2 := L2N.takes_of (E := E) (X := cxOf (L2N.CX P w) P w K mg base ["_law_where", "_law_number", "_law_door", "_law_teams_here"] "_law_with_round" (defScope t__law_with_round) f cdv A outer s H E) rfl rfl rfl rfl
    refine ⟨_, pss_cons (ps_asg (pv 0) (pg_tup rfl (pgs_cons (pg_name (i := 2) scWithRound.nd rfl (.inl rfl)) (pgs_cons (pg_name (i := 3) scWithRound.nd rfl (.inl rfl)) pgs_nil))))
      (pss_one (ps_ret (pe_ifExp (pt_cmpR op_eq (pv 2) pe_int (nomark _)) (pe_fE Fo hr (by decide) T2 (by rfl) (pa_cons (pv 3) (pa_cons (pe_op op_sub (pv 3) pe_int) (pa_cons (pv 1) pa_nil)))) (pe_fE Fh hr (by decide) T2 (by rfl) (pa_cons (pv 3) (pa_cons pe_int (pa_cons (pv 1) pa_nil))))))), ?_⟩
    have ok : okT (.int t) = true := okT_iff.mpr T
    have t2 := T.two
    have no : okT (.int t) = false → E (.ref cT) none H := fun z => Bool.noConfusion (z.symm.trans ok)
    refine ⟨.ref W, rfl, W, _, rfl, SqT.of hW, rfl, _, _, rfl, _, _, rfl, rfl, ?_⟩
    have tre : ∀ a : Int, 0 ≤ a → a < t → ∀ Q, spTRE K cT cA cR (fun _ _ _ _ _ => False) [.int t, .int a, v] H Q E := fun a a0 a1 Q => ⟨.int t, .int a, v, rfl, .int t, .int a, kv, no, fun t' ht _ => by
      cases ht
      exact ⟨fun z => Bool.noConfusion (z.symm.trans (inB_iff.mpr ⟨a0, a1⟩)), fun _ => ⟨fun _ => e, fun z => Bool.noConfusion (hv.symm.trans z)⟩⟩⟩
    refine ⟨.int door, rfl, rfl, _, rfl, ite2 (fun _ => ?_) (fun _ => ?_)⟩
    · exact ⟨.int t, rfl, .int t, rfl, t, 1, rfl, rfl, v, rfl, tre _ (by omega) (by omega) Q⟩
    · exact ⟨.int t, rfl, v, rfl, tre _ (by decide) (by omega) Q⟩
end
end EM
namespace EM
open PySem PySem.Spec PyProof.Rows L2 LamX
/-! ### a lambda handed to _law_told -/
/-- what a lambda's body keeps: called with vs it ends so, or raises so -/
def LamOk (P : Program) (w : World) (K : PySem.W.Frag) (mg : Str → Option Value) (base : Heap) (k : Nat) (N ps : List Str) (q : Str) (scope : Scope) (body : Expr) (sp : Sp) : Prop :=
  ∀ (A : Around) (outer : List Env) (s : Shared) (H : Hp) (vs : List V) (Q : VK) (E : XK) (f c : Addr), Room k (A.deeper (envOfC q scope s.heap.objs.size f (.ref c))) → sp vs H Q E →
    ∃ t, PE (cxOf (L2N.CX P w) P w K mg base N q scope f (.ref c) A outer s H E) body t ∧ t (start N vs) H Q
/-- the lambda at f stands in the state -/
structure LamAt (h : Heap) (f c : Addr) (q : Str) (params : Arguments) (body : Expr) (scope : Scope) : Prop where
  ob : ∃ (pm ctv : Value), h.get? f = some (PySem.W.kla_obj "<lambda>" q params body scope [] pm c ctv)
section
variable {P : Program} {w : World} {K : PySem.W.Frag} {mg : Str → Option Value} {base : Heap}
theorem lam_run {k : Nat} {N ps : List Str} {q : Str} {scope : Scope} {params : Arguments} {body : Expr} {sp : Sp} {A : Around} {outer : List Env} {s : Shared} {H : Hp} {us : List Value} {vs : List V} {Q : VK} {E : XK} {f c : Addr}
    (S : FnScope N ps scope) (L : LamOk P w K mg base k N ps q scope body sp) (len : ∀ vs H Q E, sp vs H Q E → vs.length = ps.length) (hb : ∀ (pm ctv : Value) (zs : List Value), zs.length = ps.length → bindArgs (PySem.W.kla_fn "<lambda>" q params body scope [] pm (.ref c) ctv) ⟨zs, []⟩ = pure (ps.zip zs))
    (hr : Room (k + 1) A) (e0 : Env0 P w K mg base A outer s H) (la : LamAt s.heap f c q params body scope) (hc : H c = some (CodeO c q)) (r : Vals vs us) (hsp : sp vs H Q E) : codeAny (model P w) A (.call (.ref f) ⟨us, []⟩) (CR (L2N.CX P w) outer P w H s Q E) s := by
  obtain ⟨pm, ctv, of⟩ := la.ob
  have lv := len _ _ _ _ hsp
  have lu : us.length = ps.length := by rw [← r.length]; exact lv
  obtain ⟨⟨oc, cv, tk, hoc, hdc, hvc⟩, _⟩ := e0.hok c _ hc
  have noLim : s.heap.NoLimit := e0.mod.nolimit.keeps fun b o e => (e0.bs b o e).1
  have kinds : ∀ z ∈ ps.zip us, scope.names.lookup z.1 = some .local ∨ (scope.names.lookup z.1 = some .cell ∧ ((cellsFrom (s.heap.objs.size + 1) scope.names []).lookup z.1).isSome = true) := by
    rintro ⟨n, v⟩ hz
    rcases S.par n (List.of_mem_zip hz).1 with q' | q'
    · exact .inl q'
    · exact .inr ⟨q', PySem.W.cellsFrom_some _ _ _ (.inl q')⟩
  refine PySem.W.kla_callFunE hr.depth of rfl S.co S.gen rfl ⟨c, oc, cv, tk, rfl, hoc, hdc, hvc⟩ ?_
  rw [hb pm ctv us lu]
  refine wpAny_pure (wpAny_newFunctionEnv_cells S.kind kinds fun env he s1 inC => ?_)
  cases he
  refine ⟨noLim.keeps inC.toInCall.keep, ?_⟩
  obtain ⟨t, ht, hq⟩ := L A outer s H vs Q E f c (hr.deeper _) hsp
  have I := inv_start (CX := L2N.CX P w) (cd := .ref c) (f := f) (E := E) S hr.hd e0 lv r inC
  refine PySem.W.kla_codeExpr (wpAny_mono (ht.run [] s1 _ H Q I hq) (fun u s' got => ?_) fun er s' got => got)
  obtain ⟨v, G, J, rv, z⟩ := got
  exact ⟨v, G, J.os, J.bare, J.base, J.hok, rv, z⟩
/-! its call by the def that got it -/
def tAskL (i : Nat) (f c : Addr) (q : Str) (sp : Sp) (W : WX) (t : TA) : TE := fun σ H Q => σ[i]? = some (some (.ref f)) ∧ t σ H fun vs G => G c = some (CodeO c q) ∧ sp vs G Q (WE W σ)
theorem pe_askL {k : Nat} {N ps Ng : List Str} {q qg x : Str} {scope sg : Scope} {params : Arguments} {body e : Expr} {es : List Expr} {sp : Sp} {A : Around} {outer : List Env} {s : Shared} {H : Hp} {f c g : Addr} {cdg : Value} {i : Nat} {pn : List (Addr × Obj)} {xe : Value → Shared → Prop} {W : WX} {t : TA} {p pos : Pos}
    (S : FnScope N ps scope) (L : LamOk P w K mg base k N ps q scope body sp) (len : ∀ vs H Q E, sp vs H Q E → vs.length = ps.length) (hb : ∀ (pm ctv : Value) (zs : List Value), zs.length = ps.length → bindArgs (PySem.W.kla_fn "<lambda>" q params body scope [] pm (.ref c) ctv) ⟨zs, []⟩ = pure (ps.zip zs))
    (la : LamAt s.heap f c q params body scope) (nf : H f = none) (nfr : f ∉ frs outer) (hr : Room (k + 1) (A.deeper (envOfC qg sg s.heap.objs.size g cdg))) (tk : L2N.Takes ((cxOf CX0 P w K mg base Ng qg sg g cdg A outer s H E0).nox.tr pn xe) W)
    (hN : Ng[i]? = some x) (hv : Vis sg x) (ha : PA ((cxOf CX0 P w K mg base Ng qg sg g cdg A outer s H E0).nox.tr pn xe) (e :: es) t) (hdb : (x == ("__debug__" : Str)) = false := by decide) (hcd : (x == ("__classdict__" : Str)) = false := by decide)
    (hse : starEach (e :: es) ((cxOf CX0 P w K mg base Ng qg sg g cdg A outer s H E0).nox.tr pn xe).env = (false, eval e ((cxOf CX0 P w K mg base Ng qg sg g cdg A outer s H E0).nox.tr pn xe).env) :: starEach es ((cxOf CX0 P w K mg base Ng qg sg g cdg A outer s H E0).nox.tr pn xe).env := by rfl)
    (hpl : (backTo pos (starEach es ((cxOf CX0 P w K mg base Ng qg sg g cdg A outer s H E0).nox.tr pn xe).env)).any (·.1) = false := by rfl) :
    PE ((cxOf CX0 P w K mg base Ng qg sg g cdg A outer s H E0).nox.tr pn xe) (.Call (.Name x p) (e :: es) [] pos) (tAskL i f c q sp W t) := by
  refine ⟨fun pins sZ σ HZ Q I h => ?_⟩
  obtain ⟨hs, ht⟩ := h
  have name := (pe_var (pos := p) hN hv hdb hcd).run pins sZ σ HZ (fun v G => v = .ref f ∧ G = HZ) I ⟨.ref f, hs, rfl, rfl⟩
  refine wpAny_Call_Name_kw (thn name fun u s1 got => ?_)
  obtain ⟨v, G, J, rv, rfl, rfl⟩ := got
  cases rv
  have stands : ∀ {τ : L2.St} {G : Hp} {s2 : Shared}, Inv ((cxOf CX0 P w K mg base Ng qg sg g cdg A outer s H E0).nox.tr pn xe) pins τ G s2 → LamAt s2.heap f c q params body scope := fun {τ G s2} J => by
    obtain ⟨pm, ctv, of⟩ := la.ob
    exact ⟨pm, ctv, J.base.keep f _ of nf nfr (fun z => nomatch (show f ∈ ([] : List Addr) from z))⟩
  have fnAt : ∀ {τ : L2.St} {G : Hp} {s2 : Shared}, Inv ((cxOf CX0 P w K mg base Ng qg sg g cdg A outer s H E0).nox.tr pn xe) pins τ G s2 → PySem.W.FnAt f s2.heap := fun {τ G s2} J => by
    obtain ⟨pm, ctv, of⟩ := (stands J).ob
    exact ⟨_, _, _, _, of⟩
  refine PySem.W.callWith_F (first := []) (fnAt J) (thn (ha.run pos pins s1 σ _ _ J ht) fun us s2 got => ?_) hse hpl
  obtain ⟨vs, H2, J2, r, hc, z⟩ := got
  refine ⟨fnAt J2, ?_⟩
  have rc := lam_run S L len hb hr J2.env0 (stands J2) hc r z
  refine wpAny_call (codeAny_mono rc fun res s' hq => ?_)
  cases res with
  | error er => exact (L2N.passAt tk σ) pins H2 s2 er s' J2 hq
  | ok fl =>
    cases fl with
    | ret u => exact J2.after hq
    | _ => exact False.elim hq
/-! _law_told, that got it -/
theorem told_lam {k : Nat} {N ps : List Str} {q : Str} {scope : Scope} {params : Arguments} {body : Expr} {sp : Sp} {A : Around} {outer : List Env} {s : Shared} {H : Hp} {f c g fk cM D : Addr} {us : List Value} {v1 v2 : V} {bs : List Bool} {Q : VK} {fd : FuncData}
    (S : FnScope N ps scope) (L : LamOk P w K mg base 4 N ps q scope body sp) (len : ∀ vs H Q E, sp vs H Q E → vs.length = ps.length) (hb : ∀ (pm ctv : Value) (zs : List Value), zs.length = ps.length → bindArgs (PySem.W.kla_fn "<lambda>" q params body scope [] pm (.ref c) ctv) ⟨zs, []⟩ = pure (ps.zip zs))
    (T : Fun K "_law_told" "_law_told" t__law_told g fd) (B : Binds K fd ["_law_ask", "_law_one", "_law_other"] []) (mk : mg "_law_kinds" = some (.ref fk)) (kk : PySem.W.keepIn K (.ref fk) = true) (M : mg "MeetError" = some (.ref cM))
    (em : PySem.W.exmOne K (.ref D) (.ref cM) = some true) (kinds : ∀ y, FnX P w K mg base fk ["_law_error"] y D (spKinds y bs))
    (la : LamAt s.heap f c q params body scope) (nf : H f = none) (nfr : f ∉ frs outer) (hc : H c = some (CodeO c q)) (hr : Room 6 A) (e0 : Env0 P w K mg base A outer s H) (r : Vals [.ref f, v1, v2] us)
    (ask : ∀ (Q' : VK) (E : XK), (∀ G, Same H G → E (.ref D) none G) → sp [v1, v2] H Q' E) (z : ∀ G p, Same H G → H p = none → G p = some (.lst (bs.map V.bl)) → Q (.ref p) G) :
    codeAny (model P w) A (.call (.ref g) ⟨us, []⟩) (CR CX0 outer P w H s Q E0) s := by
  obtain ⟨oc, od, kV, doc, pm, an, cdv, ct, osl, rfl, lk, hcd⟩ := T.ex
  have inK : K.In s.heap := e0.mod.kin.keeps fun b o e => (e0.bs b o e).1
  have lu : us.length = 3 := r.length.symm
  have bt := B s us inK (by rw [List.append_nil]; exact lu)
  rw [List.append_nil] at bt
  refine run_ofS (k := 5) (N := ["_law_ask", "_law_one", "_law_other", "_law_error"]) (ps := ["_law_ask", "_law_one", "_law_other"]) (us := us) (vs := [.ref f, v1, v2]) lk hcd scTold hr e0 bt r rfl fun hr' => ?_
  refine ⟨_, PSs.nox (pss_cons (L2N.ps_try_as (i := 3) (c := .ref cM) (tb := fun W => tDrop (tAskL 0 f c q sp W (tCons (tVar 1) (tCons (tVar 2) tNil)))) rfl rfl scTold.nd rfl rfl ⟨rfl, by decide, .inl M⟩ takes_none
        (fun W pn xe tk _ => pss_one (ps_expr (pe_askL (i := 0) S L len hb la nf nfr hr' tk rfl (.inl rfl) (pa_cons (pv 1) (pa_cons (pv 2) pa_nil)))))
        (fun a oe cls dd pn hz hf => pss_one (ps_ret (pe_inHand (f := fk) (y := "_law_error") (S := fun D' sp' => D' = D ∧ sp' = spKinds a bs) (fun D' sp' h => by obtain ⟨rfl, rfl⟩ := h; exact kinds a) hr' (by decide) hz hf (by rfl) mk kk (pa_cons (pv 3) pa_nil)))))
      (pss_one (ps_ret (pe_lst pa_nil)))), ?_⟩
  refine ⟨rfl, v1, rfl, v2, rfl, hc, ask _ _ fun G sG => ?_⟩
  refine ⟨true, em, fun _ a na => ?_, fun y => Bool.noConfusion y⟩
  exact ⟨.ref a, rfl, rfl, D, spKinds a bs, rfl, rfl, ⟨rfl, rfl⟩, rfl, fun G' p s1 np e => z G' p (sG.trans s1) (sG.free np) e⟩
end
/-! _law_told(lambda .., e1, e2) -/
def tToldL (T : List (Addr × Str)) (D : Addr) (bs : List Bool) (sp : Sp) (t : TA) : TE := fun σ H Q => Tabs T H ∧ ∀ H1, ExtN H H1 → Tabs T H1 → t σ H1 fun vs G => ∃ v1 v2 : V, vs = [v1, v2] ∧ Same H1 G ∧
  (∀ (Q' : VK) (E : XK), (∀ G', Same G G' → E (.ref D) none G') → sp [v1, v2] G Q' E) ∧ ∀ G' p, Same G G' → G p = none → G' p = some (.lst (bs.map V.bl)) → Q (.ref p) G'
section
variable {X : Cx}
theorem pe_toldL {Tb : List (Addr × Str)} {N ps : List Str} {scope : Scope} {params : Arguments} {body e1 e2 : Expr} {sp : Sp} {g fk cM D cL PL : Addr} {bs : List Bool} {fd : FuncData} {k : Nat} {t : TA} {p lpos pos : Pos}
    (hg : Gl X "_law_told") (hm : X.mg "_law_told" = some (.ref g)) (hk : PySem.W.keepIn X.K (.ref g) = true) (T : Fun X.K "_law_told" "_law_told" t__law_told g fd) (B : Binds X.K fd ["_law_ask", "_law_one", "_law_other"] [])
    (mk : X.mg "_law_kinds" = some (.ref fk)) (kk : PySem.W.keepIn X.K (.ref fk) = true) (M : X.mg "MeetError" = some (.ref cM)) (em : PySem.W.exmOne X.K (.ref D) (.ref cM) = some true) (kinds : ∀ y, FnX X.prog X.w X.K X.mg X.base fk ["_law_error"] y D (spKinds y bs))
    (S : FnScope N ps scope) (L : LamOk X.prog X.w X.K X.mg X.base 4 N ps (X.env.qual ++ "<lambda>") scope body sp) (len : ∀ vs H Q E, sp vs H Q E → vs.length = ps.length)
    (hb : ∀ (c : Addr) (pm ctv : Value) (zs : List Value), zs.length = ps.length → bindArgs (PySem.W.kla_fn "<lambda>" (X.env.qual ++ "<lambda>") params body scope [] pm (.ref c) ctv) ⟨zs, []⟩ = pure (ps.zip zs))
    (TB : TabB X.base X.mg cL PL) (hcode : X.env.code = .ref cL) (hmT : (PL, X.env.qual ++ "<lambda>") ∈ Tb) (hu : ∀ z ∈ Tb, z.1 = PL → z.2 = X.env.qual ++ "<lambda>") (hdef : defaultsOf params X.env = ([], [])) (hcl : cloFrom X.env.cells scope.names [] = [])
    (hs : X.stack = X.env :: X.outer) (hfm : X.env.frame = some X.env.locals) (hr : Room k X.A) (hk6 : 6 ≤ k) (ha : PA X [e1, e2] t) (hpl : (backTo pos (starEach [e1, e2] X.env)).any (·.1) = false := by rfl) :
    PE X (.Call (.Name "_law_told" p) [.Lambda params body scope lpos, e1, e2] [] pos) (tToldL Tb D bs sp t) := by
  refine ⟨fun pins s σ H Q I h => ?_⟩
  obtain ⟨hT, h⟩ := h
  refine wpAny_Call_Name_kw (ld_glob I hg hm ?_ (by decide))
  refine PySem.W.callWith_K (h₀ := X.base) I.ok.mod.kin hk ?_ (by rfl) hpl
  show wpAny _ _ (spliced ((false, eval (.Lambda params body scope lpos) X.env) :: backTo pos (starEach [e1, e2] X.env))) _ _ s
  have noFree : ∀ y ∈ scope.names, y.2 = .free → ∃ c, X.env.cells.lookup y.1 = some c := fun y hy z => absurd z (S.nofree y hy)
  refine Calls.spliced_cons (lam_make2 I TB hcode hmT hu hT hdef noFree fun f c' pm ctv H1 s' I1 eN T1 hf hfn hfr hco => ?_)
  rw [hcl] at hf
  have sk : frs X.stack = X.env.locals :: X.fs := by
    rw [hs]
    unfold frs
    rw [List.filterMap_cons, hfm]
    rfl
  have ap : f ≠ X.env.locals ∧ f ∉ X.fs := by
    rw [sk] at hfr
    exact ⟨fun z => hfr (z ▸ List.mem_cons_self), fun z => hfr (List.mem_cons_of_mem _ z)⟩
  have I2 : Inv X (pins ++ [(f, PySem.W.kla_obj "<lambda>" (X.env.qual ++ "<lambda>") params body scope [] pm c' ctv)]) σ H1 s' := I1.pins_of fun z hz => by
    rcases List.mem_append.mp hz with y | y
    · exact I1.pin z (List.mem_append_right _ y)
    · rw [List.mem_singleton.mp y]
      exact ⟨hf, hfn, ap.1, ap.2, fun v y => nomatch y⟩
  refine thn (ha.run pos _ s' σ H1 _ I2 (h H1 eN T1)) fun us s2 got => ?_
  obtain ⟨vs, G, J, rv, v1, v2, ev, sG, ask, z⟩ := got
  subst ev
  have pin := J.pin _ (List.mem_append_right _ (List.mem_append_right _ List.mem_cons_self))
  refine ⟨J.kIn, ?_⟩
  have rc := told_lam (k := k) (Q := Q) S L len (hb c') T B mk kk M em kinds ⟨pm, ctv, pin.1⟩ pin.2.1 hfr (sG _ _ hco) (hr.mono hk6) J.env0 (.cons rfl rv) ask z
  refine wpAny_call (codeAny_mono rc fun res s3 hq => ?_)
  cases res with
  | error er => exact (show False from hq).elim
  | ok fl =>
    cases fl with
    | ret u => exact J.unpinned.after hq
    | _ => exact False.elim hq
end
end EM
namespace EM
open PySem PySem.Spec PyProof.Rows L2
/-! ### written data of any depth, as it stands in memory -/
mutual
inductive Tr (H : Hp) : V → PyData → Prop
  | non : Tr H .non .none
  | bl (b : Bool) : Tr H (.bl b) (.bool b)
  | int (i : Int) : Tr H (.int i) (.int i)
  | str (z : Str) : Tr H (.str z) (.str z)
  | lst {a : Addr} {xs : List V} {ds : List PyData} : H a = some (.lst xs) → TrAll H xs ds → Tr H (.ref a) (.list ds)
  | tup {a : Addr} {xs : List V} {ds : List PyData} : H a = some (.tup xs) → TrAll H xs ds → Tr H (.ref a) (.tuple ds)
  | dict {a : Addr} : H a = some (.dK []) → Tr H (.ref a) (.dict [])
inductive TrAll (H : Hp) : List V → List PyData → Prop
  | nil : TrAll H [] []
  | cons {v : V} {vs : List V} {d : PyData} {ds : List PyData} : Tr H v d → TrAll H vs ds → TrAll H (v :: vs) (d :: ds)
end
mutual
theorem Tr.mono {H H' : Hp} (s : Same H H') : ∀ {v : V} {d : PyData}, Tr H v d → Tr H' v d
  | _, _, .non => .non
  | _, _, .bl b => .bl b
  | _, _, .int i => .int i
  | _, _, .str z => .str z
  | _, _, .lst h k => .lst (s _ _ h) (TrAll.mono s k)
  | _, _, .tup h k => .tup (s _ _ h) (TrAll.mono s k)
  | _, _, .dict h => .dict (s _ _ h)
theorem TrAll.mono {H H' : Hp} (s : Same H H') : ∀ {vs : List V} {ds : List PyData}, TrAll H vs ds → TrAll H' vs ds
  | _, _, .nil => .nil
  | _, _, .cons h k => .cons (Tr.mono s h) (TrAll.mono s k)
end
theorem TrAll.len {H : Hp} : ∀ {vs : List V} {ds : List PyData}, TrAll H vs ds → vs.length = ds.length
  | _, _, .nil => rfl
  | _, _, .cons _ k => congrArg (· + 1) (TrAll.len k)
theorem TrAll.mem {H : Hp} : ∀ {vs : List V} {ds : List PyData} {v : V}, TrAll H vs ds → v ∈ vs → ∃ d ∈ ds, Tr H v d
  | _, _, _, .nil, h => absurd h (by simp)
  | _, _, v, .cons (d := d) h k, m => by
    rcases List.mem_cons.mp m with e | m
    · subst e
      exact ⟨d, List.mem_cons_self, h⟩
    · obtain ⟨d', hd, t⟩ := k.mem m
      exact ⟨d', List.mem_cons_of_mem _ hd, t⟩
theorem TrAll.app {H : Hp} : ∀ {vs us : List V} {ds es : List PyData}, TrAll H vs ds → TrAll H us es → TrAll H (vs ++ us) (ds ++ es)
  | _, _, _, _, .nil, k => k
  | _, _, _, _, .cons h t, k => .cons h (t.app k)
theorem Tr.kind {K : PySem.W.Frag} {H : Hp} {v : V} {d : PyData} (t : Tr H v d) : Kind K H v := by
  cases t with
  | non => exact .non
  | bl b => exact .bl b
  | int i => exact .int i
  | str z => exact .str z
  | lst h _ => exact .lst h
  | tup h _ => exact .tup h
  | dict h => exact .dK h
/-! an expression that gives such data, whatever follows -/
def Gives (te : TE) (σ : L2.St) (d : PyData) : Prop := ∀ (H : Hp) (Q : VK), (∀ G v, Same H G → Tr G v d → Q v G) → te σ H Q
def GivesA (ta : TA) (σ : L2.St) (ds : List PyData) : Prop := ∀ (H : Hp) (Q : List V → Hp → Prop), (∀ G vs, Same H G → TrAll G vs ds → Q vs G) → ta σ H Q
section
variable {σ : L2.St} {te : TE} {ta : TA} {d : PyData} {ds : List PyData}
theorem gives_non : Gives (tC .non) σ .none := fun H Q q => q H .non (Same.refl H) .non
theorem gives_int {n : Int} : Gives (tC (.int n)) σ (.int n) := fun H Q q => q H (.int n) (Same.refl H) (.int n)
theorem gives_bl {b : Bool} : Gives (tC (.bl b)) σ (.bool b) := fun H Q q => q H (.bl b) (Same.refl H) (.bl b)
theorem gives_str {z : Str} : Gives (tC (.str z)) σ (.str z) := fun H Q q => q H (.str z) (Same.refl H) (.str z)
/-- a whole number that is reckoned -/
theorem gives_num {n : Int} (h : ∀ (H : Hp) (Q : VK), Q (.int n) H → te σ H Q) : Gives te σ (.int n) := fun H Q q => h H Q (q H (.int n) (Same.refl H) (.int n))
theorem gives_nil : GivesA tNil σ [] := fun H Q q => q H [] (Same.refl H) .nil
theorem gives_cons (h : Gives te σ d) (k : GivesA ta σ ds) : GivesA (tCons te ta) σ (d :: ds) := fun H Q q => h H _ fun G v s t => k G _ fun G' vs s' t' => q G' (v :: vs) (s.trans s') (.cons (t.mono s') t')
theorem gives_lst (k : GivesA ta σ ds) (l : ds.length ≤ 900) : Gives (tLst ta) σ (.list ds) := fun H Q q => k H _ fun G vs s t => ⟨by rw [t.len]; exact Nat.le_trans l (by decide), fun p np => q _ _ (s.trans (same_upd np)) (.lst upd_same (t.mono (same_upd np)))⟩
theorem gives_tup (k : GivesA ta σ ds) (l : ds.length ≤ 900) : Gives (tTup ta) σ (.tuple ds) := fun H Q q => k H _ fun G vs s t => ⟨by rw [t.len]; exact Nat.le_trans l (by decide), fun p np => q _ _ (s.trans (same_upd np)) (.tup upd_same (t.mono (same_upd np)))⟩
theorem gives_dict : Gives tDNewK σ (.dict []) := fun H Q q p np => q _ _ (same_upd np) (.dict upd_same)
end
/-! ### what is a plan of so many teams -/
def isPairD (t : Int) : PyData → Bool
  | .tuple [.int a, .int b] => decide (0 ≤ a) && decide (a < t) && (decide (0 ≤ b) && decide (b < t)) && decide (a ≠ b)
  | _ => false
def isRowD (t : Int) : PyData → Bool
  | .list ps => ps.all (isPairD t)
  | _ => false
def isPlanD (t : Int) : PyData → Bool
  | .list rs => rs.all (isRowD t)
  | _ => false
/-- the rows of a plan -/
def pairOf : PyData → Int × Int
  | .tuple [.int a, .int b] => (a, b)
  | _ => (0, 0)
def pairsOf : PyData → List (Int × Int)
  | .list ps => ps.map pairOf
  | _ => []
def rowsD : PyData → List (List (Int × Int))
  | .list rs => rs.map pairsOf
  | _ => []
def slimR : PyData → Bool
  | .list ps => decide (ps.length ≤ 900)
  | _ => true
/-- no list of it is long -/
def slimD (d : PyData) : Bool := (match d with
  | .list rs => decide (rs.length ≤ 900) && rs.all slimR
  | _ => true) && decide ((keysOf (rowsD d)).length ≤ 1000)
theorem slim_sized {d : PyData} (h : slimD d = true) : Sized (rowsD d) := by
  unfold slimD at h
  rw [Bool.and_eq_true, decide_eq_true_eq] at h
  obtain ⟨h, k⟩ := h
  cases d with
  | list rs =>
    rw [Bool.and_eq_true, decide_eq_true_eq, List.all_eq_true] at h
    refine ⟨by show (rs.map pairsOf).length ≤ 900; rw [List.length_map]; exact h.1, fun row hq => ?_, k⟩
    obtain ⟨r, hr, rfl⟩ := List.mem_map.mp (show row ∈ rs.map pairsOf from hq)
    have z := h.2 r hr
    cases r with
    | list ps => show (ps.map pairOf).length ≤ 900; rw [List.length_map]; exact of_decide_eq_true z
    | _ => exact Nat.zero_le _
  | _ => exact ⟨Nat.zero_le _, fun row hr => absurd hr (List.not_mem_nil), k⟩
theorem rowsD_planD (pl : List (List (Int × Int))) : rowsD (planD pl) = pl := by
  show (pl.map rowD).map pairsOf = pl
  rw [List.map_map]
  refine (List.map_congr_left fun row _ => ?_).trans (List.map_id pl)
  show (row.map pairD).map pairOf = row
  rw [List.map_map]
  exact (List.map_congr_left fun p _ => rfl).trans (List.map_id row)
theorem isPlanD_planD {t : Int} {pl : List (List (Int × Int))} (h : Valid t pl) : isPlanD t (planD pl) = true := by
  show (pl.map rowD).all (isRowD t) = true
  rw [List.all_map, List.all_eq_true]
  intro row hr
  show (row.map pairD).all (isPairD t) = true
  rw [List.all_map, List.all_eq_true]
  intro p hp
  obtain ⟨a0, a1, b0, b1, ne⟩ := h row hr p hp
  show (decide (0 ≤ p.1) && decide (p.1 < t) && (decide (0 ≤ p.2) && decide (p.2 < t)) && decide (p.1 ≠ p.2)) = true
  simp [a0, a1, b0, b1, ne]
theorem slimD_planD {pl : List (List (Int × Int))} (h : Sized pl) : slimD (planD pl) = true := by
  show ((decide ((pl.map rowD).length ≤ 900) && (pl.map rowD).all slimR) && decide ((keysOf (rowsD (planD pl))).length ≤ 1000)) = true
  rw [rowsD_planD, decide_eq_true h.most, Bool.and_true, List.length_map, decide_eq_true h.few, Bool.true_and, List.all_map, List.all_eq_true]
  intro row hr
  show decide ((row.map pairD).length ≤ 900) = true
  rw [List.length_map, decide_eq_true (h.row row hr)]
theorem PairAt.tr {H : Hp} {v : V} {p : Int × Int} (h : PairAt H v p) : Tr H v (pairD p) := by
  obtain ⟨q, rfl, e⟩ := h
  exact .tup e (.cons (.int _) (.cons (.int _) .nil))
theorem trAll_of {H : Hp} {β : Type} {R : V → β → Prop} {f : β → PyData} (g : ∀ v x, R v x → Tr H v (f x)) : ∀ {vs : List V} {xs : List β}, All2 R vs xs → TrAll H vs (xs.map f)
  | _, _, .nil => .nil
  | _, _, .cons r k => .cons (g _ _ r) (trAll_of g k)
theorem RowAt.tr {H : Hp} {v : V} {row : List (Int × Int)} (h : RowAt H v row) : Tr H v (rowD row) := by
  obtain ⟨q, vs, rfl, e, k⟩ := h
  exact .lst e (trAll_of (f := pairD) (fun _ _ => PairAt.tr) k)
theorem plan_tr {H : Hp} {v : V} {pl : List (List (Int × Int))} (h : LAt RowAt H v pl) : Tr H v (planD pl) := by
  obtain ⟨q, vs, rfl, e, k⟩ := h
  exact .lst e (trAll_of (f := rowD) (fun _ _ => RowAt.tr) k)
end EM
namespace EM
open PySem PySem.Spec PyProof.Rows L2
/-! ### the doors with a count, the doors with a plan -/
/-- no count of teams, from the fourth door on above twenty too -/
def badT (door : Int) (v : V) : Bool := !okT v || (decide (4 ≤ door) && !inB 21 v)
def goodD (t : Int) (d : PyData) : Bool := goodB t (rowsD d)
/-- what breaks refuses: no plan, no good one; judged refuses what is no plan -/
def PlanNo (cP cG : Addr) (both : Bool) (t : Int) (d : PyData) (C : Addr) : Prop := (isPlanD t d = false ∧ C = cP) ∨ (both = true ∧ isPlanD t d = true ∧ goodD t d = false ∧ C = cG)
def spAskNo (K : PySem.W.Frag) (cT cP cG : Addr) (both : Bool) : Sp := fun vs H _ E => ∃ (vt v : V) (d : PyData) (C : Addr), vs = [vt, v] ∧ Kind K H vt ∧ Tr H v d ∧ slimD d = true ∧ ((badT 4 vt = true ∧ C = cT) ∨ ∃ t : Int, vt = .int t ∧ TOk t ∧ t ≤ 20 ∧ PlanNo cP cG both t d C) ∧ ∀ G, Same H G → E (.ref C) none G
def spWithTeams (K : PySem.W.Frag) (cT : Addr) : Sp := fun vs H _ E => ∃ (door : Int) (v : V), vs = [.int door, v] ∧ 0 ≤ door ∧ door < 6 ∧ Kind K H v ∧ badT door v = true ∧ ∀ G, Same H G → E (.ref cT) none G
def spWithPlan (K : PySem.W.Frag) (cP cG : Addr) : Sp := fun vs H _ E => ∃ (W : Addr) (door t : Int) (v : V) (d : PyData) (C : Addr), vs = [.ref W, v] ∧ H W = some (.tup [.int door, .int t]) ∧ 0 ≤ door ∧ door < 2 ∧ TOk t ∧ t ≤ 20 ∧ Tr H v d ∧ slimD d = true ∧ PlanNo cP cG (decide (door = 1)) t d C ∧ ∀ G, Same H G → E (.ref C) none G
theorem scWithTeams : FnScope ["_law_door", "_law_teams_here"] ["_law_door", "_law_teams_here"] (defScope t__law_with_teams) := ⟨rfl, rfl, rfl, by decide +kernel, rfl, by decide +kernel, by decide +kernel⟩
theorem scWithPlan : FnScope ["_law_where", "_law_plan_here", "_law_door", "_law_teams_here"] ["_law_where", "_law_plan_here"] (defScope t__law_with_plan) := ⟨rfl, rfl, rfl, by decide +kernel, rfl, by decide +kernel, by decide +kernel⟩
section
variable {P : Program} {w : World} {K : PySem.W.Frag} {mg : Str → Option Value} {base : Heap} {cT cA cR cP cL cG : Addr} {kJ kB : Nat}
theorem bad_low {door : Int} {v : V} (h : badT door v = true) (d4 : door < 4) : okT v = false := by
  unfold badT at h
  rw [decide_eq_false (by omega : ¬ 4 ≤ door), Bool.false_and, Bool.or_false, Bool.not_eq_true'] at h
  exact h
theorem bad_high {door : Int} {v : V} (h : badT door v = true) : badT 4 v = true := by
  unfold badT at h ⊢
  by_cases d4 : 4 ≤ door
  · rw [decide_eq_true d4] at h
    exact h
  · rw [decide_eq_false d4, Bool.false_and, Bool.or_false] at h
    rw [h, Bool.true_or]
theorem fn_withTeams {k : Nat} (d : DefAt K mg "_law_with_teams" t__law_with_teams ["_law_door", "_law_teams_here"]) (Fo : FnE P w K mg base "opponent" ["teams", "team", "number"] 5 (spTRE K cT cA cR fun _ _ _ _ _ => False)) (Fh : FnE P w K mg base "at_home" ["teams", "team", "number"] 5 (spTRE K cT cA cR fun _ _ _ _ _ => False))
    (Fr : FnE P w K mg base "round_of" ["teams", "one", "other"] 4 (spRndE K cT cA cL)) (Fb : FnE P w K mg base "break_of" ["teams", "team"] 4 (spBrkE K cT cA)) (FJ : FnE P w K mg base "judged" ["teams", "plan"] kJ (spAskNo K cT cP cG false)) (FB : FnE P w K mg base "breaks" ["teams", "plan"] kB (spAskNo K cT cP cG true))
    (k4 : 5 ≤ k) (hJ : kJ ≤ k) (hB : kB ≤ k) : FnE P w K mg base "_law_with_teams" ["_law_door", "_law_teams_here"] (k + 1) (spWithTeams K cT) := by
  refine d.fnE scWithTeams (fun vs H Q E h => ?_) (fun f cdv A outer s H vs Q E hr h => ?_)
  · obtain ⟨door, v, rfl, _⟩ := h
    rfl
  · obtain ⟨door, v, rfl, d0, d6, kv, hv, e⟩ := h
    have T2 := L2N.takes_of (E := E) (X := cxOf (L2N.CX P w) P w K mg base ["_law_door", "_law_teams_here"] "_law_with_teams" (defScope t__law_with_teams) f cdv A outer s H E) rfl rfl rfl rfl
    refine ⟨_, pss_cons (ps_if (pt_cmpR op_lt (pv 0) pe_int (nomark _)) (pss_one (ps_ret (pe_ifExp (pt_cmpR op_eq (pv 0) pe_int (nomark _)) (pe_fE Fo hr k4 T2 (by rfl) (pa_cons (pv 1) (pa_cons (pe_un un_neg pe_int) (pa_cons (pe_un un_neg pe_int) pa_nil))))
        (pe_ifExp (pt_cmpR op_eq (pv 0) pe_int (nomark _)) (pe_fE Fh hr k4 T2 (by rfl) (pa_cons (pv 1) (pa_cons pe_non (pa_cons pe_int pa_nil)))) (pe_fE Fr hr (by omega) T2 (by rfl) (pa_cons (pv 1) (pa_cons pe_int (pa_cons pe_int pa_nil)))))))) pss_nil)
      (pss_one (ps_ret (pe_ifExp (pt_cmpR op_eq (pv 0) pe_int (nomark _)) (pe_fE Fb hr (by omega) T2 (by rfl) (pa_cons (pv 1) (pa_cons (pe_un un_neg pe_int) pa_nil)))
        (pe_ifExp (pt_cmpR op_eq (pv 0) pe_int (nomark _)) (pe_fE FJ hr hJ T2 (by rfl) (pa_cons (pv 1) (pa_cons pe_non pa_nil))) (pe_fE FB hr hB T2 (by rfl) (pa_cons (pv 1) (pa_cons (pe_lst (pa_cons (pe_lst pa_nil) pa_nil)) pa_nil))))))), ?_⟩
    refine ⟨.int door, rfl, door, 3, rfl, rfl, _, rfl, ite2 (fun g => ?_) (fun g => ?_)⟩
    · have g : door < 3 := of_decide_eq_true g
      have no := bad_low hv (by omega)
      have ct : ∀ t : Int, v = .int t → okT v = true → False := fun t _ ht => Bool.noConfusion (no.symm.trans ht)
      refine ⟨.int door, rfl, rfl, _, rfl, ite2 (fun _ => ?_) (fun _ => ?_)⟩
      · exact ⟨v, rfl, 1, rfl, 1, rfl, v, _, _, rfl, kv, .int _, .int _, fun _ => e H (Same.refl H), fun t h1 h2 => (ct t h1 h2).elim⟩
      · refine ⟨.int door, rfl, rfl, _, rfl, ite2 (fun _ => ?_) (fun _ => ?_)⟩
        · exact ⟨v, rfl, v, _, _, rfl, kv, .non, .int _, fun _ => e H (Same.refl H), fun t h1 h2 => (ct t h1 h2).elim⟩
        · exact ⟨v, rfl, v, _, _, rfl, kv, .int _, .int _, fun _ => e H (Same.refl H), fun t h1 h2 => (ct t h1 h2).elim⟩
    · refine ⟨.int door, rfl, rfl, _, rfl, ite2 (fun g3 => ?_) (fun g3 => ?_)⟩
      · have no := bad_low hv (by have := V.int.inj (of_decide_eq_true g3); omega)
        exact ⟨v, rfl, 1, rfl, v, _, rfl, kv, .int _, fun _ => e H (Same.refl H), fun t _ h2 => Bool.noConfusion (no.symm.trans h2)⟩
      · refine ⟨.int door, rfl, rfl, _, rfl, ite2 (fun _ => ?_) (fun _ => ?_)⟩
        · exact ⟨v, rfl, v, .non, .none, cT, rfl, kv, .non, rfl, .inl ⟨bad_high hv, rfl⟩, e⟩
        · refine ⟨v, rfl, Nat.zero_le _, fun p1 n1 => ⟨by show 1 ≤ sizeLine; decide, fun p2 n2 => ?_⟩⟩
          have s1 := same_upd (o := .lst []) n1
          have s2 := same_upd (o := .lst [V.ref p1]) n2
          exact ⟨v, .ref p2, .list [.list []], cT, rfl, (kv.mono s1).mono s2, .lst upd_same (.cons (.lst (s2 _ _ upd_same) .nil) .nil), rfl, .inl ⟨bad_high hv, rfl⟩, fun G sG => e G ((s1.trans s2).trans sG)⟩
theorem fn_withPlan {k : Nat} (d : DefAt K mg "_law_with_plan" t__law_with_plan ["_law_where", "_law_plan_here"]) (FJ : FnE P w K mg base "judged" ["teams", "plan"] kJ (spAskNo K cT cP cG false)) (FB : FnE P w K mg base "breaks" ["teams", "plan"] kB (spAskNo K cT cP cG true))
    (hJ : kJ ≤ k) (hB : kB ≤ k) : FnE P w K mg base "_law_with_plan" ["_law_where", "_law_plan_here"] (k + 1) (spWithPlan K cP cG) := by
  refine d.fnE scWithPlan (fun vs H Q E h => ?_) (fun f cdv A outer s H vs Q E hr h => ?_)
  · obtain ⟨W, door, t, v, d, C, rfl, _⟩ := h
    rfl
  · obtain ⟨W, door, t, v, d, C, rfl, hW, d0, d2, T, t20, tr, sl, no, e⟩ := h
    have T2 := L2N.takes_of (E := E) (X := cxOf (L2N.CX P w) P w K mg base ["_law_where", "_law_plan_here", "_law_door", "_law_teams_here"] "_law_with_plan" (defScope t__law_with_plan) f cdv A outer s H E) rfl rfl rfl rfl
    refine ⟨_, pss_cons (ps_asg (pv 0) (pg_tup rfl (pgs_cons (pg_name (i := 2) scWithPlan.nd rfl (.inl rfl)) (pgs_cons (pg_name (i := 3) scWithPlan.nd rfl (.inl rfl)) pgs_nil))))
      (pss_one (ps_ret (pe_ifExp (pt_cmpR op_eq (pv 2) pe_int (nomark _)) (pe_fE FJ hr hJ T2 (by rfl) (pa_cons (pv 3) (pa_cons (pv 1) pa_nil))) (pe_fE FB hr hB T2 (by rfl) (pa_cons (pv 3) (pa_cons (pv 1) pa_nil)))))), ?_⟩
    refine ⟨.ref W, rfl, W, _, rfl, SqT.of hW, rfl, _, _, rfl, _, _, rfl, rfl, ?_⟩
    refine ⟨.int door, rfl, rfl, _, rfl, ite2 (fun g => ?_) (fun g => ?_)⟩
    · have g := V.int.inj (of_decide_eq_true g)
      refine ⟨.int t, rfl, v, rfl, .int t, v, d, C, rfl, .int _, tr, sl, .inr ⟨t, rfl, T, t20, ?_⟩, e⟩
      rw [g] at no
      exact no
    · have g : door ≠ 0 := fun z => g (decide_eq_true (congrArg V.int z))
      refine ⟨.int t, rfl, v, rfl, .int t, v, d, C, rfl, .int _, tr, sl, .inr ⟨t, rfl, T, t20, ?_⟩, e⟩
      rw [show door = 1 by omega] at no
      exact no
end
end EM
namespace EM
open PySem PySem.Spec PyProof.Rows L2
/-! ### what judged, breaks refuse -/
/-- either promise of one call -/
theorem pe_either {X : Cx} {e : Expr} {t1 t2 : TE} (h1 : PE X e t1) (h2 : PE X e t2) : PE X e fun σ H Q => t1 σ H Q ∨ t2 σ H Q :=
  ⟨fun pins s σ H Q I h => h.elim (fun z => h1.run pins s σ H Q I z) fun z => h2.run pins s σ H Q I z⟩
theorem okP_iff {t a b : Int} : isPairD t (.tuple [.int a, .int b]) = true ↔ 0 ≤ a ∧ a < t ∧ 0 ≤ b ∧ b < t ∧ a ≠ b := by
  show (decide (0 ≤ a) && decide (a < t) && (decide (0 ≤ b) && decide (b < t)) && decide (a ≠ b)) = true ↔ _
  simp only [Bool.and_eq_true, decide_eq_true_eq]
  exact ⟨fun h => ⟨h.1.1.1, h.1.1.2, h.1.2.1, h.1.2.2, h.2⟩, fun h => ⟨⟨⟨h.1, h.2.1⟩, h.2.2.1, h.2.2.2.1⟩, h.2.2.2.2⟩⟩
/-- two values that are two unlike teams -/
def twoV (t : Int) (x y : V) : Bool := inB t x && (inB t y && !decide (x = y))
theorem pair_tr {H : Hp} {t : Int} {v : V} {d : PyData} (h : Tr H v d) (ok : isPairD t d = true) : PairAt H v (pairOf d) ∧ (0 ≤ (pairOf d).1 ∧ (pairOf d).1 < t ∧ 0 ≤ (pairOf d).2 ∧ (pairOf d).2 < t ∧ (pairOf d).1 ≠ (pairOf d).2) := by
  cases h with
  | tup e k =>
    cases k with
    | nil => cases ok
    | cons h1 k =>
      cases k with
      | nil => cases h1 <;> cases ok
      | cons h2 k =>
        cases k with
        | nil =>
          cases h1 with
          | int a =>
            cases h2 with
            | int b => exact ⟨⟨_, rfl, e⟩, okP_iff.mp ok⟩
            | _ => cases ok
          | _ => cases ok
        | cons _ _ => cases h1 <;> cases h2 <;> cases ok
  | _ => cases ok
theorem row_tr {H : Hp} {t : Int} {v : V} {d : PyData} (h : Tr H v d) (ok : isRowD t d = true) : RowAt H v (pairsOf d) ∧ VRow t (pairsOf d) := by
  cases h with
  | lst e k =>
    rename_i a xs ds
    have ok : ds.all (isPairD t) = true := ok
    have go : ∀ {xs : List V} {ds : List PyData}, TrAll H xs ds → ds.all (isPairD t) = true → All2 (PairAt H) xs (ds.map pairOf) ∧ VRow t (ds.map pairOf) := by
      intro xs ds k
      induction ds generalizing xs with
      | nil =>
        intro _
        cases k
        exact ⟨.nil, VRow.nil⟩
      | cons d ds ih =>
        intro ok
        cases k with
        | cons h1 k =>
          rw [List.all_cons, Bool.and_eq_true] at ok
          obtain ⟨a1, a2⟩ := ih k ok.2
          obtain ⟨b1, b2⟩ := pair_tr h1 ok.1
          refine ⟨.cons b1 a1, fun p hp => ?_⟩
          rcases List.mem_cons.mp hp with e | hp
          · rw [e]
            exact b2
          · exact a2 p hp
    obtain ⟨g1, g2⟩ := go k ok
    exact ⟨⟨_, _, rfl, e, g1⟩, g2⟩
  | _ => cases ok
theorem plan_of_tr {H : Hp} {t : Int} {v : V} {d : PyData} (h : Tr H v d) (ok : isPlanD t d = true) : LAt RowAt H v (rowsD d) ∧ Valid t (rowsD d) := by
  cases h with
  | lst e k =>
    rename_i a xs ds
    have ok : ds.all (isRowD t) = true := ok
    have go : ∀ {xs : List V} {ds : List PyData}, TrAll H xs ds → ds.all (isRowD t) = true → All2 (RowAt H) xs (ds.map pairsOf) ∧ Valid t (ds.map pairsOf) := by
      intro xs ds k
      induction ds generalizing xs with
      | nil =>
        intro _
        cases k
        exact ⟨.nil, fun _ h => absurd h List.not_mem_nil⟩
      | cons d ds ih =>
        intro ok
        cases k with
        | cons h1 k =>
          rw [List.all_cons, Bool.and_eq_true] at ok
          obtain ⟨a1, a2⟩ := ih k ok.2
          obtain ⟨b1, b2⟩ := row_tr h1 ok.1
          refine ⟨.cons b1 a1, fun row hr => ?_⟩
          rcases List.mem_cons.mp hr with e | hr
          · rw [e]
            exact b2
          · exact a2 row hr
    obtain ⟨g1, g2⟩ := go k ok
    exact ⟨⟨_, _, rfl, e, g1⟩, g2⟩
  | _ => cases ok
theorem TrAll.at {H : Hp} {xs : List V} {ds : List PyData} (k : TrAll H xs ds) : ∀ {i : Nat} {x : V}, xs[i]? = some x → ∃ d, ds[i]? = some d ∧ Tr H x d := by
  induction ds generalizing xs with
  | nil =>
    cases k
    intro i x h
    cases h
  | cons d ds ih =>
    cases k with
    | cons h1 k =>
      intro i x h
      cases i with
      | zero =>
        cases h
        exact ⟨d, rfl, h1⟩
      | succ i => exact ih k h
section
variable {P : Program} {w : World} {K : PySem.W.Frag} {mg : Str → Option Value} {base : Heap}
def spJTE (K : PySem.W.Frag) (C : Addr) : Sp := fun vs H Q E => ∃ v : V, vs = [v] ∧ Kind K H v ∧ (badT 4 v = false → Q .non H) ∧ (badT 4 v = true → E (.ref C) none H)
theorem fn_chkJTE {C : Addr} (d : DefAt K mg "check_judged_teams" t_check_judged_teams ["teams"]) (Z : ErrC K mg "BadTeams" C) (Z2 : Names2 mg) (F : FnE P w K mg base "check_teams" ["teams"] 2 (spTeamsE K C)) : FnE P w K mg base "check_judged_teams" ["teams"] 3 (spJTE K C) := by
  refine d.fnE scChkJT (fun vs H Q E h => ?_) (fun f cdv A outer s H vs Q E hr h => ?_)
  · obtain ⟨v, rfl, _⟩ := h
    rfl
  · obtain ⟨v, rfl, kd, q, e⟩ := h
    obtain ⟨tk, mM⟩ := Z2.most
    refine ⟨_, pss_cons (ps_expr (pe_fE F hr (by decide) (L2N.takes_of rfl rfl rfl rfl) (by rfl) (pa_cons (pv 0) pa_nil))) (pss_one (ps_if (pt_cmpR op_gt (pv 0) (pe_glob (v := .int 20) (by rfl) mM ⟨_, rfl⟩) (nomark _)) (pss_one (ps_refuse Z rfl (L2N.takes_of rfl rfl rfl rfl) (by rfl))) pss_nil)), ?_⟩
    refine ⟨v, rfl, v, rfl, kd, fun ok => ?_, fun no => e (by unfold badT; rw [no]; rfl)⟩
    obtain ⟨t, rfl⟩ := okT_int ok
    have T := okT_iff.mp ok
    have t2 := T.two
    refine ⟨.int t, rfl, t, 20, rfl, rfl, _, rfl, ite2 (fun g => ?_) (fun g => ?_)⟩
    · have g : t > 20 := of_decide_eq_true g
      refine e ?_
      unfold badT
      rw [ok]
      show (false || (true && !(decide (0 ≤ t) && decide (t < 21)))) = true
      rw [decide_eq_false (by omega : ¬ t < 21)]
      simp
    · have g : ¬ t > 20 := fun z => g (decide_eq_true z)
      refine q ?_
      unfold badT
      rw [ok]
      show (false || (true && !(decide (0 ≤ t) && decide (t < 21)))) = false
      rw [decide_eq_true (by omega : t < 21), decide_eq_true (by omega : 0 ≤ t)]
      rfl
def spPairD (K : PySem.W.Frag) : Sp := fun vs H Q _ => ∃ (t : Int) (v : V) (d : PyData), vs = [.int t, v] ∧ Tr H v d ∧ Q (.bl (isPairD t d)) H
theorem fn_isPairD (d : DefAt K mg "_is_pair" t__is_pair ["teams", "pair"]) (N : Names mg) (Z : Names2 mg) (F : Fn P w K mg base "is_counted" ["many", "value"] 2 (spCntK K)) : Fn P w K mg base "_is_pair" ["teams", "pair"] 3 (spPairD K) := by
  refine d.fn scIsPair (fun vs H Q E h => ?_) (fun f cdv A outer s H vs Q E hr h => ?_)
  · obtain ⟨t, v, d, rfl, _⟩ := h
    rfl
  · obtain ⟨t, v, d, rfl, tr, q⟩ := h
    refine ⟨_, pss_cons (ps_if (PW.pt (pw_or (pt_not (pt_val (pe_callB call_isi (by rfl) N.isinst boot_isinstance (pa_cons (pv 1) (pa_cons (pe_bltn (v := .ty "tuple") (by rfl) Z.tuple boot_tuple rfl) pa_nil)))))
        (pw_or1 (pt_cmpR op_ne (pe_callB call_len_seq (by rfl) N.len PySem.boot_len (pa_cons (pv 1) pa_nil)) pe_int (nomark _))))) (pss_one (ps_ret pe_bl)) pss_nil)
      (pss_cons (ps_asg (pv 1) (pg_tup rfl (pgs_cons (pg_name (i := 2) scIsPair.nd rfl (.inl rfl)) (pgs_cons (pg_name (i := 3) scIsPair.nd rfl (.inl rfl)) pgs_nil))))
      (pss_one (ps_ret (pe_and (pe_f F hr (by decide) (by rfl) (pa_cons (pv 0) (pa_cons (pv 2) pa_nil))) (pe_and (pe_f F hr (by decide) (by rfl) (pa_cons (pv 0) (pa_cons (pv 3) pa_nil))) (pe_one (pe_cmpR op_ne (pv 2) (pv 3) (nomark _)))))))), ?_⟩
    cases tr with
    | non => exact ⟨.non, rfl, .non, .ty "tuple", _, _, false, rfl, .ty "tuple", .base (.non), kit_ty (a := "NoneType") (by decide +kernel), false, rfl, iteT q⟩
    | bl b => exact ⟨.bl b, rfl, .bl b, .ty "tuple", _, _, false, rfl, .ty "tuple", .base (.bl b), kit_ty (a := "bool") (by decide +kernel), false, rfl, iteT q⟩
    | int i => exact ⟨.int i, rfl, .int i, .ty "tuple", _, _, false, rfl, .ty "tuple", .base (.int i), kit_ty (a := "int") (by decide +kernel), false, rfl, iteT q⟩
    | str z => exact ⟨.str z, rfl, .str z, .ty "tuple", _, _, false, rfl, .ty "tuple", .base (.str z), kit_ty (a := "str") (by decide +kernel), false, rfl, iteT q⟩
    | lst e k => exact ⟨.ref _, rfl, .ref _, .ty "tuple", _, _, false, rfl, .ty "tuple", .base (.lst e), kit_ty (a := "list") (by decide +kernel), false, rfl, iteT q⟩
    | dict e => exact ⟨.ref _, rfl, .ref _, .ty "tuple", _, _, false, rfl, .ty "tuple", .base (.dK e), kit_ty (a := "dict") (by decide +kernel), false, rfl, iteT q⟩
    | tup e k =>
      rename_i a xs ds
      refine ⟨.ref a, rfl, .ref a, .ty "tuple", _, _, true, rfl, .ty "tuple", .base (.tup e), kit_ty (by decide +kernel), true, rfl, iteF ?_⟩
      refine ⟨.ref a, rfl, a, xs, rfl, .inr (SqT.of e), rfl, _, rfl, ?_⟩
      have kl := k.len
      by_cases two : xs.length = 2
      · refine iteNS (c := V.int ((xs.length : Nat) : Int) = V.int 2) (by rw [two]; rfl) ?_
        cases k with
        | nil => cases two
        | cons h1 k =>
          cases k with
          | nil => cases two
          | cons h2 k =>
            cases k with
            | cons _ _ => exact absurd two (by simp)
            | nil =>
              rename_i x d1 y d2
              refine ⟨.ref a, rfl, a, _, rfl, SqT.of e, rfl, _, _, rfl, _, _, rfl, rfl, ?_⟩
              refine ⟨.int t, rfl, x, rfl, t, x, rfl, h1.kind, inB t x, rfl, ite2 (fun i1 => ?_) (fun i1 => ?_)⟩
              · obtain ⟨m, rfl, m0, m1⟩ := inB_int i1
                refine ⟨.int t, rfl, y, rfl, t, y, rfl, h2.kind, inB t y, rfl, ite2 (fun i2 => ?_) (fun i2 => ?_)⟩
                · obtain ⟨n, rfl, n0, n1⟩ := inB_int i2
                  cases h1
                  cases h2
                  refine ⟨.int m, rfl, .int n, rfl, rfl, ?_⟩
                  have e3 : isPairD t (.tuple [.int m, .int n]) = !decide (V.int m = V.int n) := by
                    show (decide (0 ≤ m) && decide (m < t) && (decide (0 ≤ n) && decide (n < t)) && decide (m ≠ n)) = _
                    rw [decide_eq_true m0, decide_eq_true m1, decide_eq_true n0, decide_eq_true n1, EM.dec_int]
                    by_cases z : m = n
                    · rw [decide_eq_true z, decide_eq_false (fun w => w z)]
                      rfl
                    · rw [decide_eq_false z, decide_eq_true z]
                      rfl
                  rw [e3] at q
                  exact q
                · have e3 : isPairD t (.tuple [d1, d2]) = false := by
                    cases h1
                    cases h2 with
                    | int n =>
                      cases z : isPairD t (.tuple [.int m, .int n]) with
                      | false => rfl
                      | true => exact absurd (inB_iff.mpr ⟨(okP_iff.mp z).2.2.1, (okP_iff.mp z).2.2.2.1⟩) i2
                    | _ => rfl
                  rw [e3] at q
                  exact q
              · have e3 : isPairD t (.tuple [d1, d2]) = false := by
                  cases h1 with
                  | int m =>
                    cases h2 with
                    | int n =>
                      cases z : isPairD t (.tuple [.int m, .int n]) with
                      | false => rfl
                      | true => exact absurd (inB_iff.mpr ⟨(okP_iff.mp z).1, (okP_iff.mp z).2.1⟩) i1
                    | _ => rfl
                  | _ => cases h2 <;> rfl
                rw [e3] at q
                exact q
      · refine itNn (c := V.int ((xs.length : Nat) : Int) = V.int 2) (fun z => two (by have := V.int.inj z; omega)) ?_
        have e3 : isPairD t (.tuple ds) = false := by
          match ds, kl with
          | [], _ => rfl
          | [d], _ => cases d <;> rfl
          | [d1, d2], kl => exact absurd kl two
          | d1 :: d2 :: d3 :: r, _ => cases d1 <;> cases d2 <;> rfl
        rw [e3] at q
        exact q
def spChkPlanE (K : PySem.W.Frag) (C : Addr) : Sp := fun vs H Q E => ∃ (t : Int) (v : V) (d : PyData), vs = [.int t, v] ∧ Tr H v d ∧ (isPlanD t d = true → Q .non H) ∧ (isPlanD t d = false → E (.ref C) none H)
theorem fn_chkPlanE {C : Addr} (d : DefAt K mg "check_plan" t_check_plan ["teams", "plan"]) (Z : ErrC K mg "BadPlan" C) (N : Names mg) (Z2 : Names2 mg) (F : FnE P w K mg base "_is_pair" ["teams", "pair"] 3 (spPairD K)) : FnE P w K mg base "check_plan" ["teams", "plan"] 4 (spChkPlanE K C) := by
  refine d.fnE scChkPlan (fun vs H Q E h => ?_) (fun f cdv A outer s H vs Q E hr h => ?_)
  · obtain ⟨t, v, d, rfl, _⟩ := h
    rfl
  · obtain ⟨t, v, d, rfl, tr, q, er⟩ := h
    refine ⟨_, pss_cons (ps_if (pt_not (pt_val (pe_callB call_isi (by rfl) N.isinst boot_isinstance (pa_cons (pv 1) (pa_cons (pe_bltn (v := .ty "list") (by rfl) Z2.list boot_list rfl) pa_nil))))) (pss_one (ps_refuse Z rfl (L2N.takes_of rfl rfl rfl rfl) (by rfl))) pss_nil)
      (pss_one (ps_for (passes_of rfl) rfl (pi_list (pv 1)) (pg_name (i := 2) scChkPlan.nd rfl (.inl rfl))
        (pss_cons (ps_if (pt_not (pt_val (pe_callB call_isi (by rfl) N.isinst boot_isinstance (pa_cons (pv 2) (pa_cons (pe_bltn (v := .ty "list") (by rfl) Z2.list boot_list rfl) pa_nil))))) (pss_one (ps_refuse Z rfl (L2N.takes_of rfl rfl rfl rfl) (by rfl))) pss_nil)
        (pss_one (ps_for (passes_of rfl) rfl (pi_list (pv 2)) (pg_name (i := 3) scChkPlan.nd rfl (.inl rfl))
          (pss_one (ps_if (pt_not (pt_val (pe_fE F hr (by decide) (L2N.takes_of rfl rfl rfl rfl) (by rfl) (pa_cons (pv 0) (pa_cons (pv 3) pa_nil))))) (pss_one (ps_refuse Z rfl (L2N.takes_of rfl rfl rfl rfl) (by rfl))) pss_nil))))))), ?_⟩
    cases tr with
    | non => exact ⟨.non, rfl, .non, .ty "list", _, _, false, rfl, .ty "list", .base (.non), kit_ty (a := "NoneType") (by decide +kernel), false, rfl, iteT (er rfl)⟩
    | bl b => exact ⟨.bl b, rfl, .bl b, .ty "list", _, _, false, rfl, .ty "list", .base (.bl b), kit_ty (a := "bool") (by decide +kernel), false, rfl, iteT (er rfl)⟩
    | int i => exact ⟨.int i, rfl, .int i, .ty "list", _, _, false, rfl, .ty "list", .base (.int i), kit_ty (a := "int") (by decide +kernel), false, rfl, iteT (er rfl)⟩
    | str z => exact ⟨.str z, rfl, .str z, .ty "list", _, _, false, rfl, .ty "list", .base (.str z), kit_ty (a := "str") (by decide +kernel), false, rfl, iteT (er rfl)⟩
    | tup e k => exact ⟨.ref _, rfl, .ref _, .ty "list", _, _, false, rfl, .ty "list", .base (.tup e), kit_ty (a := "tuple") (by decide +kernel), false, rfl, iteT (er rfl)⟩
    | dict e => exact ⟨.ref _, rfl, .ref _, .ty "list", _, _, false, rfl, .ty "list", .base (.dK e), kit_ty (a := "dict") (by decide +kernel), false, rfl, iteT (er rfl)⟩
    | lst e k =>
      rename_i a us ds
      refine ⟨.ref a, rfl, .ref a, .ty "list", _, _, true, rfl, .ty "list", .base (.lst e), kit_ty (by decide +kernel), true, rfl, iteF ?_⟩
      refine ⟨.ref a, rfl, a, rfl, ⟨_, SqL.of e⟩, for_list (K := K) (a := a) (xs := us) (fun i σ G => ∃ y2 y3, σ = [some (.int t), some (.ref a), y2, y3] ∧ G = H ∧ ∀ d ∈ ds.take i, isRowD t d = true) ⟨_, _, rfl, rfl, fun _ z => absurd z (by simp)⟩ (fun i σ G _ ⟨_, _, _, z, _⟩ => by rw [z]; exact SqL.of e) ?_ ?_⟩
      · rintro i x σ G hx ⟨y2, y3, rfl, rfl, okr⟩
        obtain ⟨d, hd, td⟩ := k.at hx
        have bad : isRowD t d = false → E (.ref C) none G := fun z => er (by
          show ds.all (isRowD t) = false
          exact List.all_eq_false.mpr ⟨d, List.mem_of_getElem? hd, by rw [z]; decide⟩)
        cases td with
        | non => exact ⟨.non, rfl, .non, .ty "list", _, _, false, rfl, .ty "list", .base (.non), kit_ty (a := "NoneType") (by decide +kernel), false, rfl, iteT (bad rfl)⟩
        | bl b => exact ⟨.bl b, rfl, .bl b, .ty "list", _, _, false, rfl, .ty "list", .base (.bl b), kit_ty (a := "bool") (by decide +kernel), false, rfl, iteT (bad rfl)⟩
        | int i => exact ⟨.int i, rfl, .int i, .ty "list", _, _, false, rfl, .ty "list", .base (.int i), kit_ty (a := "int") (by decide +kernel), false, rfl, iteT (bad rfl)⟩
        | str z => exact ⟨.str z, rfl, .str z, .ty "list", _, _, false, rfl, .ty "list", .base (.str z), kit_ty (a := "str") (by decide +kernel), false, rfl, iteT (bad rfl)⟩
        | tup e k => exact ⟨.ref _, rfl, .ref _, .ty "list", _, _, false, rfl, .ty "list", .base (.tup e), kit_ty (a := "tuple") (by decide +kernel), false, rfl, iteT (bad rfl)⟩
        | dict e => exact ⟨.ref _, rfl, .ref _, .ty "list", _, _, false, rfl, .ty "list", .base (.dK e), kit_ty (a := "dict") (by decide +kernel), false, rfl, iteT (bad rfl)⟩
        | lst e2 k2 =>
          rename_i q' ws es
          refine ⟨.ref q', rfl, .ref q', .ty "list", _, _, true, rfl, .ty "list", .base (.lst e2), kit_ty (by decide +kernel), true, rfl, iteF ?_⟩
          refine ⟨.ref q', rfl, q', rfl, ⟨_, SqL.of e2⟩, for_list (K := K) (a := q') (xs := ws) (fun j σ G' => ∃ y3, σ = [some (.int t), some (.ref a), some (.ref q'), y3] ∧ G' = G ∧ ∀ d ∈ es.take j, isPairD t d = true) ⟨_, rfl, rfl, fun _ z => absurd z (by simp)⟩ (fun i σ G' _ ⟨_, _, z, _⟩ => by rw [z]; exact SqL.of e2) ?_ ?_⟩
          · rintro j y σ G' hy ⟨y3, rfl, rfl, okp⟩
            obtain ⟨d2, hd2, td2⟩ := k2.at hy
            refine ⟨.int t, rfl, y, rfl, t, y, d2, rfl, td2, isPairD t d2, rfl, ?_⟩
            cases z : isPairD t d2 with
            | false =>
              refine iteT (bad ?_)
              show es.all (isPairD t) = false
              exact List.all_eq_false.mpr ⟨d2, List.mem_of_getElem? hd2, by rw [z]; decide⟩
            | true =>
              refine iteF ⟨_, rfl, rfl, fun d3 h3 => ?_⟩
              rw [take_snoc hd2] at h3
              rcases List.mem_append.mp h3 with m | m
              · exact okp d3 m
              · rw [List.mem_singleton.mp m]
                exact z
          · rintro σ G' ⟨y3, rfl, rfl, okp⟩
            refine ⟨_, _, rfl, rfl, fun d3 h3 => ?_⟩
            rw [take_snoc hd] at h3
            rcases List.mem_append.mp h3 with m | m
            · exact okr d3 m
            · rw [List.mem_singleton.mp m]
              show es.all (isPairD t) = true
              rw [k2.len, List.take_length] at okp
              exact List.all_eq_true.mpr okp
      · rintro σ G ⟨y2, y3, rfl, rfl, okr⟩
        rw [k.len, List.take_length] at okr
        exact q (List.all_eq_true.mpr okr)
end
end EM
namespace EM
open PySem PySem.Spec PyProof.Rows L2
theorem bad_few {t : Int} (T : TOk t) (h : t ≤ 20) : badT 4 (.int t) = false := by
  have t2 := T.two
  unfold badT
  rw [okT_iff.mpr T]
  show (false || (true && !(decide (0 ≤ t) && decide (t < 21)))) = false
  rw [decide_eq_true (by omega : t < 21), decide_eq_true (by omega : 0 ≤ t)]
  rfl
section
variable {P : Program} {w : World} {K : PySem.W.Frag} {mg : Str → Option Value} {base : Heap} {cT cP cG : Addr}
theorem fn_judgedNo (d : DefAt K mg "judged" t_judged ["teams", "plan"]) (F1 : FnE P w K mg base "check_judged_teams" ["teams"] 3 (spJTE K cT)) (F2 : FnE P w K mg base "check_plan" ["teams", "plan"] 4 (spChkPlanE K cP)) : FnE P w K mg base "judged" ["teams", "plan"] 5 (spAskNo K cT cP cG false) := by
  refine d.fnE scJudged (fun vs H Q E h => ?_) (fun f cdv A outer s H vs Q E hr h => ?_)
  · obtain ⟨vt, v, d, C, rfl, _⟩ := h
    rfl
  · obtain ⟨vt, v, d, C, rfl, kt, tr, sl, no, e⟩ := h
    refine ⟨_, pss_cons (ps_expr (pe_fE F1 hr (by decide) (L2N.takes_of rfl rfl rfl rfl) (by rfl) (pa_cons (pv 0) pa_nil))) (pss_cons (ps_expr (pe_fE F2 hr (by decide) (L2N.takes_of rfl rfl rfl rfl) (by rfl) (pa_cons (pv 0) (pa_cons (pv 1) pa_nil)))) pss_never), ?_⟩
    rcases no with ⟨bad, rfl⟩ | ⟨t, rfl, T, t20, no⟩
    · exact ⟨vt, rfl, vt, rfl, kt, fun z => Bool.noConfusion (bad.symm.trans z), fun _ => e H (Same.refl H)⟩
    · rcases no with ⟨np, rfl⟩ | ⟨z, _⟩
      · exact ⟨.int t, rfl, .int t, rfl, kt, fun _ => ⟨.int t, rfl, v, rfl, t, v, d, rfl, tr, fun z => Bool.noConfusion (np.symm.trans z), fun _ => e H (Same.refl H)⟩, fun z => Bool.noConfusion ((bad_few T t20).symm.trans z)⟩
      · cases z
theorem fn_brksNo {c : Cs} (d : DefAt K mg "breaks" t_breaks ["teams", "plan"]) (N : Names mg) (mG : mg "Good" = some (.ref c.g)) (ins : ∀ A : Ans, InsC K (c.of A)) (kit : ∀ A : Ans, PySem.W.kitOne K (.ref (c.of A)) (.ref c.g) = some (isGoodA A)) (ZG : ErrC K mg "NotGood" cG)
    (Fj : Fn P w K mg base "judged" ["teams", "plan"] 5 (spJudged c)) (FjE : FnE P w K mg base "judged" ["teams", "plan"] 5 (spAskNo K cT cP cG false)) : FnE P w K mg base "breaks" ["teams", "plan"] 6 (spAskNo K cT cP cG true) := by
  refine d.fnE scBrks (fun vs H Q E h => ?_) (fun f cdv A0 outer s H vs Q E hr h => ?_)
  · obtain ⟨vt, v, d, C, rfl, _⟩ := h
    rfl
  · obtain ⟨vt, v, d, C, rfl, kt, tr, sl, no, e⟩ := h
    refine ⟨_, pss_cons (ps_if (pt_not (pt_val (pe_callB call_isi (by rfl) N.isinst boot_isinstance (pa_cons (pe_either (pe_fE FjE hr (by decide) (L2N.takes_of rfl rfl rfl rfl) (by rfl) (pa_cons (pv 0) (pa_cons (pv 1) pa_nil))) (pe_fE Fj.toE hr (by decide) (L2N.takes_of rfl rfl rfl rfl) (by rfl) (pa_cons (pv 0) (pa_cons (pv 1) pa_nil)))) (pa_cons (pe_glob (v := .ref c.g) (by rfl) mG rfl) pa_nil))))) (pss_one (ps_refuse ZG rfl (L2N.takes_of rfl rfl rfl rfl) (by rfl))) pss_nil) pss_never, ?_⟩
    rcases no with ⟨bad, rfl⟩ | ⟨t, rfl, T, t20, no⟩
    · exact .inl ⟨vt, rfl, v, rfl, vt, v, d, C, rfl, kt, tr, sl, .inl ⟨bad, rfl⟩, e⟩
    · rcases no with ⟨np, rfl⟩ | ⟨_, ok, ng, rfl⟩
      · exact .inl ⟨.int t, rfl, v, rfl, .int t, v, d, C, rfl, kt, tr, sl, .inr ⟨t, rfl, T, t20, .inl ⟨np, rfl⟩⟩, e⟩
      · obtain ⟨hP, hv⟩ := plan_of_tr tr ok
        refine .inr ⟨.int t, rfl, v, rfl, t, v, rowsD d, rfl, T, t20, hP, hv, slim_sized sl, fun G x A s1 nx ax sh => ?_⟩
        have isg : isGoodA A = false := (shows_good T.two hv sh).symm.trans ng
        obtain ⟨dx, fs, ex, _⟩ := ax
        refine ⟨.ref x, .ref c.g, _, _, false, rfl, .own c.g, (ins A).ty ex, (kit A).trans (by rw [isg]), false, rfl, iteT (e G s1)⟩
end
end EM
namespace EM
open PySem PySem.Spec PyProof.Rows L2
abbrev p12D (few far : Int) : PyData := .list [.none, .tuple [], .str "01", .dict [], .int 5, .list [.none], .list [.tuple []], .list [.tuple [.tuple [.int 0, .int 1]]], .list [.list [.none]], .list [.list [.tuple [.int 0]]], .list [.list [.tuple [.int 0, .int 1, .int 1]]], .list [.list [.list [.int 0, .int 1]]]]
abbrev p6D (few far : Int) : PyData := .list [.list [.list [.tuple [.int 0, .int 0]]], .list [.list [.tuple [.int 0, .int few]]], .list [.list [.tuple [.int (-1), .int 0]]], .list [.list [.tuple [.int 0, .bool true]]], .list [.list [.tuple [.str "0", .int 1]]], .list [.list [.tuple [.int 0, .int 1]], .int 5]]
abbrev p4D (few far : Int) : PyData := .list [.list [.list [.tuple [.int 0, .int 1]], .list [.tuple [.int 1, .int (few + far)]]], .list [.list [.tuple [.int 1, .int (-1 - far)]]], .list [.list [.tuple [.int 0, .none]]], .list [.list [], .list [.tuple [.int 1, .int 1]]]]
abbrev g3D (few far : Int) : PyData := .list [.list [], .list [.list []], .list [.list [.tuple [.int 0, .int 1]], .list [.tuple [.int 1, .int 0]]]]
abbrev p12L (few far : Int) : List PyData := [.none, .tuple [], .str "01", .dict [], .int 5, .list [.none], .list [.tuple []], .list [.tuple [.tuple [.int 0, .int 1]]], .list [.list [.none]], .list [.list [.tuple [.int 0]]], .list [.list [.tuple [.int 0, .int 1, .int 1]]], .list [.list [.list [.int 0, .int 1]]]]
abbrev p6L (few far : Int) : List PyData := [.list [.list [.tuple [.int 0, .int 0]]], .list [.list [.tuple [.int 0, .int few]]], .list [.list [.tuple [.int (-1), .int 0]]], .list [.list [.tuple [.int 0, .bool true]]], .list [.list [.tuple [.str "0", .int 1]]], .list [.list [.tuple [.int 0, .int 1]], .int 5]]
abbrev p4L (few far : Int) : List PyData := [.list [.list [.tuple [.int 0, .int 1]], .list [.tuple [.int 1, .int (few + far)]]], .list [.list [.tuple [.int 1, .int (-1 - far)]]], .list [.list [.tuple [.int 0, .none]]], .list [.list [], .list [.tuple [.int 1, .int 1]]]]
abbrev g3L (few far : Int) : List PyData := [.list [], .list [.list []], .list [.list [.tuple [.int 0, .int 1]], .list [.tuple [.int 1, .int 0]]]]
abbrev badPlans (few far : Int) : List PyData := [.none, .tuple [], .str "01", .dict [], .int 5, .list [.none], .list [.tuple []], .list [.tuple [.tuple [.int 0, .int 1]]], .list [.list [.none]], .list [.list [.tuple [.int 0]]], .list [.list [.tuple [.int 0, .int 1, .int 1]]], .list [.list [.list [.int 0, .int 1]]], .list [.list [.tuple [.int 0, .int 0]]], .list [.list [.tuple [.int 0, .int few]]], .list [.list [.tuple [.int (-1), .int 0]]], .list [.list [.tuple [.int 0, .bool true]]], .list [.list [.tuple [.str "0", .int 1]]], .list [.list [.tuple [.int 0, .int 1]], .int 5], .list [.list [.tuple [.int 0, .int 1]], .list [.tuple [.int 1, .int (few + far)]]], .list [.list [.tuple [.int 1, .int (-1 - far)]]], .list [.list [.tuple [.int 0, .none]]], .list [.list [], .list [.tuple [.int 1, .int 1]]]]
theorem p12 {far few : Int} {σ : L2.St} (h1 : σ[1]? = some (some (.int far))) (h9 : σ[9]? = some (some (.int few))) : Gives (tLst (tCons (tC .non) (tCons (tTup (tNil)) (tCons (tC (.str "01")) (tCons (tDNewK) (tCons (tC (.int 5)) (tCons (tLst (tCons (tC .non) tNil)) (tCons (tLst (tCons (tTup (tNil)) tNil)) (tCons (tLst (tCons (tTup (tCons (tTup (tCons (tC (.int 0)) (tCons (tC (.int 1)) tNil))) tNil)) tNil)) (tCons (tLst (tCons (tLst (tCons (tC .non) tNil)) tNil)) (tCons (tLst (tCons (tLst (tCons (tTup (tCons (tC (.int 0)) tNil)) tNil)) tNil)) (tCons (tLst (tCons (tLst (tCons (tTup (tCons (tC (.int 0)) (tCons (tC (.int 1)) (tCons (tC (.int 1)) tNil)))) tNil)) tNil)) (tCons (tLst (tCons (tLst (tCons (tLst (tCons (tC (.int 0)) (tCons (tC (.int 1)) tNil))) tNil)) tNil)) tNil))))))))))))) σ (p12D few far) :=
  (gives_lst (gives_cons gives_non (gives_cons (gives_tup gives_nil (Nat.le_of_ble_eq_true rfl)) (gives_cons gives_str (gives_cons gives_dict (gives_cons gives_int (gives_cons (gives_lst (gives_cons gives_non gives_nil) (Nat.le_of_ble_eq_true rfl)) (gives_cons (gives_lst (gives_cons (gives_tup gives_nil (Nat.le_of_ble_eq_true rfl)) gives_nil) (Nat.le_of_ble_eq_true rfl)) (gives_cons (gives_lst (gives_cons (gives_tup (gives_cons (gives_tup (gives_cons gives_int (gives_cons gives_int gives_nil)) (Nat.le_of_ble_eq_true rfl)) gives_nil) (Nat.le_of_ble_eq_true rfl)) gives_nil) (Nat.le_of_ble_eq_true rfl)) (gives_cons (gives_lst (gives_cons (gives_lst (gives_cons gives_non gives_nil) (Nat.le_of_ble_eq_true rfl)) gives_nil) (Nat.le_of_ble_eq_true rfl)) (gives_cons (gives_lst (gives_cons (gives_lst (gives_cons (gives_tup (gives_cons gives_int gives_nil) (Nat.le_of_ble_eq_true rfl)) gives_nil) (Nat.le_of_ble_eq_true rfl)) gives_nil) (Nat.le_of_ble_eq_true rfl)) (gives_cons (gives_lst (gives_cons (gives_lst (gives_cons (gives_tup (gives_cons gives_int (gives_cons gives_int (gives_cons gives_int gives_nil))) (Nat.le_of_ble_eq_true rfl)) gives_nil) (Nat.le_of_ble_eq_true rfl)) gives_nil) (Nat.le_of_ble_eq_true rfl)) (gives_cons (gives_lst (gives_cons (gives_lst (gives_cons (gives_lst (gives_cons gives_int (gives_cons gives_int gives_nil)) (Nat.le_of_ble_eq_true rfl)) gives_nil) (Nat.le_of_ble_eq_true rfl)) gives_nil) (Nat.le_of_ble_eq_true rfl)) gives_nil)))))))))))) (Nat.le_of_ble_eq_true rfl))
theorem p6 {far few : Int} {σ : L2.St} (h1 : σ[1]? = some (some (.int far))) (h9 : σ[9]? = some (some (.int few))) : Gives (tLst (tCons (tLst (tCons (tLst (tCons (tTup (tCons (tC (.int 0)) (tCons (tC (.int 0)) tNil))) tNil)) tNil)) (tCons (tLst (tCons (tLst (tCons (tTup (tCons (tC (.int 0)) (tCons (tVar 9) tNil))) tNil)) tNil)) (tCons (tLst (tCons (tLst (tCons (tTup (tCons (tUn (rU fun i => .int (-i)) (tC (.int 1))) (tCons (tC (.int 0)) tNil))) tNil)) tNil)) (tCons (tLst (tCons (tLst (tCons (tTup (tCons (tC (.int 0)) (tCons (tC (.bl true)) tNil))) tNil)) tNil)) (tCons (tLst (tCons (tLst (tCons (tTup (tCons (tC (.str "0")) (tCons (tC (.int 1)) tNil))) tNil)) tNil)) (tCons (tLst (tCons (tLst (tCons (tTup (tCons (tC (.int 0)) (tCons (tC (.int 1)) tNil))) tNil)) (tCons (tC (.int 5)) tNil))) tNil))))))) σ (p6D few far) :=
  (gives_lst (gives_cons (gives_lst (gives_cons (gives_lst (gives_cons (gives_tup (gives_cons gives_int (gives_cons gives_int gives_nil)) (Nat.le_of_ble_eq_true rfl)) gives_nil) (Nat.le_of_ble_eq_true rfl)) gives_nil) (Nat.le_of_ble_eq_true rfl)) (gives_cons (gives_lst (gives_cons (gives_lst (gives_cons (gives_tup (gives_cons gives_int (gives_cons (gives_num fun H Q q => ⟨.int few, h9, q⟩) gives_nil)) (Nat.le_of_ble_eq_true rfl)) gives_nil) (Nat.le_of_ble_eq_true rfl)) gives_nil) (Nat.le_of_ble_eq_true rfl)) (gives_cons (gives_lst (gives_cons (gives_lst (gives_cons (gives_tup (gives_cons (gives_num fun H Q q => ⟨1, rfl, q⟩) (gives_cons gives_int gives_nil)) (Nat.le_of_ble_eq_true rfl)) gives_nil) (Nat.le_of_ble_eq_true rfl)) gives_nil) (Nat.le_of_ble_eq_true rfl)) (gives_cons (gives_lst (gives_cons (gives_lst (gives_cons (gives_tup (gives_cons gives_int (gives_cons gives_bl gives_nil)) (Nat.le_of_ble_eq_true rfl)) gives_nil) (Nat.le_of_ble_eq_true rfl)) gives_nil) (Nat.le_of_ble_eq_true rfl)) (gives_cons (gives_lst (gives_cons (gives_lst (gives_cons (gives_tup (gives_cons gives_str (gives_cons gives_int gives_nil)) (Nat.le_of_ble_eq_true rfl)) gives_nil) (Nat.le_of_ble_eq_true rfl)) gives_nil) (Nat.le_of_ble_eq_true rfl)) (gives_cons (gives_lst (gives_cons (gives_lst (gives_cons (gives_tup (gives_cons gives_int (gives_cons gives_int gives_nil)) (Nat.le_of_ble_eq_true rfl)) gives_nil) (Nat.le_of_ble_eq_true rfl)) (gives_cons gives_int gives_nil)) (Nat.le_of_ble_eq_true rfl)) gives_nil)))))) (Nat.le_of_ble_eq_true rfl))
theorem p4 {far few : Int} {σ : L2.St} (h1 : σ[1]? = some (some (.int far))) (h9 : σ[9]? = some (some (.int few))) : Gives (tLst (tCons (tLst (tCons (tLst (tCons (tTup (tCons (tC (.int 0)) (tCons (tC (.int 1)) tNil))) tNil)) (tCons (tLst (tCons (tTup (tCons (tC (.int 1)) (tCons (tOp (rI0 fun i j => .int (i + j)) (tVar 9) (tVar 1)) tNil))) tNil)) tNil))) (tCons (tLst (tCons (tLst (tCons (tTup (tCons (tC (.int 1)) (tCons (tOp (rI0 fun i j => .int (i - j)) (tUn (rU fun i => .int (-i)) (tC (.int 1))) (tVar 1)) tNil))) tNil)) tNil)) (tCons (tLst (tCons (tLst (tCons (tTup (tCons (tC (.int 0)) (tCons (tC .non) tNil))) tNil)) tNil)) (tCons (tLst (tCons (tLst (tNil)) (tCons (tLst (tCons (tTup (tCons (tC (.int 1)) (tCons (tC (.int 1)) tNil))) tNil)) tNil))) tNil))))) σ (p4D few far) :=
  (gives_lst (gives_cons (gives_lst (gives_cons (gives_lst (gives_cons (gives_tup (gives_cons gives_int (gives_cons gives_int gives_nil)) (Nat.le_of_ble_eq_true rfl)) gives_nil) (Nat.le_of_ble_eq_true rfl)) (gives_cons (gives_lst (gives_cons (gives_tup (gives_cons gives_int (gives_cons (gives_num fun H Q q => ⟨.int few, h9, .int far, h1, few, far, rfl, rfl, q⟩) gives_nil)) (Nat.le_of_ble_eq_true rfl)) gives_nil) (Nat.le_of_ble_eq_true rfl)) gives_nil)) (Nat.le_of_ble_eq_true rfl)) (gives_cons (gives_lst (gives_cons (gives_lst (gives_cons (gives_tup (gives_cons gives_int (gives_cons (gives_num fun H Q q => ⟨1, rfl, .int far, h1, -1, far, rfl, rfl, q⟩) gives_nil)) (Nat.le_of_ble_eq_true rfl)) gives_nil) (Nat.le_of_ble_eq_true rfl)) gives_nil) (Nat.le_of_ble_eq_true rfl)) (gives_cons (gives_lst (gives_cons (gives_lst (gives_cons (gives_tup (gives_cons gives_int (gives_cons gives_non gives_nil)) (Nat.le_of_ble_eq_true rfl)) gives_nil) (Nat.le_of_ble_eq_true rfl)) gives_nil) (Nat.le_of_ble_eq_true rfl)) (gives_cons (gives_lst (gives_cons (gives_lst gives_nil (Nat.le_of_ble_eq_true rfl)) (gives_cons (gives_lst (gives_cons (gives_tup (gives_cons gives_int (gives_cons gives_int gives_nil)) (Nat.le_of_ble_eq_true rfl)) gives_nil) (Nat.le_of_ble_eq_true rfl)) gives_nil)) (Nat.le_of_ble_eq_true rfl)) gives_nil)))) (Nat.le_of_ble_eq_true rfl))
theorem g3 {far few : Int} {σ : L2.St} (h1 : σ[1]? = some (some (.int far))) (h9 : σ[9]? = some (some (.int few))) : Gives (tLst (tCons (tLst (tNil)) (tCons (tLst (tCons (tLst (tNil)) tNil)) (tCons (tLst (tCons (tLst (tCons (tTup (tCons (tC (.int 0)) (tCons (tC (.int 1)) tNil))) tNil)) (tCons (tLst (tCons (tTup (tCons (tC (.int 1)) (tCons (tC (.int 0)) tNil))) tNil)) tNil))) tNil)))) σ (g3D few far) :=
  (gives_lst (gives_cons (gives_lst gives_nil (Nat.le_of_ble_eq_true rfl)) (gives_cons (gives_lst (gives_cons (gives_lst gives_nil (Nat.le_of_ble_eq_true rfl)) gives_nil) (Nat.le_of_ble_eq_true rfl)) (gives_cons (gives_lst (gives_cons (gives_lst (gives_cons (gives_tup (gives_cons gives_int (gives_cons gives_int gives_nil)) (Nat.le_of_ble_eq_true rfl)) gives_nil) (Nat.le_of_ble_eq_true rfl)) (gives_cons (gives_lst (gives_cons (gives_tup (gives_cons gives_int (gives_cons gives_int gives_nil)) (Nat.le_of_ble_eq_true rfl)) gives_nil) (Nat.le_of_ble_eq_true rfl)) gives_nil)) (Nat.le_of_ble_eq_true rfl)) gives_nil))) (Nat.le_of_ble_eq_true rfl))
theorem bad_not {few far : Int} (f2 : 2 ≤ few) (f0 : 0 ≤ far) : ∀ d ∈ badPlans few far, isPlanD few d = false ∧ slimD d = true := by
  intro d hd
  simp only [badPlans, List.mem_cons, List.not_mem_nil, or_false] at hd
  rcases hd with rfl | rfl | rfl | rfl | rfl | rfl | rfl | rfl | rfl | rfl | rfl | rfl | rfl | rfl | rfl | rfl | rfl | rfl | rfl | rfl | rfl | rfl <;>
    first
    | exact ⟨rfl, rfl⟩
    | (refine ⟨?_, rfl⟩
       simp only [isPlanD, isRowD, isPairD, List.all_cons, List.all_nil, Bool.and_true, Bool.and_eq_false_iff, decide_eq_false_iff_not]
       omega)
    | (refine ⟨?_, rfl⟩
       simp [isPlanD, isRowD, isPairD]
       done)
    | (refine ⟨?_, rfl⟩
       simp [isPlanD, isRowD, isPairD]
       omega)
theorem few_goods : ∀ i : Nat, i < 10 → ((i = 0 ∨ goodB (2 + (i : Int) * 2) ((planOf (2 + (i : Int) * 2) (2 + (i : Int) * 2 - 1).toNat).drop 1) = false) ∧ goodB (2 + (i : Int) * 2) [] = false ∧ goodB (2 + (i : Int) * 2) [[]] = false ∧ goodB (2 + (i : Int) * 2) [[(0, 1)], [(1, 0)]] = false) := by
  decide +kernel
theorem few_good {few : Int} (T : TOk few) (h : few ≤ 20) : (few = 2 ∨ goodB few ((planOf few (few - 1).toNat).drop 1) = false) ∧ goodB few [] = false ∧ goodB few [[]] = false ∧ goodB few [[(0, 1)], [(1, 0)]] = false := by
  have t2 := T.two
  have te := T.even
  have e : few = 2 + (((few - 2) / 2).toNat : Int) * 2 := by omega
  have z := few_goods ((few - 2) / 2).toNat (by omega)
  rw [← e] at z
  exact ⟨z.1.imp (fun q => by omega) id, z.2⟩
theorem g3_not {few far : Int} (T : TOk few) (h : few ≤ 20) : ∀ d ∈ g3L few far, isPlanD few d = true ∧ goodB few (rowsD d) = false ∧ slimD d = true := by
  intro d hd
  have t2 := T.two
  obtain ⟨_, g1, g2, g3⟩ := few_good T h
  simp only [g3L, List.mem_cons, List.not_mem_nil, or_false] at hd
  rcases hd with rfl | rfl | rfl
  · exact ⟨rfl, g1, rfl⟩
  · exact ⟨rfl, g2, rfl⟩
  · refine ⟨?_, g3, rfl⟩
    simp [isPlanD, isRowD, isPairD]
    omega
end EM
namespace EM
open PySem PySem.Spec PyProof.Rows L2
theorem scCell : FnScope ["_law_script", "_law_k"] ["_law_script", "_law_k"] (defScope t__law_cell_at) := ⟨rfl, rfl, rfl, by decide +kernel, rfl, by decide +kernel, by decide +kernel⟩
theorem scDraw : FnScope ["_law_cell", "_law_k", "_law_many", "_law_primes"] ["_law_cell", "_law_k", "_law_many"] (defScope t__law_draw) := ⟨rfl, rfl, rfl, by decide +kernel, rfl, by decide +kernel, by decide +kernel⟩
theorem scValue : FnScope ["_law_cell", "_law_k", "_law_limit"] ["_law_cell", "_law_k", "_law_limit"] (defScope t__law_value) := ⟨rfl, rfl, rfl, by decide +kernel, rfl, by decide +kernel, by decide +kernel⟩
section
variable {P : Program} {w : World} {K : PySem.W.Frag} {mg : Str → Option Value} {base : Heap}
/-! ### a cell of the script -/
def spCell (K : PySem.W.Frag) : Sp := fun vs H Q _ => ∃ (a : Addr) (ns : List Int) (k : Int), vs = [.ref a, .int k] ∧ SqL K H a (ns.map V.int) ∧ 0 ≤ k ∧ ∀ c : Int, (c = 0 ∨ c ∈ ns) → Q (.int c) H
theorem fn_cell (d : DefAt K mg "_law_cell_at" t__law_cell_at ["_law_script", "_law_k"]) (T : Names mg) : Fn P w K mg base "_law_cell_at" ["_law_script", "_law_k"] 1 (spCell K) := by
  refine d.fn scCell (fun vs H Q E h => ?_) (fun f cdv A outer s H vs Q E hr h => ?_)
  · obtain ⟨a, ns, k, rfl, _⟩ := h
    rfl
  · obtain ⟨a, ns, k, rfl, hS, k0, q⟩ := h
    refine ⟨_, pss_cons (ps_if (pt_cmpR op_lt (pv 1) (pe_callB call_len_seq (by rfl) T.len PySem.boot_len (pa_cons (pv 0) pa_nil)) (nomark _)) (pss_one (ps_ret (pe_ix ix_list (pv 0) (pv 1) (fun _ _ => rfl)))) pss_nil) (pss_one (ps_ret pe_int)), ?_⟩
    refine ⟨.int k, rfl, .ref a, rfl, a, _, rfl, .inl hS, k, _, rfl, rfl, _, rfl, ite2 (fun e => ?_) (fun e => ?_)⟩
    · have e := of_decide_eq_true e
      rw [List.length_map] at e
      obtain ⟨j, rfl⟩ : ∃ j : Nat, k = (j : Int) := ⟨k.toNat, by omega⟩
      have hj : j < ns.length := by omega
      refine ⟨.ref a, rfl, .int (j : Int), rfl, a, _, _, .int ns[j], rfl, rfl, hS, atI_nat ?_, q _ (.inr (List.getElem_mem hj))⟩
      rw [List.getElem?_map, List.getElem?_eq_getElem hj]
      rfl
    · exact q 0 (.inl rfl)
/-! ### a drawn number -/
def spDraw : Sp := fun vs H Q _ => ∃ c k m : Int, vs = [.int c, .int k, .int m] ∧ 0 < m ∧ ∀ (v : Int) (H' : Hp), 0 ≤ v → v < m → Same H H' → Q (.int v) H'
theorem fn_draw (d : DefAt K mg "_law_draw" t__law_draw ["_law_cell", "_law_k", "_law_many"]) : Fn P w K mg base "_law_draw" ["_law_cell", "_law_k", "_law_many"] 1 spDraw := by
  refine d.fn scDraw (fun vs H Q E h => ?_) (fun f cdv A outer s H vs Q E hr h => ?_)
  · obtain ⟨c, k, m, rfl, _⟩ := h
    rfl
  · obtain ⟨c, k, m, rfl, m0, q⟩ := h
    refine ⟨_, pss_cons (ps_set (i := 3) scDraw.nd rfl (.inl rfl) (pe_tup (pa_cons pe_int (pa_cons pe_int (pa_cons pe_int (pa_cons pe_int (pa_cons pe_int (pa_cons pe_int (pa_cons pe_int (pa_cons pe_int
        (pa_cons pe_int (pa_cons pe_int (pa_cons pe_int (pa_cons pe_int (pa_cons pe_int (pa_cons pe_int (pa_cons pe_int (pa_cons pe_int pa_nil))))))))))))))))))
      (pss_one (ps_ret (pe_op op_mod (pe_op op_mod (pe_op op_add (pe_op op_mul (pv 0) pe_int) (pe_op op_mul (pv 1) pe_int)) (pe_ix ix_tup (pv 3) (pe_op op_mod (pv 1) pe_int) (fun _ _ => rfl))) (pv 2)))), ?_⟩
    refine ⟨by show 16 ≤ sizeLine; decide, fun p np => ?_⟩
    have x0 : 0 ≤ k % 16 := Int.emod_nonneg _ (by decide)
    have x1 : k % 16 < 16 := Int.emod_lt_of_pos _ (by decide)
    refine ⟨.int c, rfl, c, _, rfl, rfl, .inr ⟨by decide, by decide⟩, .int k, rfl, k, _, rfl, rfl, .inr ⟨by decide, by decide⟩, _, _, rfl, rfl, ?_⟩
    obtain ⟨z, hz, z0, _⟩ := pickI (b := 2000000) (i := k % 16) (xs := [.int 1000003, .int 1000033, .int 1000037, .int 1000039, .int 1000081, .int 1000099, .int 1000117, .int 1000121,
      .int 1000133, .int 1000151, .int 1000159, .int 1000171, .int 1000183, .int 1000187, .int 1000193, .int 1000199]) (by decide) x0 x1
    refine ⟨.ref p, rfl, .int k, rfl, k, 16, rfl, rfl, (by show (0 : Int) < 16; decide), p, _, k % 16, .int z, rfl, rfl, .inl (.inl upd_same), hz, ?_⟩
    refine ⟨_, z, rfl, rfl, z0, .int m, rfl, _, m, rfl, rfl, m0, ?_⟩
    exact q _ _ (Int.emod_nonneg _ (by omega)) (Int.emod_lt_of_pos _ m0) (same_upd np)
/-! ### a value: to forty figures -/
def spValue : Sp := fun vs H Q _ => ∃ c k : Int, vs = [.int c, .int k, .int 900000] ∧ bits20 c ∧ 0 ≤ k ∧ k ≤ 100 ∧ ∀ (v : Int) (H' : Hp), 0 ≤ v → v < 10 ^ 40 → Same H H' → Q (.int v) H'
theorem sum_bits {c e : Int} (hc : bits20 c) (e0 : 0 ≤ e) (e1 : e ≤ 1000000) : (c + e).natAbs.log2 < 2000000 := by
  unfold bits20 at hc
  have h1 : c.natAbs < 2 ^ 1048577 := by
    have := Nat.lt_log2_self (n := c.natAbs)
    exact Nat.lt_of_lt_of_le this (Nat.pow_le_pow_right (by decide) (by omega))
  have h2 : e.natAbs < 2 ^ 1048577 := by
    have : (1000000 : Nat) < 2 ^ 20 := by decide
    exact Nat.lt_of_lt_of_le (show e.natAbs < 2 ^ 20 by omega) (Nat.pow_le_pow_right (by decide) (by decide))
  have h3 : (c + e).natAbs < 2 ^ 1048578 := by
    have p : (2 : Nat) ^ 1048578 = 2 * 2 ^ 1048577 := by rw [show (1048578 : Nat) = 1048577 + 1 from rfl, Nat.pow_succ, Nat.mul_comm]
    rw [p]
    generalize (2 : Nat) ^ 1048577 = z at *
    omega
  have := PySem.Flt.log2_lt_of (by decide) h3
  omega
theorem fn_value (d : DefAt K mg "_law_value" t__law_value ["_law_cell", "_law_k", "_law_limit"]) (F : Fn P w K mg base "_law_draw" ["_law_cell", "_law_k", "_law_many"] 1 spDraw) : Fn P w K mg base "_law_value" ["_law_cell", "_law_k", "_law_limit"] 2 spValue := by
  refine d.fn scValue (fun vs H Q E h => ?_) (fun f cdv A outer s H vs Q E hr h => ?_)
  · obtain ⟨c, k, rfl, _⟩ := h
    rfl
  · obtain ⟨c, k, rfl, hc, k0, k1, q⟩ := h
    refine ⟨_, pss_cons (ps_if (pt_cmpR op_ge (pv 0) (pe_op op_pow pe_int pe_int) (nomark _)) (pss_one (ps_ret (pe_op op_mod (pe_op op_fdiv (pe_op op_sub (pv 0) (pe_op op_pow pe_int pe_int))
        (pe_ix ix_tup (pe_tup (pa_cons pe_int (pa_cons pe_int (pa_cons pe_int (pa_cons pe_int pa_nil))))) (pe_op op_mod (pv 1) pe_int) (fun _ _ => rfl))) (pe_op op_pow pe_int pe_int)))) pss_nil)
      (pss_one (ps_ret (pe_f F hr (by decide) (by rfl) (pa_cons (pe_op op_mulH (pe_op op_add (pv 0) (pe_op op_mul pe_int (pv 1))) (pe_op op_add (pe_op op_add (pv 0) (pe_op op_mul pe_int (pv 1))) pe_int))
        (pa_cons (pe_op op_add (pe_op op_mod (pv 1) pe_int) pe_int) (pa_cons (pv 2) pa_nil)))))), ?_⟩
    refine ⟨.int c, rfl, 10, 18, rfl, rfl, ⟨by decide, by decide, by decide⟩, c, _, rfl, rfl, _, rfl, ite2 (fun e => ?_) (fun e => ?_)⟩
    · refine ⟨.int c, rfl, 10, 18, rfl, rfl, ⟨by decide, by decide, by decide⟩, c, _, rfl, rfl, by show 4 ≤ sizeLine; decide, fun p np => ?_⟩
      have x0 : 0 ≤ k % 4 := Int.emod_nonneg _ (by decide)
      have x1 : k % 4 < 4 := Int.emod_lt_of_pos _ (by decide)
      obtain ⟨z, hz, z0, z1⟩ := pickI (b := 1000) (i := k % 4) (xs := [.int 1, .int 7, .int 49, .int 343]) (by decide) x0 x1
      refine ⟨.int k, rfl, k, 4, rfl, rfl, (by show (0 : Int) < 4; decide), p, _, k % 4, .int z, rfl, rfl, .inl (.inl upd_same), hz, ?_⟩
      refine ⟨_, z, rfl, rfl, ⟨z0, by omega⟩, 10, 40, rfl, rfl, ⟨by decide, by decide, by decide⟩, _, _, rfl, rfl, (by show (0 : Int) < (10 : Int) ^ (40 : Int).toNat; decide), ?_⟩
      exact q _ _ (Int.emod_nonneg _ (by decide)) (Int.emod_lt_of_pos _ (by decide)) (same_upd np)
    · refine ⟨.int c, rfl, .int k, rfl, 977, k, rfl, rfl, .inl ⟨by decide, by decide⟩, c, 977 * k, rfl, rfl, .int c, rfl, .int k, rfl, 31, k, rfl, rfl, .inl ⟨by decide, by decide⟩, c, 31 * k, rfl, rfl, c + 31 * k, 5, rfl, rfl, c + 977 * k, c + 31 * k + 5, rfl, rfl, ?_,
        .int k, rfl, k, 9, rfl, rfl, (by show (0 : Int) < 9; decide), k % 9, 1, rfl, rfl, .int 900000, rfl, _, _, 900000, rfl, by decide, fun v H' v0 v1 sm => ?_⟩
      · have h1 := sum_bits (e := 977 * k) hc (by omega) (by omega)
        have h2 := sum_bits (e := 31 * k + 5) hc (by omega) (by omega)
        rw [← Int.add_assoc] at h2
        show _ + _ < 100000000
        omega
      · exact q v H' v0 (Int.lt_of_lt_of_le v1 (by decide)) sm
end
end EM
namespace EM
open PySem PySem.Spec PyProof.Rows L2
theorem scTeams : FnScope ["_law_script", "_law_k", "_law_drawn"] ["_law_script", "_law_k"] (defScope t__law_teams) := ⟨rfl, rfl, rfl, by decide +kernel, rfl, by decide +kernel, by decide +kernel⟩
section
variable {P : Program} {w : World} {K : PySem.W.Frag} {mg : Str → Option Value} {base : Heap}
/-! ### a count of teams -/
def spCount (K : PySem.W.Frag) : Sp := fun vs H Q _ => ∃ (a : Addr) (ns : List Int) (k : Int), vs = [.ref a, .int k] ∧ SqL K H a (ns.map V.int) ∧ (∀ n ∈ ns, bits20 n) ∧ 0 ≤ k ∧ k ≤ 90 ∧ ∀ (t : Int) (H' : Hp), TOk t → t ≤ 2 + 2 * 10 ^ 40 → Same H H' → Q (.int t) H'
theorem fn_teams (d : DefAt K mg "_law_teams" t__law_teams ["_law_script", "_law_k"]) (F1 : Fn P w K mg base "_law_cell_at" ["_law_script", "_law_k"] 1 (spCell K)) (F2 : Fn P w K mg base "_law_draw" ["_law_cell", "_law_k", "_law_many"] 1 spDraw)
    (F3 : Fn P w K mg base "_law_value" ["_law_cell", "_law_k", "_law_limit"] 2 spValue) : Fn P w K mg base "_law_teams" ["_law_script", "_law_k"] 3 (spCount K) := by
  refine d.fn scTeams (fun vs H Q E h => ?_) (fun f cdv A outer s H vs Q E hr h => ?_)
  · obtain ⟨a, ns, k, rfl, _⟩ := h
    rfl
  · obtain ⟨a, ns, k, rfl, hS, hb, k0, k1, q⟩ := h
    refine ⟨_, pss_cons (ps_set (i := 2) scTeams.nd rfl (.inl rfl) (pe_f F3 hr (by decide) (by rfl) (pa_cons (pe_f F1 hr (by decide) (by rfl) (pa_cons (pv 0) (pa_cons (pv 1) pa_nil))) (pa_cons (pe_op op_add (pv 1) pe_int) (pa_cons pe_int pa_nil)))))
      (pss_one (ps_ret (pe_op op_add pe_int (pe_op op_mul pe_int (pe_op op_mod (pv 2) (pe_ix ix_tup (pe_tup (pa_cons pe_int (pa_cons pe_int (pa_cons pe_int (pa_cons (pe_op op_pow pe_int pe_int) pa_nil)))))
        (pe_f F2 hr (by decide) (by rfl) (pa_cons (pe_op op_add (pe_op op_mod (pe_f F1 hr (by decide) (by rfl) (pa_cons (pv 0) (pa_cons (pv 1) pa_nil))) (pe_op op_pow pe_int pe_int)) (pe_op op_mul pe_int (pv 1))) (pa_cons pe_int (pa_cons pe_int pa_nil)))) (fun _ _ => rfl))))))), ?_⟩
    refine ⟨.ref a, rfl, .int k, rfl, a, ns, k, rfl, hS, k0, fun c hc => ?_⟩
    have cb : bits20 c := by
      rcases hc with rfl | hc
      · show (0 : Int).natAbs.log2 ≤ _
        decide
      · exact hb c hc
    refine ⟨.int k, rfl, k, 2, rfl, rfl, c, k + 2, rfl, cb, by omega, by omega, fun v H1 v0 v1 s1 => ?_⟩
    refine ⟨.int v, rfl, 10, 40, rfl, rfl, ⟨by decide, by decide, by decide⟩, by show 4 ≤ sizeLine; decide, fun p np => ?_⟩
    have s2 := s1.trans (same_upd (o := .tup [.int 4, .int 15, .int 900, .int ((10 : Int) ^ (40 : Int).toNat)]) np)
    refine ⟨.ref a, rfl, .int k, rfl, a, ns, k, rfl, s2.seq hS, k0, fun c2 _ => ?_⟩
    refine ⟨10, 18, rfl, rfl, ⟨by decide, by decide, by decide⟩, c2, _, rfl, rfl, (by show (0 : Int) < (10 : Int) ^ (18 : Int).toNat; decide), .int k, rfl, 31, k, rfl, rfl, .inl ⟨by decide, by decide⟩, _, _, rfl, rfl, _, 6, 4, rfl, by decide, fun u H2 u0 u1 s3 => ?_⟩
    obtain ⟨z, hz, z0, z1⟩ := pickI (b := 10 ^ 40) (i := u) (xs := [.int 4, .int 15, .int 900, .int ((10 : Int) ^ (40 : Int).toNat)]) (by decide) u0 u1
    refine ⟨p, _, u, .int z, rfl, rfl, .inl (.inl (s3 _ _ upd_same)), hz, v, z, rfl, rfl, z0, 2, v % z, rfl, rfl, .inl ⟨by decide, by decide⟩, 2, 2 * (v % z), rfl, rfl, ?_⟩
    have y0 := Int.emod_nonneg v (show z ≠ 0 by omega)
    have y1 := Int.emod_lt_of_pos v z0
    exact q _ _ ⟨by omega, by omega⟩ (by omega) (s2.trans s3)
end
end EM
namespace EM
open PySem PySem.Spec PyProof.Rows L2
theorem scPlan : FnScope ["_law_teams_here", "_law_found", "_law_number", "_law_pairs", "_law_team"] ["_law_teams_here"] (defScope t__law_plan) := ⟨rfl, rfl, rfl, by decide +kernel, rfl, by decide +kernel, by decide +kernel⟩
section
variable {P : Program} {w : World} {K : PySem.W.Frag} {mg : Str → Option Value} {base : Heap}
def spPlan : Sp := fun vs H Q _ => ∃ t : Int, vs = [.int t] ∧ TOk t ∧ t ≤ 900 ∧ ∀ H' p, Same H H' → PlanAt H' p (planOf t (t - 1).toNat) → Q (.ref p) H'
theorem fn_plan (d : DefAt K mg "_law_plan" t__law_plan ["_law_teams_here"]) (N : Names mg) (Fo : Fn P w K mg base "opponent" ["teams", "team", "number"] 5 spOpp) (Fh : Fn P w K mg base "at_home" ["teams", "team", "number"] 5 spHome) : Fn P w K mg base "_law_plan" ["_law_teams_here"] 6 spPlan := by
  refine d.fn scPlan (fun vs H Q E h => ?_) (fun f cdv A outer s H vs Q E hr h => ?_)
  · obtain ⟨t, rfl, _⟩ := h
    rfl
  · obtain ⟨t, rfl, T, tb, q⟩ := h
    have := T.two
    refine ⟨_, pss_cons (ps_set (i := 1) scPlan.nd rfl (.inl rfl) (pe_lst pa_nil))
      (pss_cons (ps_for PassesOwn.never rfl (pi_range1 (by rfl) N.range (pa_cons (pe_op op_sub (pv 0) pe_int) pa_nil)) (pg_name (i := 2) scPlan.nd rfl (.inl rfl))
        (pss_cons (ps_set (i := 3) scPlan.nd rfl (.inl rfl) (pe_lst pa_nil))
        (pss_cons (ps_for PassesOwn.never rfl (pi_range1 (by rfl) N.range (pa_cons (pv 0) pa_nil)) (pg_name (i := 4) scPlan.nd rfl (.inl rfl))
          (pss_one (ps_if (pt_val (pe_f Fh hr (by decide) (by rfl) (pa_cons (pv 0) (pa_cons (pv 4) (pa_cons (pv 2) pa_nil)))))
            (pss_one (ps_expr (pe_bm PySem.F.plainAttrs_list PySem.F.slot_list_append PySem.F.type_list_append mt_append (pv 3) (pa_cons (pe_tup (pa_cons (pv 4) (pa_cons (pe_f Fo hr (by decide) (by rfl) (pa_cons (pv 0) (pa_cons (pv 4) (pa_cons (pv 2) pa_nil)))) pa_nil))) pa_nil)))) pss_nil)))
        (pss_one (ps_expr (pe_bm PySem.F.plainAttrs_list PySem.F.slot_list_append PySem.F.type_list_append mt_append (pv 1) (pa_cons (pv 3) pa_nil)))))))
      (pss_one (ps_ret (pv 1)))), ?_⟩
    refine ⟨Nat.zero_le _, fun p np => ?_⟩
    have s0 := same_upd (o := .lst []) np
    refine ⟨.int t, rfl, t, 1, rfl, rfl, t - 1, rfl, by omega, by omega, for_range (n := (t - 1).toNat) (fun i σ H' => ∃ y2 y3 y4 vs, σ = [some (.int t), some (.ref p), y2, y3, y4] ∧ Same H H' ∧ H' p = some (.lst vs) ∧ All2 (RowAt (del H' p)) vs (planOf t i))
      ⟨none, none, none, [], rfl, s0, upd_same, .nil⟩ ?_ ?_⟩
    · rintro i σ H1 hi ⟨y2, y3, y4, vs, rfl, s1, e1, av⟩
      rw [Int.zero_add]
      refine ⟨Nat.zero_le _, fun l nl => ?_⟩
      have nlp : l ≠ p := (ne_of_none e1 nl).symm
      have s2 := same_upd (o := .lst []) nl
      refine ⟨.int t, rfl, t, rfl, by omega, by omega, for_range (n := t.toNat) (fun j σ H' => ∃ y4 ps, σ = [some (.int t), some (.ref p), some (.int (i : Int)), some (.ref l), y4] ∧ Same H1 H' ∧ H' l = some (.lst ps) ∧ All2 (PairAt H') ps (rowOf t (i : Int) j))
        ⟨y4, [], rfl, s2, upd_same, .nil⟩ ?_ ?_⟩
      · rintro j σ H2 hj ⟨z4, ps, rfl, s3, e3, ap⟩
        rw [Int.zero_add]
        refine ⟨.int t, rfl, .int (j : Int), rfl, .int (i : Int), rfl, t, (j : Int), (i : Int), rfl, T, by omega, by omega, by omega, by omega, home t (j : Int) (i : Int), rfl, ite2 (fun e => ?_) (fun e => ?_)⟩
        · refine ⟨.ref l, rfl, .inl ⟨rfl, _, SqL.of e3⟩, .int (j : Int), rfl, .int t, rfl, .int (j : Int), rfl, .int (i : Int), rfl, t, (j : Int), (i : Int), rfl, T, by omega, by omega, by omega, by omega, by show 2 ≤ sizeLine; decide, fun q' nq => ?_⟩
          have nql : l ≠ q' := ne_of_none e3 nq
          have s4 := same_upd (o := .tup [.int (j : Int), .int (opp t (j : Int) (i : Int))]) nq
          refine ⟨l, ps, .ref q', rfl, rfl, by rw [upd_ne nql]; exact e3, ?_, ?_⟩
          · have := ap.len
            have := rowOf_len t (i : Int) j
            exact small1000 (by omega)
          · refine ⟨_, _, rfl, fun b o eb => ?_, upd_same, ?_⟩
            · have nbl : b ≠ l := ne_of_none eb nl
              rw [upd_ne nbl]
              exact s4 _ _ (s3 _ _ eb)
            · rw [rowOf_succ, if_pos e]
              have e4 : upd H2 q' (.tup [.int (j : Int), .int (opp t (j : Int) (i : Int))]) l = some (.lst ps) := by rw [upd_ne nql]; exact e3
              exact (ap.mono fun _ _ h => (h.mono s4).upd e4).snoc ⟨q', rfl, by rw [upd_ne nql.symm, upd_same]⟩
        · exact ⟨_, ps, rfl, s3, e3, by rw [rowOf_succ, if_neg e, List.append_nil]; exact ap⟩
      · rintro σ H2 ⟨z4, ps, rfl, s3, e3, ap⟩
        have e4 : H2 p = some (.lst vs) := s3 _ _ e1
        refine ⟨.ref p, rfl, .inl ⟨rfl, _, SqL.of e4⟩, .ref l, rfl, p, vs, .ref l, rfl, rfl, e4, ?_, ?_⟩
        · have := av.len
          rw [planOf_len] at this
          exact small1000 (by omega)
        · refine ⟨_, _, _, _, rfl, fun b o eb => ?_, upd_same, ?_⟩
          · have nbp : b ≠ p := ne_of_none eb np
            rw [upd_ne nbp]
            exact s3 _ _ (s1 _ _ eb)
          · rw [planOf_succ]
            have sd : Same (del H1 p) (del (upd H2 p (.lst (vs ++ [.ref l]))) p) := (del_same p s3).trans (del_upd' H2 p _)
            refine (av.mono fun _ _ h => h.mono sd).snoc ⟨l, ps, rfl, by rw [del_ne nlp, upd_ne nlp]; exact e3, ap.mono fun _ _ h => (h.del e4).mono (del_upd' H2 p _)⟩
    · rintro σ H1 ⟨y2, y3, y4, vs, rfl, s1, e1, av⟩
      exact ⟨.ref p, rfl, q H1 p s1 ⟨vs, e1, av.mono fun _ _ h => h.mono (del_le H1 p)⟩⟩
end
end EM
namespace EM
open PySem PySem.Spec PyProof.Rows L2 LamX
/-! ### the law of refusals -/
def dueB (i : Nat) : List Bool := [decide (i = 0), decide (i = 1), decide (i = 2), decide (i = 3), decide (i = 4), decide (i = 5), true]
def BoolsAt (H : Hp) (v : V) (bs : List Bool) : Prop := ∃ q, v = .ref q ∧ H q = some (.lst (bs.map V.bl))
theorem monBools : Mon BoolsAt := ⟨fun _ _ _ _ s h => by
  obtain ⟨q, e, h⟩ := h
  exact ⟨q, e, s _ _ h⟩⟩
abbrev lamScope : Scope := { kind := .function, names := [("_law_one", .local), ("_law_other", .local), ("round_of", .globalImplicit)], isGenerator := false, isCoroutine := false }
theorem scLam : FnScope ["_law_one", "_law_other"] ["_law_one", "_law_other"] lamScope := ⟨rfl, rfl, rfl, by decide +kernel, rfl, by decide +kernel, by decide +kernel⟩
theorem scLaw5 : FnScope ["_law_script", "_law_far", "_law_due", "_law_k", "_law_teams_here", "_law_strange", "_law_door", "_law_bad", "_law_team", "_law_few", "_law_plans"] ["_law_script"] (defScope t_law) := ⟨rfl, rfl, rfl, by decide +kernel, rfl, by decide +kernel, by decide +kernel⟩
section
variable {P : Program} {w : World} {K : PySem.W.Frag} {mg : Str → Option Value} {base : Heap} {cT cA cR cP cL cG cM : Addr}
def spLam (K : PySem.W.Frag) (cL : Addr) : Sp := fun vs H _ E => ∃ t a : Int, vs = [.int t, .int a] ∧ TOk t ∧ 0 ≤ a ∧ a < t ∧ E (.ref cL) none H
theorem lam_ok {q : Str} {p1 p2 p3 p4 p5 : Pos} (F : FnE P w K mg base "round_of" ["teams", "one", "other"] 4 (spRndE K cT cA cL)) :
    LamOk P w K mg base 4 ["_law_one", "_law_other"] ["_law_one", "_law_other"] q lamScope (.Call (.Name "round_of" p1) [.Name "_law_one" p2, .Name "_law_other" p3, .Name "_law_other" p4] [] p5) (spLam K cL) := by
  intro A outer s H vs Q E f c hr h
  obtain ⟨t, a, rfl, T, a0, a1, e⟩ := h
  refine ⟨_, pe_fE F hr (by decide) (L2N.takes_of rfl rfl rfl rfl) (by rfl) (pa_cons (pv 0) (pa_cons (pv 1) (pa_cons (pv 1) pa_nil))), ?_⟩
  have ok := okT_iff.mpr T
  have ia : inB t (.int a) = true := inB_iff.mpr ⟨a0, a1⟩
  refine ⟨.int t, rfl, .int a, rfl, .int a, rfl, .int t, .int a, .int a, rfl, .int t, .int a, .int a, fun z => Bool.noConfusion (z.symm.trans ok), fun t' ht _ => ?_⟩
  cases ht
  exact ⟨fun z => Bool.noConfusion (z.symm.trans ia), fun _ => ⟨fun z => Bool.noConfusion (z.symm.trans ia), fun _ => ⟨rfl, e⟩⟩⟩
theorem dueB_at {i : Nat} (h : i < 6) : ((List.range 6).map dueB)[i]? = some (dueB i) := by
  rw [List.getElem?_map, List.getElem?_range h]
  rfl
theorem dueB_is (i : Nat) : [V.bl (decide (V.int (i : Int) = V.int 0)), .bl (decide (V.int (i : Int) = V.int 1)), .bl (decide (V.int (i : Int) = V.int 2)), .bl (decide (V.int (i : Int) = V.int 3)), .bl (decide (V.int (i : Int) = V.int 4)), .bl (decide (V.int (i : Int) = V.int 5)), .bl true] = (dueB i).map V.bl := by
  have e : ∀ n : Nat, decide (V.int (i : Int) = V.int (n : Int)) = decide (i = n) := fun n => by
    rw [EM.dec_int]
    exact decide_eq_decide.mpr Int.ofNat_inj
  unfold dueB
  rw [List.map_cons, List.map_cons, List.map_cons, List.map_cons, List.map_cons, List.map_cons, List.map_cons, List.map_nil, ← e 0, ← e 1, ← e 2, ← e 3, ← e 4, ← e 5]
  rfl
/-- the strange things -/
abbrev strangeD (far : Int) : List PyData := [.none, .str "2", .bool true, .bool false, .list [.int 2], .tuple [.int 2], .dict [], .int (-1), .int (-2 - 2 * far)]
theorem strange_no {H : Hp} {far : Int} (f0 : 0 ≤ far) {x : V} {d : PyData} (hd : d ∈ strangeD far) (t : Tr H x d) : okT x = false ∧ ∀ n : Int, inB n x = false := by
  simp only [strangeD, List.mem_cons, List.not_mem_nil, or_false] at hd
  rcases hd with rfl | rfl | rfl | rfl | rfl | rfl | rfl | rfl | rfl
  · cases t; exact ⟨rfl, fun _ => rfl⟩
  · cases t; exact ⟨rfl, fun _ => rfl⟩
  · cases t; exact ⟨rfl, fun _ => rfl⟩
  · cases t; exact ⟨rfl, fun _ => rfl⟩
  · cases t; exact ⟨rfl, fun _ => rfl⟩
  · cases t; exact ⟨rfl, fun _ => rfl⟩
  · cases t; exact ⟨rfl, fun _ => rfl⟩
  · cases t; exact ⟨rfl, fun _ => rfl⟩
  · cases t
    refine ⟨?_, fun n => ?_⟩
    · cases h : okT (.int (-2 - 2 * far)) with
      | false => rfl
      | true => have := (okT_iff.mp h).two; omega
    · cases h : inB n (.int (-2 - 2 * far)) with
      | false => rfl
      | true => have := (inB_iff.mp h).1; omega
def Told5 (cT cA cR cP cL cG : Addr) (D : Addr) (bs : List Bool) : Prop := (D = cT ∧ bs = dueB 0) ∨ (D = cA ∧ bs = dueB 1) ∨ (D = cR ∧ bs = dueB 2) ∨ (D = cP ∧ bs = dueB 3) ∨ (D = cL ∧ bs = dueB 4) ∨ (D = cG ∧ bs = dueB 5)
theorem HeldE.of {x : Str} {ps : List Str} {k : Nat} {sp : Sp} (F : FnE P w K mg base x ps k sp) (hk : k ≤ 20) : ∃ f, mg x = some (.ref f) ∧ HeldE P w K mg base 20 f sp := by
  obtain ⟨f, fd, G, m, kp, b⟩ := F.ex
  exact ⟨f, m, fd, ps, G.mono hk, kp, b⟩
def spLaw5 (K : PySem.W.Frag) (PL : Addr) : Sp := fun vs H Q _ => ∃ (a : Addr) (ns : List Int), vs = [.ref a] ∧ SqL K H a (ns.map V.int) ∧ (∀ n ∈ ns, bits20 n) ∧ H PL = some (.tbl #[]) ∧ ∀ G, Q (.bl true) G
theorem ok_law5 {kT kP kB : Nat} {fl g fk PL cLw : Addr} {oc : Value} {od an : Option Addr} {osl : Array (Option Value)} {kV doc pm ct : Value} {fdT : FuncData}
    (lk : K.lookup fl = some ⟨oc, od, .func (PySem.W.fnOf "law" "law" (defArgs t_law) (defBody t_law) (defScope t_law) .none kV doc pm an (.ref cLw) ct), osl⟩) (hcd : PySem.W.codeIn K (.ref cLw) "law" = true) (N : Names mg) (TB : TabB base mg cLw PL)
    (Fc : Fn P w K mg base "_law_cell_at" ["_law_script", "_law_k"] 1 (spCell K)) (Fv : Fn P w K mg base "_law_value" ["_law_cell", "_law_k", "_law_limit"] 2 spValue) (Ft : Fn P w K mg base "_law_teams" ["_law_script", "_law_k"] 3 (spCount K))
    (Fa : Fn P w K mg base "_law_all" ["_law_ask", "_law_one", "_law_things", "_law_due"] 22 (spAll P w K mg base (Told5 cT cA cR cP cL cG))) (Fto : Fn P w K mg base "_law_told" ["_law_ask", "_law_one", "_law_other"] 21 (spTold P w K mg base (Told5 cT cA cR cP cL cG)))
    (WT : FnE P w K mg base "_law_with_teams" ["_law_door", "_law_teams_here"] kT (spWithTeams K cT)) (WA : FnE P w K mg base "_law_with_team" ["_law_where", "_law_team"] 6 (spWithTeam K cA)) (WR : FnE P w K mg base "_law_with_round" ["_law_where", "_law_number"] 6 (spWithRound K cR)) (WP : FnE P w K mg base "_law_with_plan" ["_law_where", "_law_plan_here"] kP (spWithPlan K cP cG)) (hkT : kT ≤ 20) (hkP : kP ≤ 20) (hkB : kB ≤ 20)
    (Fp : Fn P w K mg base "_law_plan" ["_law_teams_here"] 6 spPlan) (FB : FnE P w K mg base "breaks" ["teams", "plan"] kB (spAskNo K cT cP cG true)) (Fbr : Fn P w K mg base "breaks" ["teams", "plan"] kB spBreaksOk) (Fbk : Fn P w K mg base "break_of" ["teams", "team"] 4 spBreak)
    (Fr : FnE P w K mg base "round_of" ["teams", "one", "other"] 4 (spRndE K cT cA cL)) (mTold : mg "_law_told" = some (.ref g)) (kTold : PySem.W.keepIn K (.ref g) = true) (TF : Fun K "_law_told" "_law_told" t__law_told g fdT) (bTold : Binds K fdT ["_law_ask", "_law_one", "_law_other"] [])
    (mKinds : mg "_law_kinds" = some (.ref fk)) (kKinds : PySem.W.keepIn K (.ref fk) = true) (mMeet : mg "MeetError" = some (.ref cM)) (em4 : PySem.W.exmOne K (.ref cL) (.ref cM) = some true) (kd4 : ∀ y, FnX P w K mg base fk ["_law_error"] y cL (spKinds y (dueB 4))) :
    FnOk P w K mg base CX0 24 fl (PySem.W.fnOf "law" "law" (defArgs t_law) (defBody t_law) (defScope t_law) .none kV doc pm an (.ref cLw) ct) ["_law_script"] (spLaw5 K PL) := by
  obtain ⟨fT, mT, heldT⟩ := HeldE.of WT hkT
  obtain ⟨fA, mA, heldA⟩ := HeldE.of WA (by decide)
  obtain ⟨fR, mR, heldR⟩ := HeldE.of WR (by decide)
  obtain ⟨fP, mP, heldP⟩ := HeldE.of WP hkP
  obtain ⟨fB, mB, heldB⟩ := HeldE.of FB hkB
  have lamOk := fun (q : Str) (p1 p2 p3 p4 p5 : Pos) => lam_ok (q := q) (p1 := p1) (p2 := p2) (p3 := p3) (p4 := p4) (p5 := p5) Fr
  refine fn_of lk hcd scLaw5 (fun vs H Q E h => ?_) (fun A outer s H vs Q E hr h => ?_)
  · obtain ⟨a, ns, rfl, _⟩ := h
    rfl
  · obtain ⟨a, ns, rfl, hS, hb, hPL, q⟩ := h
    refine ⟨_, PSs.nox (
      (pss_cons (ps_par (i := 1) (j := 2) rfl scLaw5.nd rfl rfl (by decide) rfl rfl (pa_cons (pe_f Fv hr (by decide) (by rfl) (pa_cons (pe_f Fc hr (by decide) (by rfl) (pa_cons (pv 0) (pa_cons pe_int pa_nil))) (pa_cons pe_int (pa_cons pe_int pa_nil)))) (pa_cons (pe_lst pa_nil) pa_nil)) (by rfl))
      (pss_cons (ps_for PassesOwn.never rfl (pi_range1 (by rfl) N.range (pa_cons pe_int pa_nil)) (pg_name (i := 3) scLaw5.nd rfl (Or.inl rfl)) (pss_one (ps_expr (pe_bm PySem.F.plainAttrs_list PySem.F.slot_list_append PySem.F.type_list_append mt_append (pv 2) (pa_cons (pe_lst (pa_cons (pe_cmpR op_eq (pv 3) pe_int (nomark _)) (pa_cons (pe_cmpR op_eq (pv 3) pe_int (nomark _)) (pa_cons (pe_cmpR op_eq (pv 3) pe_int (nomark _)) (pa_cons (pe_cmpR op_eq (pv 3) pe_int (nomark _)) (pa_cons (pe_cmpR op_eq (pv 3) pe_int (nomark _)) (pa_cons (pe_cmpR op_eq (pv 3) pe_int (nomark _)) (pa_cons pe_bl pa_nil)))))))) pa_nil)))))
      (pss_cons (ps_set (i := 4) scLaw5.nd rfl (.inl rfl) (pe_f Ft hr (by decide) (by rfl) (pa_cons (pv 0) (pa_cons pe_int pa_nil))))
      (pss_cons (ps_set (i := 5) scLaw5.nd rfl (.inl rfl) (pe_lst (pa_cons pe_non (pa_cons pe_str (pa_cons pe_bl (pa_cons pe_bl (pa_cons (pe_lst (pa_cons pe_int pa_nil)) (pa_cons (pe_tup (pa_cons pe_int pa_nil)) (pa_cons pe_dnewK (pa_cons (pe_un un_neg pe_int) (pa_cons (pe_op op_sub (pe_un un_neg pe_int) (pe_op op_mul pe_int (pv 1))) pa_nil)))))))))))
      (pss_cons (ps_for PassesOwn.never rfl (pi_range1 (by rfl) N.range (pa_cons pe_int pa_nil)) (pg_name (i := 6) scLaw5.nd rfl (Or.inl rfl)) (pss_cons (ps_set (i := 7) scLaw5.nd rfl (.inl rfl) (pe_op op_cat (pe_op op_cat (pv 5) (pe_lst (pa_cons pe_int (pa_cons pe_int (pa_cons pe_int (pa_cons (pe_op op_add pe_int (pe_op op_mul pe_int (pv 1))) pa_nil)))))) (pe_op op_rep (pe_lst (pa_cons pe_int (pa_cons (pe_op op_add pe_int (pe_op op_mul pe_int (pv 1))) pa_nil))) (pe_op op_fdiv (pv 6) pe_int))))
      (pss_one (ps_if (pt_not (pt_val (pe_f Fa hr (by decide) (by rfl) (pa_cons (pe_glob (v := .ref fT) (by rfl) mT rfl) (pa_cons (pv 6) (pa_cons (pv 7) (pa_cons (pe_ix ix_list (pv 2) pe_int (fun _ _ => rfl)) pa_nil))))))) (pss_one ps_never) pss_nil))))
      (pss_cons (ps_for PassesOwn.never rfl (pi_range1 (by rfl) N.range (pa_cons pe_int pa_nil)) (pg_name (i := 6) scLaw5.nd rfl (Or.inl rfl)) (pss_one (ps_if (pt_not (pt_val (pe_f Fa hr (by decide) (by rfl) (pa_cons (pe_glob (v := .ref fA) (by rfl) mA rfl) (pa_cons (pe_tup (pa_cons (pv 6) (pa_cons (pv 4) pa_nil))) (pa_cons (pe_op op_cat (pv 5) (pe_lst (pa_cons (pv 4) (pa_cons (pe_op op_add (pv 4) (pv 1)) pa_nil)))) (pa_cons (pe_ix ix_list (pv 2) pe_int (fun _ _ => rfl)) pa_nil))))))) (pss_one ps_never) pss_nil)))
      (pss_cons (ps_for PassesOwn.never rfl (pi_range1 (by rfl) N.range (pa_cons pe_int pa_nil)) (pg_name (i := 6) scLaw5.nd rfl (Or.inl rfl)) (pss_one (ps_if (pt_not (pt_val (pe_f Fa hr (by decide) (by rfl) (pa_cons (pe_glob (v := .ref fR) (by rfl) mR rfl) (pa_cons (pe_tup (pa_cons (pv 6) (pa_cons (pv 4) pa_nil))) (pa_cons (pe_op op_cat (pv 5) (pe_lst (pa_cons (pe_op op_sub (pv 4) pe_int) (pa_cons (pe_op op_add (pe_op op_sub (pv 4) pe_int) (pv 1)) pa_nil)))) (pa_cons (pe_ix ix_list (pv 2) pe_int (fun _ _ => rfl)) pa_nil))))))) (pss_one ps_never) pss_nil)))
      (pss_cons (ps_for PassesOwn.never rfl (pi_tup (pe_tup (pa_cons pe_int (pa_cons (pe_op op_sub (pv 4) pe_int) (pa_cons (pe_op op_mod (pv 1) (pv 4)) pa_nil))))) (pg_name (i := 8) scLaw5.nd rfl (Or.inl rfl)) (pss_one (ps_if (pt_cmpR (op_neD hr.units) (pe_toldL (Tb := [(PL, (("law" : Str) ++ ".<locals>.") ++ "<lambda>")]) (N := ["_law_one", "_law_other"]) (ps := ["_law_one", "_law_other"]) (sp := spLam K cL) (bs := dueB 4) (by rfl) mTold kTold TF bTold mKinds kKinds mMeet em4 (fun y => kd4 y) scLam (lamOk _ _ _ _ _ _) (fun vs H Q E h => by obtain ⟨vt, va, rfl, _⟩ := h; rfl) (fun c pm ctv zs hz => match zs, hz with | [_, _], _ => rfl) TB (by rfl) List.mem_cons_self (fun z hz _ => by rw [List.mem_singleton.mp hz]; rfl) rfl rfl rfl rfl hr (by decide) (pa_cons (pv 4) (pa_cons (pv 8) pa_nil))) (pe_ix ix_list (pv 2) pe_int (fun _ _ => rfl)) (nomark _)) (pss_one ps_never) pss_nil)))
      (pss_cons (ps_set (i := 9) scLaw5.nd rfl (.inl rfl) (pe_op op_add pe_int (pe_op op_mul (pe_op op_mod (pv 1) pe_int) pe_int)))
      (pss_cons (ps_set (i := 10) scLaw5.nd rfl (.inl rfl) (pe_lst (pa_cons pe_non (pa_cons (pe_tup pa_nil) (pa_cons pe_str (pa_cons pe_dnewK (pa_cons pe_int (pa_cons (pe_lst (pa_cons pe_non pa_nil)) (pa_cons (pe_lst (pa_cons (pe_tup pa_nil) pa_nil)) (pa_cons (pe_lst (pa_cons (pe_tup (pa_cons (pe_tup (pa_cons pe_int (pa_cons pe_int pa_nil))) pa_nil)) pa_nil)) (pa_cons (pe_lst (pa_cons (pe_lst (pa_cons pe_non pa_nil)) pa_nil)) (pa_cons (pe_lst (pa_cons (pe_lst (pa_cons (pe_tup (pa_cons pe_int pa_nil)) pa_nil)) pa_nil)) (pa_cons (pe_lst (pa_cons (pe_lst (pa_cons (pe_tup (pa_cons pe_int (pa_cons pe_int (pa_cons pe_int pa_nil)))) pa_nil)) pa_nil)) (pa_cons (pe_lst (pa_cons (pe_lst (pa_cons (pe_lst (pa_cons pe_int (pa_cons pe_int pa_nil))) pa_nil)) pa_nil)) pa_nil))))))))))))))
      (pss_cons (ps_set (i := 10) scLaw5.nd rfl (.inl rfl) (pe_op op_cat (pv 10) (pe_lst (pa_cons (pe_lst (pa_cons (pe_lst (pa_cons (pe_tup (pa_cons pe_int (pa_cons pe_int pa_nil))) pa_nil)) pa_nil)) (pa_cons (pe_lst (pa_cons (pe_lst (pa_cons (pe_tup (pa_cons pe_int (pa_cons (pv 9) pa_nil))) pa_nil)) pa_nil)) (pa_cons (pe_lst (pa_cons (pe_lst (pa_cons (pe_tup (pa_cons (pe_un un_neg pe_int) (pa_cons pe_int pa_nil))) pa_nil)) pa_nil)) (pa_cons (pe_lst (pa_cons (pe_lst (pa_cons (pe_tup (pa_cons pe_int (pa_cons pe_bl pa_nil))) pa_nil)) pa_nil)) (pa_cons (pe_lst (pa_cons (pe_lst (pa_cons (pe_tup (pa_cons pe_str (pa_cons pe_int pa_nil))) pa_nil)) pa_nil)) (pa_cons (pe_lst (pa_cons (pe_lst (pa_cons (pe_tup (pa_cons pe_int (pa_cons pe_int pa_nil))) pa_nil)) (pa_cons pe_int pa_nil))) pa_nil)))))))))
      (pss_cons (ps_set (i := 10) scLaw5.nd rfl (.inl rfl) (pe_op op_cat (pv 10) (pe_lst (pa_cons (pe_lst (pa_cons (pe_lst (pa_cons (pe_tup (pa_cons pe_int (pa_cons pe_int pa_nil))) pa_nil)) (pa_cons (pe_lst (pa_cons (pe_tup (pa_cons pe_int (pa_cons (pe_op op_add (pv 9) (pv 1)) pa_nil))) pa_nil)) pa_nil))) (pa_cons (pe_lst (pa_cons (pe_lst (pa_cons (pe_tup (pa_cons pe_int (pa_cons (pe_op op_sub (pe_un un_neg pe_int) (pv 1)) pa_nil))) pa_nil)) pa_nil)) (pa_cons (pe_lst (pa_cons (pe_lst (pa_cons (pe_tup (pa_cons pe_int (pa_cons pe_non pa_nil))) pa_nil)) pa_nil)) (pa_cons (pe_lst (pa_cons (pe_lst pa_nil) (pa_cons (pe_lst (pa_cons (pe_tup (pa_cons pe_int (pa_cons pe_int pa_nil))) pa_nil)) pa_nil))) pa_nil)))))))
      (pss_cons (ps_for PassesOwn.never rfl (pi_range1 (by rfl) N.range (pa_cons pe_int pa_nil)) (pg_name (i := 6) scLaw5.nd rfl (Or.inl rfl)) (pss_one (ps_if (pt_not (pt_val (pe_f Fa hr (by decide) (by rfl) (pa_cons (pe_glob (v := .ref fP) (by rfl) mP rfl) (pa_cons (pe_tup (pa_cons (pv 6) (pa_cons (pv 9) pa_nil))) (pa_cons (pv 10) (pa_cons (pe_ix ix_list (pv 2) pe_int (fun _ _ => rfl)) pa_nil))))))) (pss_one ps_never) pss_nil)))
      (pss_cons (ps_if (pt_not (pt_val (pe_f Fa hr (by decide) (by rfl) (pa_cons (pe_glob (v := .ref fP) (by rfl) mP rfl) (pa_cons (pe_tup (pa_cons pe_int (pa_cons (pv 9) pa_nil))) (pa_cons (pe_lst (pa_cons (pe_lst pa_nil) (pa_cons (pe_lst (pa_cons (pe_lst pa_nil) pa_nil)) (pa_cons (pe_lst (pa_cons (pe_lst (pa_cons (pe_tup (pa_cons pe_int (pa_cons pe_int pa_nil))) pa_nil)) (pa_cons (pe_lst (pa_cons (pe_tup (pa_cons pe_int (pa_cons pe_int pa_nil))) pa_nil)) pa_nil))) pa_nil)))) (pa_cons (pe_ix ix_list (pv 2) pe_int (fun _ _ => rfl)) pa_nil))))))) (pss_one ps_never) pss_nil)
      (pss_cons (ps_if (PW.pt (pw_and (pt_cmpR op_gt (pv 9) pe_int (nomark _)) (pw_and1 (pt_cmpR (op_neD hr.units) (pe_f Fto hr (by decide) (by rfl) (pa_cons (pe_glob (v := .ref fB) (by rfl) mB rfl) (pa_cons (pv 9) (pa_cons (pe_slice sl_list (pe_f Fp hr (by decide) (by rfl) (pa_cons (pv 9) pa_nil)) (po_some pe_int) po_none) pa_nil)))) (pe_ix ix_list (pv 2) pe_int (fun _ _ => rfl)) (nomark _))))) (pss_one ps_never) pss_nil)
      (pss_one (ps_ret (pe_and (pe_cmpR op_isN (pe_f Fbk hr (by decide) (by rfl) (pa_cons pe_int (pa_cons pe_int pa_nil))) pe_non (nomark _)) (pe_one (pe_cmpR (op_eqD hr.units) (pe_f Fbr hr (Nat.le_trans hkB (by decide)) (by rfl) (pa_cons pe_int (pa_cons (pe_lst (pa_cons (pe_lst (pa_cons (pe_tup (pa_cons pe_int (pa_cons pe_int pa_nil))) pa_nil)) pa_nil)) pa_nil))) (pe_lst pa_nil) (nomark _)))))))))))))))))))))), ?_⟩
    have cb : ∀ c : Int, (c = 0 ∨ c ∈ ns) → bits20 c := fun c hc => by
      rcases hc with rfl | hc
      · show (0 : Int).natAbs.log2 ≤ _
        decide
      · exact hb c hc
    refine ⟨.ref a, rfl, a, ns, 0, rfl, hS, by decide, fun c hc => ⟨c, 3, rfl, cb c hc, by decide, by decide, fun far H1 far0 farB s1 => ⟨Nat.zero_le _, fun DU nDU => ⟨_, _, rfl, ?_⟩⟩⟩⟩
    -- what is due
    refine ⟨6, rfl, by decide, by decide, for_range (n := 6) (fun i σ H' => ∃ y3, σ = [some (.ref a), some (.int far), some (.ref DU), y3, none, none, none, none, none, none, none] ∧ Same H1 H' ∧ OAt BoolsAt H' DU ((List.range i).map dueB)) ⟨_, rfl, same_upd nDU, OAt.new BoolsAt⟩ ?_ ?_⟩
    · rintro i σ H2 hi ⟨y3, rfl, s2, o2⟩
      rw [Int.zero_add]
      obtain ⟨acc, eD⟩ := o2.at
      refine ⟨.ref DU, rfl, .inl ⟨rfl, _, SqL.of eD⟩, .int (i : Int), rfl, rfl, .int (i : Int), rfl, rfl, .int (i : Int), rfl, rfl, .int (i : Int), rfl, rfl, .int (i : Int), rfl, rfl, .int (i : Int), rfl, rfl, by show 7 ≤ sizeLine; decide, fun B nB => ?_⟩
      have s3 := same_upd (o := .lst [V.bl (decide (V.int (i : Int) = V.int 0)), .bl (decide (V.int (i : Int) = V.int 1)), .bl (decide (V.int (i : Int) = V.int 2)), .bl (decide (V.int (i : Int) = V.int 3)), .bl (decide (V.int (i : Int) = V.int 4)), .bl (decide (V.int (i : Int) = V.int 5)), .bl true]) nB
      have e3 : upd H2 B (.lst [V.bl (decide (V.int (i : Int) = V.int 0)), .bl (decide (V.int (i : Int) = V.int 1)), .bl (decide (V.int (i : Int) = V.int 2)), .bl (decide (V.int (i : Int) = V.int 3)), .bl (decide (V.int (i : Int) = V.int 4)), .bl (decide (V.int (i : Int) = V.int 5)), .bl true]) B = some (.lst ((dueB i).map V.bl)) := by
        rw [upd_same, dueB_is]
      have nBD : B ≠ DU := (ne_of_none eD nB).symm
      obtain ⟨acc2, ea, la, o4⟩ := (o2.keep monBools s3).push monBools (v := .ref B) (x := dueB i) (by rw [List.length_map, List.length_range]; omega) ⟨B, rfl, by rw [del_ne nBD]; exact e3⟩
      refine ⟨DU, acc2, .ref B, rfl, rfl, ea, la, _, rfl, same_push nDU (s2.trans s3), ?_⟩
      rw [List.range_succ, List.map_append]
      exact o4
    rintro σ H2 ⟨y3, rfl, s2, o2⟩
    obtain ⟨vsD, hD, kD⟩ := (o2.close monBools).spot
    have sA := s1.trans s2
    clear o2 s2 nDU
    -- a count of teams, the strange things
    refine ⟨.ref a, rfl, a, ns, 0, rfl, sA.seq hS, hb, by decide, by decide, fun t H3 T tb s3 => ?_⟩
    have t2 := T.two
    have gs : ∀ σ : L2.St, σ[1]? = some (some (.int far)) → Gives (tLst (tCons (tC .non) (tCons (tC (.str "2")) (tCons (tC (.bl true)) (tCons (tC (.bl false)) (tCons (tLst (tCons (tC (.int 2)) tNil)) (tCons (tTup (tCons (tC (.int 2)) tNil)) (tCons tDNewK (tCons (tUn (rU fun i => .int (-i)) (tC (.int 1)))
        (tCons (tOp (rI0 fun i j => .int (i - j)) (tUn (rU fun i => .int (-i)) (tC (.int 2))) (tOp (rI CMul fun i j => .int (i * j)) (tC (.int 2)) (tVar 1))) tNil)))))))))) σ (.list (strangeD far)) := fun σ h1 =>
      gives_lst (gives_cons gives_non (gives_cons gives_str (gives_cons gives_bl (gives_cons gives_bl (gives_cons (gives_lst (gives_cons gives_int gives_nil) (by decide)) (gives_cons (gives_tup (gives_cons gives_int gives_nil) (by decide)) (gives_cons gives_dict (gives_cons (gives_num fun H Q q => ⟨1, rfl, q⟩)
        (gives_cons (gives_num fun H Q q => ⟨2, rfl, .int far, h1, 2, far, rfl, rfl, .inl ⟨by decide, by decide⟩, -2, 2 * far, rfl, rfl, q⟩) gives_nil))))))))) (by show 9 ≤ 900; decide)
    refine (?_ : gName 4 _ _ _ _)
    rw [gName]
    dsimp only
    rw [tSeq, tAsg]
    refine gs [some (.ref a), some (.int far), some (.ref DU), y3, some (.int t), none, none, none, none, none, none] rfl H3 _ fun H4 v s4 tr => ?_
    obtain ⟨ST, xsS, rfl, hST, kST⟩ : ∃ ST xsS, v = .ref ST ∧ H4 ST = some (.lst xsS) ∧ TrAll H4 xsS (strangeD far) := by
      cases tr with
      | lst h k => exact ⟨_, _, rfl, h, k⟩
    have sB := (sA.trans s3).trans s4
    have hD := s4 _ _ (s3 _ _ hD)
    have kD := (kD.up monBools s3).up monBools s4
    clear s3 s4 tr gs
    have lS : xsS.length = 9 := kST.len
    have noS : ∀ x ∈ xsS, Kind K H4 x ∧ okT x = false ∧ ∀ n : Int, inB n x = false := fun x hx => by
      obtain ⟨d, hd, td⟩ := kST.mem hx
      exact ⟨td.kind, strange_no far0 hd td⟩
    have due : ∀ {G : Hp} {i : Nat}, Same H4 G → i < 6 → ∃ U, atI vsD (i : Int) = some (.ref U) ∧ G U = some (.lst ((dueB i).map V.bl)) := fun {G i} s hi => by
      obtain ⟨v, hv, q', rfl, e⟩ := kD.at' (dueB_at hi)
      exact ⟨q', atI_nat hv, s _ _ e⟩
    -- the doors with a count
    refine ⟨6, rfl, by decide, by decide, for_range (n := 6) (fun i σ H' => ∃ y6 y7, σ = [some (.ref a), some (.int far), some (.ref DU), y3, some (.int t), some (.ref ST), y6, y7, none, none, none] ∧ Same H4 H') ⟨_, _, rfl, Same.refl H4⟩ ?_ ?_⟩
    · rintro i σ H5 hi ⟨y6, y7, rfl, s5⟩
      rw [Int.zero_add]
      refine ⟨.ref ST, rfl, .int far, rfl, 2, far, rfl, rfl, .inl ⟨by decide, by decide⟩, 3, 2 * far, rfl, rfl, by show 4 ≤ sizeLine; decide, fun b1 n1 => ?_⟩
      have t1 := same_upd (o := .lst [V.int 0, .int 1, .int 3, .int (3 + 2 * far)]) n1
      refine ⟨ST, b1, _, _, rfl, rfl, t1 _ _ (s5 _ _ hST), upd_same, cat_fits (by rw [lS]; show 9 + 4 ≤ 5000; decide), fun b2 n2 => ?_⟩
      have u2 : upd (upd H5 b1 (.lst [V.int 0, .int 1, .int 3, .int (3 + 2 * far)])) b2 (.lst (xsS ++ [V.int 0, .int 1, .int 3, .int (3 + 2 * far)])) b2 = _ := upd_same
      have t2' := t1.trans (same_upd (o := .lst (xsS ++ [V.int 0, .int 1, .int 3, .int (3 + 2 * far)])) n2)
      generalize upd (upd H5 b1 (.lst [V.int 0, .int 1, .int 3, .int (3 + 2 * far)])) b2 (.lst (xsS ++ [V.int 0, .int 1, .int 3, .int (3 + 2 * far)])) = H6 at u2 t2' ⊢
      refine ⟨.int far, rfl, 2, far, rfl, rfl, .inl ⟨by decide, by decide⟩, 22, 2 * far, rfl, rfl, by show 2 ≤ sizeLine; decide, fun b3 n3 => ?_⟩
      have t3 := same_upd (o := .lst [V.int 22, .int (22 + 2 * far)]) n3
      refine ⟨.int (i : Int), rfl, (i : Int), 4, rfl, rfl, ⟨by decide, by decide⟩, b3, (i : Int) / 4, _, rfl, rfl, upd_same, by omega, by omega, by show 2 * ((i : Int) / 4).toNat ≤ sizeLine; exact Nat.le_trans (show 2 * ((i : Int) / 4).toNat ≤ 100 by omega) (by decide), fun b4 n4 => ?_⟩
      have t4 := t3.trans (same_upd (o := .lst (List.replicate ((i : Int) / 4).toNat [V.int 22, .int (22 + 2 * far)]).flatten) n4)
      have rl : (List.replicate ((i : Int) / 4).toNat [V.int 22, .int (22 + 2 * far)]).flatten.length ≤ 2 := by
        have : ((i : Int) / 4).toNat ≤ 1 := by omega
        rcases Nat.le_one_iff_eq_zero_or_eq_one.mp this with e | e <;> rw [e] <;> simp
      have more : ∀ x ∈ (List.replicate ((i : Int) / 4).toNat [V.int 22, .int (22 + 2 * far)]).flatten, 4 ≤ (i : Int) ∧ (x = .int 22 ∨ x = .int (22 + 2 * far)) := fun x hx => by
        obtain ⟨l, hl, hx⟩ := List.mem_flatten.mp hx
        obtain ⟨hk, rfl⟩ := List.mem_replicate.mp hl
        exact ⟨by omega, by simpa using hx⟩
      refine ⟨b2, b4, xsS ++ [V.int 0, .int 1, .int 3, .int (3 + 2 * far)], (List.replicate ((i : Int) / 4).toNat [V.int 22, .int (22 + 2 * far)]).flatten, rfl, rfl, t4 _ _ u2, upd_same, cat_fits (by rw [List.length_append, lS]; show 9 + 4 + _ ≤ 5000; omega), fun b5 n5 => ?_⟩
      generalize (List.replicate ((i : Int) / 4).toNat [V.int 22, .int (22 + 2 * far)]).flatten = two at more rl u2 t4 n5 ⊢
      have t5 := (t2'.trans t4).trans (same_upd (o := .lst ((xsS ++ [V.int 0, .int 1, .int 3, .int (3 + 2 * far)]) ++ two)) n5)
      have e5 : upd (upd (upd H6 b3 (.lst [V.int 22, .int (22 + 2 * far)])) b4 (.lst two)) b5 (.lst ((xsS ++ [V.int 0, .int 1, .int 3, .int (3 + 2 * far)]) ++ two)) b5 = _ := upd_same
      generalize upd (upd (upd H6 b3 (.lst [V.int 22, .int (22 + 2 * far)])) b4 (.lst two)) b5 (.lst ((xsS ++ [V.int 0, .int 1, .int 3, .int (3 + 2 * far)]) ++ two)) = H7 at t5 e5 ⊢
      have s7 := s5.trans t5
      obtain ⟨U, aU, hU⟩ := due (i := 0) s7 (by decide)
      have bad : ∀ x ∈ (xsS ++ [V.int 0, .int 1, .int 3, .int (3 + 2 * far)]) ++ two, Kind K H7 x ∧ badT (i : Int) x = true := fun x hx => by
        unfold badT
        rcases List.mem_append.mp hx with hx | hx
        · rcases List.mem_append.mp hx with hx | hx
          · obtain ⟨k, o, _⟩ := noS x hx
            exact ⟨k.mono s7, by rw [o]; rfl⟩
          · have no : ∀ n : Int, (n < 2 ∨ n % 2 = 1) → okT (.int n) = false := fun n hn => by
              cases h : okT (.int n) with
              | false => rfl
              | true => have h1 := (okT_iff.mp h).two; have h2 := (okT_iff.mp h).even; omega
            simp only [List.mem_cons, List.not_mem_nil, or_false] at hx
            rcases hx with rfl | rfl | rfl | rfl
            · exact ⟨.int _, by rw [no 0 (by decide)]; rfl⟩
            · exact ⟨.int _, by rw [no 1 (by decide)]; rfl⟩
            · exact ⟨.int _, by rw [no 3 (by decide)]; rfl⟩
            · exact ⟨.int _, by rw [no (3 + 2 * far) (by omega)]; rfl⟩
        · obtain ⟨h4, h⟩ := more x hx
          have no : ∀ n : Int, 21 ≤ n → inB 21 (.int n) = false := fun n hn => by
            cases h : inB 21 (.int n) with
            | false => rfl
            | true => have := (inB_iff.mp h).2; omega
          rcases h with rfl | rfl
          · exact ⟨.int _, by rw [no 22 (by decide), decide_eq_true h4]; simp⟩
          · exact ⟨.int _, by rw [no (22 + 2 * far) (by omega), decide_eq_true h4]; simp⟩
      refine ⟨.int (i : Int), rfl, .ref b5, rfl, .ref DU, rfl, DU, vsD, ((0 : Nat) : Int), .ref U, rfl, rfl, SqL.of (s7 _ _ hD), aU, ?_⟩
      refine ⟨fT, b5, U, .int (i : Int), _, spWithTeams K cT, cT, dueB 0, rfl, e5, ?_, hU, heldT, .inl ⟨rfl, rfl⟩, fun x hx G sG Q' E hE => ⟨(i : Int), x, rfl, by omega, by omega, (bad x hx).1.mono sG, (bad x hx).2, hE⟩, fun G sG => ⟨true, rfl, iteF ⟨_, _, rfl, s7.trans sG⟩⟩⟩
      rw [List.length_append, List.length_append, lS]
      show 9 + 4 + _ ≤ 900
      omega
    rintro σ H5 ⟨y6, y7, rfl, s5⟩
    -- the doors with a team
    refine ⟨5, rfl, by decide, by decide, for_range (n := 5) (fun i σ H' => ∃ y6, σ = [some (.ref a), some (.int far), some (.ref DU), y3, some (.int t), some (.ref ST), y6, y7, none, none, none] ∧ Same H4 H') ⟨_, rfl, s5⟩ ?_ ?_⟩
    · rintro i σ H6 hi ⟨z6, rfl, s6⟩
      rw [Int.zero_add]
      refine ⟨.int (i : Int), rfl, .int t, rfl, by show 2 ≤ sizeLine; decide, fun W nW => ?_⟩
      have t1 := same_upd (o := .tup [V.int (i : Int), .int t]) nW
      have eW : upd H6 W (.tup [V.int (i : Int), .int t]) W = _ := upd_same
      generalize upd H6 W (.tup [V.int (i : Int), .int t]) = H7 at t1 eW ⊢
      refine ⟨.ref ST, rfl, .int t, rfl, .int t, rfl, .int far, rfl, t, far, rfl, rfl, by show 2 ≤ sizeLine; decide, fun b1 n1 => ?_⟩
      have t2' := t1.trans (same_upd (o := .lst [V.int t, .int (t + far)]) n1)
      refine ⟨ST, b1, _, _, rfl, rfl, t2' _ _ (s6 _ _ hST), upd_same, cat_fits (by rw [lS]; show 9 + 2 ≤ 5000; decide), fun b2 n2 => ?_⟩
      have t3 := t2'.trans (same_upd (o := .lst (xsS ++ [V.int t, .int (t + far)])) n2)
      have eW3 := (same_upd (o := .lst (xsS ++ [V.int t, .int (t + far)])) n2) _ _ ((same_upd (o := .lst [V.int t, .int (t + far)]) n1) _ _ eW)
      have e3 : upd (upd H7 b1 (.lst [V.int t, .int (t + far)])) b2 (.lst (xsS ++ [V.int t, .int (t + far)])) b2 = _ := upd_same
      generalize upd (upd H7 b1 (.lst [V.int t, .int (t + far)])) b2 (.lst (xsS ++ [V.int t, .int (t + far)])) = H8 at t3 e3 eW3 ⊢
      have s8 := s6.trans t3
      obtain ⟨U, aU, hU⟩ := due (i := 1) s8 (by decide)
      have bad : ∀ x ∈ xsS ++ [V.int t, .int (t + far)], Kind K H8 x ∧ inB t x = false := fun x hx => by
        rcases List.mem_append.mp hx with hx | hx
        · obtain ⟨k, _, o⟩ := noS x hx
          exact ⟨k.mono s8, o t⟩
        · have no : ∀ n : Int, t ≤ n → inB t (.int n) = false := fun n hn => by
            cases h : inB t (.int n) with
            | false => rfl
            | true => have := (inB_iff.mp h).2; omega
          simp only [List.mem_cons, List.not_mem_nil, or_false] at hx
          rcases hx with rfl | rfl
          · exact ⟨.int _, no t (by omega)⟩
          · exact ⟨.int _, no (t + far) (by omega)⟩
      refine ⟨.ref DU, rfl, DU, vsD, ((1 : Nat) : Int), .ref U, rfl, rfl, SqL.of (s8 _ _ hD), aU, ?_⟩
      refine ⟨fA, b2, U, .ref W, _, spWithTeam K cA, cA, dueB 1, rfl, e3, ?_, hU, heldA, .inr (.inl ⟨rfl, rfl⟩), fun x hx G sG Q' E hE => ⟨W, (i : Int), t, x, rfl, sG _ _ eW3, T, (bad x hx).1.mono sG, (bad x hx).2, hE G (Same.refl G)⟩, fun G sG => ⟨true, rfl, iteF ⟨_, rfl, s8.trans sG⟩⟩⟩
      rw [List.length_append, lS]
      show 9 + 2 ≤ 900
      decide
    rintro σ H6 ⟨z6, rfl, s6⟩
    -- the doors with a round
    refine ⟨2, rfl, by decide, by decide, for_range (n := 2) (fun i σ H' => ∃ y6, σ = [some (.ref a), some (.int far), some (.ref DU), y3, some (.int t), some (.ref ST), y6, y7, none, none, none] ∧ Same H4 H') ⟨_, rfl, s6⟩ ?_ ?_⟩
    · rintro i σ H6 hi ⟨z6, rfl, s6⟩
      rw [Int.zero_add]
      refine ⟨.int (i : Int), rfl, .int t, rfl, by show 2 ≤ sizeLine; decide, fun W nW => ?_⟩
      have t1 := same_upd (o := .tup [V.int (i : Int), .int t]) nW
      have eW : upd H6 W (.tup [V.int (i : Int), .int t]) W = _ := upd_same
      generalize upd H6 W (.tup [V.int (i : Int), .int t]) = H7 at t1 eW ⊢
      refine ⟨.ref ST, rfl, .int t, rfl, t, 1, rfl, rfl, .int t, rfl, t, 1, rfl, rfl, .int far, rfl, t - 1, far, rfl, rfl, by show 2 ≤ sizeLine; decide, fun b1 n1 => ?_⟩
      have t2' := t1.trans (same_upd (o := .lst [V.int (t - 1), .int (t - 1 + far)]) n1)
      refine ⟨ST, b1, _, _, rfl, rfl, t2' _ _ (s6 _ _ hST), upd_same, cat_fits (by rw [lS]; show 9 + 2 ≤ 5000; decide), fun b2 n2 => ?_⟩
      have t3 := t2'.trans (same_upd (o := .lst (xsS ++ [V.int (t - 1), .int (t - 1 + far)])) n2)
      have eW3 := (same_upd (o := .lst (xsS ++ [V.int (t - 1), .int (t - 1 + far)])) n2) _ _ ((same_upd (o := .lst [V.int (t - 1), .int (t - 1 + far)]) n1) _ _ eW)
      have e3 : upd (upd H7 b1 (.lst [V.int (t - 1), .int (t - 1 + far)])) b2 (.lst (xsS ++ [V.int (t - 1), .int (t - 1 + far)])) b2 = _ := upd_same
      generalize upd (upd H7 b1 (.lst [V.int (t - 1), .int (t - 1 + far)])) b2 (.lst (xsS ++ [V.int (t - 1), .int (t - 1 + far)])) = H8 at t3 e3 eW3 ⊢
      have s8 := s6.trans t3
      obtain ⟨U, aU, hU⟩ := due (i := 2) s8 (by decide)
      have bad : ∀ x ∈ xsS ++ [V.int (t - 1), .int (t - 1 + far)], Kind K H8 x ∧ inB (t - 1) x = false := fun x hx => by
        rcases List.mem_append.mp hx with hx | hx
        · obtain ⟨k, _, o⟩ := noS x hx
          exact ⟨k.mono s8, o (t - 1)⟩
        · have no : ∀ n : Int, t - 1 ≤ n → inB (t - 1) (.int n) = false := fun n hn => by
            cases h : inB (t - 1) (.int n) with
            | false => rfl
            | true => have := (inB_iff.mp h).2; omega
          simp only [List.mem_cons, List.not_mem_nil, or_false] at hx
          rcases hx with rfl | rfl
          · exact ⟨.int _, no (t - 1) (by omega)⟩
          · exact ⟨.int _, no (t - 1 + far) (by omega)⟩
      refine ⟨.ref DU, rfl, DU, vsD, ((2 : Nat) : Int), .ref U, rfl, rfl, SqL.of (s8 _ _ hD), aU, ?_⟩
      refine ⟨fR, b2, U, .ref W, _, spWithRound K cR, cR, dueB 2, rfl, e3, ?_, hU, heldR, .inr (.inr (.inl ⟨rfl, rfl⟩)), fun x hx G sG Q' E hE => ⟨W, (i : Int), t, x, rfl, sG _ _ eW3, T, (bad x hx).1.mono sG, (bad x hx).2, hE G (Same.refl G)⟩, fun G sG => ⟨true, rfl, iteF ⟨_, rfl, s8.trans sG⟩⟩⟩
      rw [List.length_append, lS]
      show 9 + 2 ≤ 900
      decide
    rintro σ H7 ⟨z6', rfl, s7⟩
    -- one team twice
    have f1 : 0 ≤ far % t ∧ far % t < t := ⟨Int.emod_nonneg _ (by omega), Int.emod_lt_of_pos _ (by omega)⟩
    have dueX : ∀ {G : Hp} {i : Nat}, ExtN H7 G → i < 6 → ∃ U, atI vsD (i : Int) = some (.ref U) ∧ G U = some (.lst ((dueB i).map V.bl)) := fun {G i} s hi => by
      obtain ⟨v, hv, q', rfl, e⟩ := kD.at' (dueB_at hi)
      exact ⟨q', atI_nat hv, s _ _ (s7 _ _ e) fun ps z => HO.noConfusion z⟩
    refine ⟨.int t, rfl, t, 1, rfl, rfl, .int far, rfl, .int t, rfl, far, t, rfl, rfl, (by omega : (0 : Int) < t), by show 3 ≤ sizeLine; decide, fun TP nTP => ⟨TP, rfl, ⟨_, SqT.of upd_same⟩, for_tup (xs := [.int 0, .int (t - 1), .int (far % t)]) (fun i σ H' => ∃ y8, σ = [some (.ref a), some (.int far), some (.ref DU), y3, some (.int t), some (.ref ST), z6', y7, y8, none, none] ∧ ExtN (upd H7 TP (.tup [.int 0, .int (t - 1), .int (far % t)])) H' ∧ Tabs [(PL, (("law" : Str) ++ ".<locals>.") ++ "<lambda>")] H') ⟨_, rfl, ExtN.refl _, fun z hz => ?_⟩ (fun i σ H' _ h => ?_) ?_ ?_⟩⟩
    · rw [List.mem_singleton.mp hz]
      exact TabS.nil (same_upd nTP _ _ (s7 _ _ (sB _ _ hPL)))
    · obtain ⟨y8, rfl, eN, _⟩ := h
      exact SqT.of (eN _ _ upd_same fun ps z => HO.noConfusion z)
    · rintro i x σ H8 hx ⟨y8, rfl, eN0, tb8⟩
      obtain ⟨u, rfl, u0, u1⟩ : ∃ u : Int, x = .int u ∧ 0 ≤ u ∧ u < t := by
        have z := List.mem_of_getElem? hx
        simp only [List.mem_cons, List.not_mem_nil, or_false] at z
        rcases z with rfl | rfl | rfl
        · exact ⟨_, rfl, by omega, by omega⟩
        · exact ⟨_, rfl, by omega, by omega⟩
        · exact ⟨_, rfl, f1.1, f1.2⟩
      have eN := (ExtN.of (same_upd (o := .tup [.int 0, .int (t - 1), .int (far % t)]) nTP)).trans eN0
      refine ⟨tb8, fun H9 e9 tb9 => ⟨.int t, rfl, .int u, rfl, .int t, .int u, rfl, Same.refl H9, fun Q' E hE => ⟨t, u, rfl, T, u0, u1, hE H9 (Same.refl H9)⟩, fun G p sG np eG => ?_⟩⟩
      have eA := (eN.trans e9).trans (ExtN.of sG)
      have hDG : G DU = some (.lst vsD) := eA _ _ (s7 _ _ hD) fun ps z => HO.noConfusion z
      obtain ⟨U, aU, hU⟩ := dueX (i := 4) eA (by decide)
      refine ⟨.ref DU, rfl, DU, vsD, ((4 : Nat) : Int), .ref U, rfl, rfl, SqL.of hDG, aU, .list ((dueB 4).map PyData.bool), .list ((dueB 4).map PyData.bool), .lst (SqL.of eG) (dp_bools _), .lst (SqL.of hU) (dp_bools _), rfl, rfl, _, rfl, ?_⟩
      rw [SeqAt.eqv_refl _ rfl]
      exact iteF ⟨_, rfl, eN0.trans (e9.trans (ExtN.of sG)), tb9.ext sG⟩
    rintro σ H8 ⟨y8, rfl, eN, _⟩
    have eN := (ExtN.of (same_upd (o := .tup [.int 0, .int (t - 1), .int (far % t)]) nTP)).trans eN
    have hD := eN _ _ (s7 _ _ hD) fun ps z => HO.noConfusion z
    have due : ∀ {G : Hp} {i : Nat}, Same H8 G → i < 6 → ∃ U, atI vsD (i : Int) = some (.ref U) ∧ G U = some (.lst ((dueB i).map V.bl)) := fun {G i} s hi => by
      obtain ⟨U, aU, hU⟩ := dueX eN hi
      exact ⟨U, aU, s _ _ hU⟩
    clear dueX
    -- few teams, plans that are none
    refine ⟨.int far, rfl, far, 10, rfl, rfl, (by decide : (0 : Int) < 10), far % 10, 2, rfl, rfl, .inr ⟨by decide, by decide⟩, 2, far % 10 * 2, rfl, rfl, ?_⟩
    refine (?_ : gName 9 (V.int (2 + far % 10 * 2)) _ _ _)
    have few20 : 2 + far % 10 * 2 ≤ 20 := by omega
    have Tf : TOk (2 + far % 10 * 2) := ⟨by omega, by omega⟩
    generalize 2 + far % 10 * 2 = few at few20 Tf ⊢
    have few2 := Tf.two
    rw [gName]
    dsimp only
    rw [tSeq, tAsg]
    refine p12 rfl rfl H8 _ fun H9 v s9 tr => ?_
    obtain ⟨L10, x10, rfl, e10, k10⟩ : ∃ L xs, v = .ref L ∧ H9 L = some (.lst xs) ∧ TrAll H9 xs (p12L few far) := by
      cases tr with
      | lst h k => exact ⟨_, _, rfl, h, k⟩
    clear tr
    refine ⟨.ref L10, rfl, p6 rfl rfl H9 _ fun H10 v s10 tr => ?_⟩
    obtain ⟨L11, x11, rfl, e11, k11⟩ : ∃ L xs, v = .ref L ∧ H10 L = some (.lst xs) ∧ TrAll H10 xs (p6L few far) := by
      cases tr with
      | lst h k => exact ⟨_, _, rfl, h, k⟩
    clear tr
    have l10 : x10.length = 12 := k10.len
    have l11 : x11.length = 6 := k11.len
    refine ⟨L10, L11, x10, x11, rfl, rfl, s10 _ _ e10, e11, cat_fits (by omega), fun L12 n12 => ?_⟩
    have s12 := same_upd (o := .lst (x10 ++ x11)) n12
    have e12 : upd H10 L12 (.lst (x10 ++ x11)) L12 = _ := upd_same
    have k12 := ((k10.mono s10).app k11).mono s12
    generalize upd H10 L12 (.lst (x10 ++ x11)) = H11 at s12 e12 k12 ⊢
    refine ⟨.ref L12, rfl, p4 rfl rfl H11 _ fun H12 v s13 tr => ?_⟩
    obtain ⟨L13, x13, rfl, e13, k13⟩ : ∃ L xs, v = .ref L ∧ H12 L = some (.lst xs) ∧ TrAll H12 xs (p4L few far) := by
      cases tr with
      | lst h k => exact ⟨_, _, rfl, h, k⟩
    clear tr
    have l13 : x13.length = 4 := k13.len
    refine ⟨L12, L13, x10 ++ x11, x13, rfl, rfl, s13 _ _ e12, e13, cat_fits (by rw [List.length_append]; omega), fun L14 n14 => ?_⟩
    have s14 := same_upd (o := .lst ((x10 ++ x11) ++ x13)) n14
    have e14 : upd H12 L14 (.lst ((x10 ++ x11) ++ x13)) L14 = _ := upd_same
    have k14 : TrAll (upd H12 L14 (.lst ((x10 ++ x11) ++ x13))) ((x10 ++ x11) ++ x13) (badPlans few far) := ((k12.mono s13).app k13).mono s14
    have sC := (((s9.trans s10).trans s12).trans s13).trans s14
    generalize upd H12 L14 (.lst ((x10 ++ x11) ++ x13)) = H14 at s14 e14 k14 sC ⊢
    have l14 : ((x10 ++ x11) ++ x13).length = 22 := by rw [List.length_append, List.length_append]; omega
    generalize (x10 ++ x11) ++ x13 = xs at e14 k14 l14 ⊢
    clear k10 k11 k12 k13 e10 e11 e12 e13 n12 n14 s9 s10 s12 s13 s14
    refine ⟨2, rfl, by decide, by decide, for_range (n := 2) (fun i σ H' => ∃ y6, σ = [some (.ref a), some (.int far), some (.ref DU), y3, some (.int t), some (.ref ST), y6, y7, y8, some (.int few), some (.ref L14)] ∧ Same H14 H') ⟨_, rfl, Same.refl H14⟩ ?_ ?_⟩
    · rintro i σ H15 hi ⟨z6, rfl, s15⟩
      rw [Int.zero_add]
      refine ⟨.int (i : Int), rfl, .int few, rfl, by show 2 ≤ sizeLine; decide, fun W nW => ?_⟩
      have t1 := same_upd (o := .tup [V.int (i : Int), .int few]) nW
      have eW : upd H15 W (.tup [V.int (i : Int), .int few]) W = _ := upd_same
      generalize upd H15 W (.tup [V.int (i : Int), .int few]) = H16 at t1 eW ⊢
      have s16 := s15.trans t1
      obtain ⟨U, aU, hU⟩ := due (i := 3) (sC.trans s16) (by decide)
      refine ⟨.ref L14, rfl, .ref DU, rfl, DU, vsD, ((3 : Nat) : Int), .ref U, rfl, rfl, SqL.of (s16 _ _ (sC _ _ hD)), aU, ?_⟩
      refine ⟨fP, L14, U, .ref W, xs, spWithPlan K cP cG, cP, dueB 3, rfl, s16 _ _ e14, by omega, hU, heldP, .inr (.inr (.inr (.inl ⟨rfl, rfl⟩))), fun x hx G sG Q' E hE => ?_, fun G sG => ⟨true, rfl, iteF ⟨_, rfl, s16.trans sG⟩⟩⟩
      obtain ⟨d, hd, td⟩ := k14.mem hx
      obtain ⟨no, sl⟩ := bad_not few2 far0 d hd
      exact ⟨W, (i : Int), few, x, d, cP, rfl, sG _ _ eW, by omega, by omega, Tf, few20, td.mono (s16.trans sG), sl, .inl ⟨no, rfl⟩, hE⟩
    rintro σ H15 ⟨z6, rfl, s15⟩
    have sD := sC.trans s15
    -- plans that are not good
    refine ⟨.int few, rfl, by show 2 ≤ sizeLine; decide, fun W nW => ?_⟩
    have t1 := same_upd (o := .tup [V.int 1, .int few]) nW
    have eW : upd H15 W (.tup [V.int 1, .int few]) W = _ := upd_same
    generalize upd H15 W (.tup [V.int 1, .int few]) = H16 at t1 eW ⊢
    refine g3 rfl rfl H16 _ fun H17 v s17 tr => ?_
    obtain ⟨L17, x17, rfl, e17, k17⟩ : ∃ L xs, v = .ref L ∧ H17 L = some (.lst xs) ∧ TrAll H17 xs (g3L few far) := by
      cases tr with
      | lst h k => exact ⟨_, _, rfl, h, k⟩
    clear tr
    have l17 : x17.length = 3 := k17.len
    have sE := (sD.trans t1).trans s17
    obtain ⟨U, aU, hU⟩ := due (i := 5) sE (by decide)
    refine ⟨.ref DU, rfl, DU, vsD, ((5 : Nat) : Int), .ref U, rfl, rfl, SqL.of (sE _ _ hD), aU, ?_⟩
    refine ⟨fP, L17, U, .ref W, x17, spWithPlan K cP cG, cG, dueB 5, rfl, e17, by omega, hU, heldP, .inr (.inr (.inr (.inr (.inr ⟨rfl, rfl⟩)))), fun x hx G sG Q' E hE => ?_, fun H18 s18 => ⟨true, rfl, iteF ?_⟩⟩
    · obtain ⟨d, hd, td⟩ := k17.mem hx
      obtain ⟨yes, no, sl⟩ := g3_not (far := far) Tf few20 d hd
      exact ⟨W, 1, few, x, d, cG, rfl, sG _ _ (s17 _ _ eW), by decide, by decide, Tf, few20, td.mono sG, sl, .inr ⟨rfl, yes, no, rfl⟩, hE⟩
    have sF := sE.trans s18
    -- the told plan without its first round
    have last : ∀ (H : Hp), tAndV (tOp (fun x y H Q => y = .non ∧ Q (.bl (decide (x = .non))) H) (tCall spBreak [] E0 (tCons (tC (.int 2)) (tCons (tC (.int 0)) tNil))) (tC .non)) (tOp (rEqD K) (tCall spBreaksOk [] E0 (tCons (tC (.int 2)) (tCons (tLst (tCons (tLst (tCons (tTup (tCons (tC (.int 1)) (tCons (tC (.int 0)) tNil))) tNil)) tNil)) tNil))) (tLst tNil))
        [some (.ref a), some (.int far), some (.ref DU), y3, some (.int t), some (.ref ST), z6, y7, y8, some (.int few), some (.ref L14)] H Q := fun H => by
      refine ⟨2, 0, rfl, ⟨by decide, by decide⟩, by decide, by decide, fun h => absurd h (by decide), fun _ => ⟨rfl, true, rfl, iteT ?_⟩⟩
      refine ⟨by show 2 ≤ sizeLine; decide, fun p1 n1 => ⟨by show 1 ≤ sizeLine; decide, fun p2 n2 => ⟨by show 1 ≤ sizeLine; decide, fun p3 n3 => ?_⟩⟩⟩
      have s1 := same_upd (o := .tup [V.int 1, .int 0]) n1
      have hp : All2 (PairAt (upd H p1 (.tup [V.int 1, .int 0]))) [.ref p1] [(1, 0)] := .cons ⟨p1, rfl, upd_same⟩ .nil
      obtain ⟨s2, x2⟩ := new_list monPair n2 hp
      have hr : All2 (RowAt (upd (upd H p1 (.tup [V.int 1, .int 0])) p2 (.lst [.ref p1]))) [.ref p2] [[(1, 0)]] := .cons x2 .nil
      obtain ⟨s3, x3⟩ := new_list monRow n3 hr
      have T2 : TOk 2 := ⟨by decide, by decide⟩
      refine ⟨2, .ref p3, [[(1, 0)]], rfl, T2, by decide, x3, fun row hrow p hpp => ?_, ⟨by decide, fun row hrow => ?_, by decide⟩, by decide +kernel, fun G q' sG nq hR => ?_⟩
      · rw [List.mem_singleton.mp hrow] at hpp
        rw [List.mem_singleton.mp hpp]
        decide
      · rw [List.mem_singleton.mp hrow]
        decide
      obtain ⟨q2, us, eq2, hq2, ku⟩ := hR
      cases eq2
      have us0 : us = [] := by
        have := ku.len
        exact List.eq_nil_of_length_eq_zero (this.trans rfl)
      subst us0
      refine ⟨Nat.zero_le _, fun e ne => ⟨.list [], .list [], .lst (SqL.of (same_upd ne _ _ hq2)) .nil, .lst (SqL.of upd_same) .nil, rfl, rfl, ?_⟩⟩
      rw [SeqAt.eqv_refl _ rfl]
      exact q _
    refine ⟨.int few, rfl, few, 2, rfl, rfl, _, rfl, ite2 (fun g => ?_) (fun g => ?_)⟩
    · have g : few > 2 := of_decide_eq_true g
      refine ⟨.int few, rfl, .int few, rfl, few, rfl, Tf, by omega, fun H19 pp s19 hP => ?_⟩
      obtain ⟨vs, hp, kP⟩ := hP
      refine ⟨1, rfl, pp, vs, rfl, SqL.of hp, fun p20 n20 => ?_⟩
      obtain ⟨s20, x20⟩ := new_from (i := 1) monRow n20 kP (by decide)
      generalize upd H19 p20 (.lst (cutV vs (some (1)) none)) = H20 at s20 x20 ⊢
      have x20 : LAt RowAt H20 (.ref p20) ((planOf few (few - 1).toNat).drop 1) := x20
      have fit : Fit few ((planOf few (few - 1).toNat).drop 1) := fit_of 20 20 (fun row hr => told_valid Tf (List.mem_of_mem_drop hr)) (by rw [List.length_drop, planOf_len]; omega) (fun row hr => by
        obtain ⟨r, _, rfl⟩ := mem_plan (List.mem_of_mem_drop hr)
        exact Nat.le_trans (rowOf_len few (r : Int) few.toNat) (by omega)) (by decide) (by decide) (by decide)
      have no : goodB few ((planOf few (few - 1).toNat).drop 1) = false := (few_good Tf few20).1.resolve_left (by omega)
      refine ⟨fB, .int few, .ref p20, spAskNo K cT cP cG true, cG, dueB 5, rfl, heldB, .inr (.inr (.inr (.inr (.inr ⟨rfl, rfl⟩)))), fun Q' E hE => ⟨.int few, .ref p20, planD ((planOf few (few - 1).toNat).drop 1), cG, rfl, .int _, plan_tr x20, slimD_planD fit.sized, .inr ⟨few, rfl, Tf, few20, .inr ⟨rfl, isPlanD_planD fit.valid, ?_, rfl⟩⟩, hE⟩, fun G p sG np eG => ?_⟩
      · unfold goodD
        rw [rowsD_planD]
        exact no
      have sG' := ((sF.trans s19).trans s20).trans sG
      obtain ⟨U, aU, hU⟩ := due (i := 5) sG' (by decide)
      refine ⟨.ref DU, rfl, DU, vsD, ((5 : Nat) : Int), .ref U, rfl, rfl, SqL.of (sG' _ _ hD), aU, .list ((dueB 5).map PyData.bool), .list ((dueB 5).map PyData.bool), .lst (SqL.of eG) (dp_bools _), .lst (SqL.of hU) (dp_bools _), rfl, rfl, _, rfl, ?_⟩
      rw [SeqAt.eqv_refl _ rfl]
      exact iteF (last G)
    · exact iteF (last H18)
end
end EM
namespace EM
open PySem PySem.Spec PyProof.Rows L2
theorem def_mk {K : PySem.W.Frag} {h : Heap} {mg : Str → Option Value} (X : K.In h) (G : h.Ns mainGlobals mg) {x : Str} {st : Stmt} {ps : List Str} {f : Addr} {oc : Value} {od an : Option Addr} {osl : Array (Option Value)} {kV doc pm cdv ct : Value}
    (a : PySem.W.nsIn K mainGlobals x = some (some (.ref f))) (l : K.lookup f = some ⟨oc, od, .func (PySem.W.fnOf x x (defArgs st) (defBody st) (defScope st) .none kV doc pm an cdv ct), osl⟩) (c : PySem.W.codeIn K cdv x = true) (k : PySem.W.keepIn K (.ref f) = true)
    (b : ∀ (kV doc pm : Value) (an : Option Addr) (cdv ct : Value) (us : List Value), us.length = ps.length → bindArgs (PySem.W.fnOf x x (defArgs st) (defBody st) (defScope st) .none kV doc pm an cdv ct) ⟨us, []⟩ = pure (ps.zip us)) : DefAt K mg x st ps :=
  ⟨f, _, fun_mk (st := st) l c k, (fun_mk (st := st) l c k).binds b, PySem.W.mg_of X G a⟩
theorem int_mk {K : PySem.W.Frag} {h : Heap} {mg : Str → Option Value} {x : Str} {n : Int} {tk : Tok} (X : K.In h) (G : h.Ns mainGlobals mg) (a : PySem.W.nsIn K mainGlobals x = some (some (.int n tk))) : ∃ tk, mg x = some (.int n tk) := ⟨tk, PySem.W.mg_of X G a⟩
theorem bits_log {z : Int} (h : Builtin.Int.intBits z ≤ 1048576) : bits20 z := by
  unfold Builtin.Int.intBits at h
  show z.natAbs.log2 ≤ 1048576
  by_cases e : z.natAbs = 0
  · rw [e]
    decide
  · rcases z with (_ | n) | n <;> simp_all <;> omega
theorem meth_mk {K : PySem.W.Frag} {C : Addr} {m qual : Str} {st : Stmt} {ps : List Str} {f : Addr} {oc : Value} {od an : Option Addr} {osl : Array (Option Value)} {kV doc pm cdv ct : Value} (a : PySem.W.findIn K (.ref C) m = some (some (.ref f))) (i : PySem.W.isFn K (.ref f) = true)
    (l : K.lookup f = some ⟨oc, od, .func (PySem.W.fnOf m qual (defArgs st) (defBody st) (defScope st) .none kV doc pm an cdv ct), osl⟩) (c : PySem.W.codeIn K cdv qual = true) (k : PySem.W.keepIn K (.ref f) = true)
    (b : ∀ (kV doc pm : Value) (an : Option Addr) (cdv ct : Value) (us : List Value), us.length = ps.length → bindArgs (PySem.W.fnOf m qual (defArgs st) (defBody st) (defScope st) .none kV doc pm an cdv ct) ⟨us, []⟩ = pure (ps.zip us)) : MethAt K C m qual st ps :=
  ⟨f, _, fun_mk (st := st) l c k, (fun_mk (st := st) l c k).binds b, ⟨a, i, k⟩⟩
/-- what the top has made of one class of answers -/
structure ClsFacts (K : PySem.W.Frag) (C : Addr) : Prop where
  pg : PySem.W.plainGet K C Str.empty = true
  hd : PySem.W.hasDictIn K C = true
  po : PySem.W.plainOver K C = true
  sa : PySem.W.findIn K (.ref C) "__setattr__" = some (some (.builtin "object.__setattr__"))
  ha : PySem.W.findIn K (.ref C) "__class__" = some (some (.builtin "object.__class__"))
  hm : PySem.W.mroIn K C (.type "object") = some true
theorem ClsFacts.ins {K : PySem.W.Frag} {C : Addr} (x : ClsFacts K C) (hn : PySem.W.specialIn K (.builtin "object.__class__") "__get__" = some (some (.builtin "getset_descriptor.__get__"))) (ht : PySem.W.takesIn K (.builtin "object.__class__") = some true) : InsC K C := ⟨⟨x.pg, x.hd, x.po, x.sa⟩, x.ha, hn, ht, x.hm⟩
/-- which of the four classes is which -/
structure Kits (K : PySem.W.Frag) (c : Cs) : Prop where
  gg : PySem.W.kitOne K (.ref c.g) (.ref c.g) = some true
  gl : PySem.W.kitOne K (.ref c.g) (.ref c.l) = some false
  gt : PySem.W.kitOne K (.ref c.g) (.ref c.t) = some false
  gn : PySem.W.kitOne K (.ref c.g) (.ref c.n) = some false
  lg : PySem.W.kitOne K (.ref c.l) (.ref c.g) = some false
  ll : PySem.W.kitOne K (.ref c.l) (.ref c.l) = some true
  lt : PySem.W.kitOne K (.ref c.l) (.ref c.t) = some false
  ln : PySem.W.kitOne K (.ref c.l) (.ref c.n) = some false
  tg : PySem.W.kitOne K (.ref c.t) (.ref c.g) = some false
  tl : PySem.W.kitOne K (.ref c.t) (.ref c.l) = some false
  tt : PySem.W.kitOne K (.ref c.t) (.ref c.t) = some true
  tn : PySem.W.kitOne K (.ref c.t) (.ref c.n) = some false
  ng : PySem.W.kitOne K (.ref c.n) (.ref c.g) = some false
  nl : PySem.W.kitOne K (.ref c.n) (.ref c.l) = some false
  nt : PySem.W.kitOne K (.ref c.n) (.ref c.t) = some false
  nn : PySem.W.kitOne K (.ref c.n) (.ref c.n) = some true
theorem ansC_mk {K : PySem.W.Frag} {mg : Str → Option Value} {c : Cs} (mG : mg "Good" = some (.ref c.g)) (mL : mg "Lone" = some (.ref c.l)) (mT : mg "Twice" = some (.ref c.t)) (mN : mg "Never" = some (.ref c.n)) (ig : InsC K c.g) (il : InsC K c.l) (it : InsC K c.t) (ik : InsC K c.n) (k : Kits K c)
    (a1 : NoAttr K c.l "number") (a2 : NoAttr K c.l "team") (a3 : NoAttr K c.t "one") (a4 : NoAttr K c.t "other") (a5 : NoAttr K c.n "one") (a6 : NoAttr K c.n "other") : AnsC K mg c :=
  ⟨mG, mL, mT, mN, fun A => by cases A with
    | good => exact ig
    | lone _ _ => exact il
    | twice _ _ => exact it
    | never _ _ => exact ik, fun A B => by cases A with
    | good => cases B with
      | good => exact k.gg
      | lone _ _ => exact k.gl
      | twice _ _ => exact k.gt
      | never _ _ => exact k.gn
    | lone _ _ => cases B with
      | good => exact k.lg
      | lone _ _ => exact k.ll
      | twice _ _ => exact k.lt
      | never _ _ => exact k.ln
    | twice _ _ => cases B with
      | good => exact k.tg
      | lone _ _ => exact k.tl
      | twice _ _ => exact k.tt
      | never _ _ => exact k.tn
    | never _ _ => cases B with
      | good => exact k.ng
      | lone _ _ => exact k.nl
      | twice _ _ => exact k.nt
      | never _ _ => exact k.nn, a1, a2, a3, a4, a5, a6⟩
structure Text (K : PySem.W.Frag) (mg : Str → Option Value) (c : Cs) (cT cA cR cP cL cG cM : Addr) : Prop where
  names : Names mg
  n_list : mg "list" = none
  n_tuple : mg "tuple" = none
  n_enumerate : mg "enumerate" = none
  n_ValueError : mg "ValueError" = none
  i_MOST_JUDGED : ∃ tk, mg "MOST_JUDGED" = some (.int 20 tk)
  d_is_number : DefAt K mg "is_number" t_is_number ["value"]
  d_is_counted : DefAt K mg "is_counted" t_is_counted ["many", "value"]
  d_check_teams : DefAt K mg "check_teams" t_check_teams ["teams"]
  d_check_judged_teams : DefAt K mg "check_judged_teams" t_check_judged_teams ["teams"]
  d_check_team : DefAt K mg "check_team" t_check_team ["teams", "team"]
  d_check_round : DefAt K mg "check_round" t_check_round ["teams", "number"]
  d_check_plan : DefAt K mg "check_plan" t_check_plan ["teams", "plan"]
  d__is_pair : DefAt K mg "_is_pair" t__is_pair ["teams", "pair"]
  d_opponent : DefAt K mg "opponent" t_opponent ["teams", "team", "number"]
  d_at_home : DefAt K mg "at_home" t_at_home ["teams", "team", "number"]
  d_round_of : DefAt K mg "round_of" t_round_of ["teams", "one", "other"]
  d_break_of : DefAt K mg "break_of" t_break_of ["teams", "team"]
  d__check_team_in_round : DefAt K mg "_check_team_in_round" t__check_team_in_round ["teams", "team", "number"]
  d_pairs_of_each : DefAt K mg "pairs_of_each" t_pairs_of_each ["teams", "pairs"]
  d_pairs_of_two : DefAt K mg "pairs_of_two" t_pairs_of_two ["teams", "plan"]
  d_judged : DefAt K mg "judged" t_judged ["teams", "plan"]
  d_breaks : DefAt K mg "breaks" t_breaks ["teams", "plan"]
  d__lone_team : DefAt K mg "_lone_team" t__lone_team ["teams", "plan"]
  d__wrong_two : DefAt K mg "_wrong_two" t__wrong_two ["teams", "plan"]
  d__home_of_each : DefAt K mg "_home_of_each" t__home_of_each ["teams", "pairs"]
  d__law_cell_at : DefAt K mg "_law_cell_at" t__law_cell_at ["_law_script", "_law_k"]
  d__law_draw : DefAt K mg "_law_draw" t__law_draw ["_law_cell", "_law_k", "_law_many"]
  d__law_value : DefAt K mg "_law_value" t__law_value ["_law_cell", "_law_k", "_law_limit"]
  d__law_teams : DefAt K mg "_law_teams" t__law_teams ["_law_script", "_law_k"]
  d__law_plan : DefAt K mg "_law_plan" t__law_plan ["_law_teams_here"]
  d__law_kinds : DefAt K mg "_law_kinds" t__law_kinds ["_law_error"]
  d__law_with_teams : DefAt K mg "_law_with_teams" t__law_with_teams ["_law_door", "_law_teams_here"]
  d__law_with_team : DefAt K mg "_law_with_team" t__law_with_team ["_law_where", "_law_team"]
  d__law_with_round : DefAt K mg "_law_with_round" t__law_with_round ["_law_where", "_law_number"]
  d__law_with_plan : DefAt K mg "_law_with_plan" t__law_with_plan ["_law_where", "_law_plan_here"]
  d__law_told : DefAt K mg "_law_told" t__law_told ["_law_ask", "_law_one", "_law_other"]
  d__law_all : DefAt K mg "_law_all" t__law_all ["_law_ask", "_law_one", "_law_things", "_law_due"]
  mc_g : mg "Good" = some (.ref c.g)
  mc_l : mg "Lone" = some (.ref c.l)
  mc_t : mg "Twice" = some (.ref c.t)
  mc_n : mg "Never" = some (.ref c.n)
  hn : PySem.W.specialIn K (.builtin "object.__class__") "__get__" = some (some (.builtin "getset_descriptor.__get__"))
  ht : PySem.W.takesIn K (.builtin "object.__class__") = some true
  cf_g : ClsFacts K c.g
  cf_l : ClsFacts K c.l
  cf_t : ClsFacts K c.t
  cf_n : ClsFacts K c.n
  kits : Kits K c
  mkg : MkO K c.g
  nol0 : PySem.W.findIn K (.ref c.l) "number" = some none
  nol1 : PySem.W.findIn K (.ref c.l) "team" = some none
  init_l : MethAt K c.l "__init__" "Lone.__init__" i_Lone ["self", "number", "team"]
  mkl : PySem.W.makesIn K c.l = true
  kpl : PySem.W.keepIn K (.ref c.l) = true
  not0 : PySem.W.findIn K (.ref c.t) "one" = some none
  not1 : PySem.W.findIn K (.ref c.t) "other" = some none
  init_t : MethAt K c.t "__init__" "Twice.__init__" i_Twice ["self", "one", "other"]
  mkt : PySem.W.makesIn K c.t = true
  kpt : PySem.W.keepIn K (.ref c.t) = true
  non0 : PySem.W.findIn K (.ref c.n) "one" = some none
  non1 : PySem.W.findIn K (.ref c.n) "other" = some none
  init_n : MethAt K c.n "__init__" "Never.__init__" i_Never ["self", "one", "other"]
  mkn : PySem.W.makesIn K c.n = true
  kpn : PySem.W.keepIn K (.ref c.n) = true
  e_T : ErrC K mg "BadTeams" cT
  e_A : ErrC K mg "BadTeam" cA
  e_R : ErrC K mg "BadRound" cR
  e_P : ErrC K mg "BadPlan" cP
  e_L : ErrC K mg "Alike" cL
  e_G : ErrC K mg "NotGood" cG
  mM : mg "MeetError" = some (.ref cM)
  h_T : Hits K cT cA cR cP cL cG cM cT true false false false false false
  h_A : Hits K cT cA cR cP cL cG cM cA false true false false false false
  h_R : Hits K cT cA cR cP cL cG cM cR false false true false false false
  h_P : Hits K cT cA cR cP cL cG cM cP false false false true false false
  h_L : Hits K cT cA cR cP cL cG cM cL false false false false true false
  h_G : Hits K cT cA cR cP cL cG cM cG false false false false false true
theorem Text.hits {K : PySem.W.Frag} {mg : Str → Option Value} {c : Cs} {cT cA cR cP cL cG cM : Addr} (T : Text K mg c cT cA cR cP cL cG cM) {P : Program} {w : World} {base : Heap} {fk : Addr} {fd : FuncData} (F : Fun K "_law_kinds" "_law_kinds" t__law_kinds fk fd) (B : Binds K fd ["_law_error"] []) (D : Addr) (bs : List Bool)
    (h : Told5 cT cA cR cP cL cG D bs) : PySem.W.exmOne K (.ref D) (.ref cM) = some true ∧ ∀ y, FnX P w K mg base fk ["_law_error"] y D (spKinds y bs) := by
  have E : Errs K mg cT cA cR cP cL cG cM := ⟨T.e_T, T.e_A, T.e_R, T.e_P, T.e_L, T.e_G, T.mM, T.n_ValueError⟩
  rcases h with ⟨rfl, rfl⟩ | ⟨rfl, rfl⟩ | ⟨rfl, rfl⟩ | ⟨rfl, rfl⟩ | ⟨rfl, rfl⟩ | ⟨rfl, rfl⟩
  · exact ⟨T.h_T.em, fun y => fx_kinds F B T.names E T.h_T⟩
  · exact ⟨T.h_A.em, fun y => fx_kinds F B T.names E T.h_A⟩
  · exact ⟨T.h_R.em, fun y => fx_kinds F B T.names E T.h_R⟩
  · exact ⟨T.h_P.em, fun y => fx_kinds F B T.names E T.h_P⟩
  · exact ⟨T.h_L.em, fun y => fx_kinds F B T.names E T.h_L⟩
  · exact ⟨T.h_G.em, fun y => fx_kinds F B T.names E T.h_G⟩
theorem told_short {cT cA cR cP cL cG : Addr} (D : Addr) (bs : List Bool) (h : Told5 cT cA cR cP cL cG D bs) : SeqAt.shaped (.list (bs.map PyData.bool)) = true := by
  rcases h with ⟨_, rfl⟩ | ⟨_, rfl⟩ | ⟨_, rfl⟩ | ⟨_, rfl⟩ | ⟨_, rfl⟩ | ⟨_, rfl⟩ <;> rfl
theorem Text.law {P : Program} {w : World} {K : PySem.W.Frag} {mg : Str → Option Value} {base : Heap} {c : Cs} {cT cA cR cP cL cG cM : Addr} (T : Text K mg c cT cA cR cP cL cG cM) {fl PL cLw : Addr} {oc : Value} {od an : Option Addr} {osl : Array (Option Value)} {kV doc pm ct : Value}
    (lk : K.lookup fl = some ⟨oc, od, .func (PySem.W.fnOf "law" "law" (defArgs t_law) (defBody t_law) (defScope t_law) .none kV doc pm an (.ref cLw) ct), osl⟩) (hcd : PySem.W.codeIn K (.ref cLw) "law" = true) (TB : LamX.TabB base mg cLw PL) :
    FnOk P w K mg base CX0 24 fl (PySem.W.fnOf "law" "law" (defArgs t_law) (defBody t_law) (defScope t_law) .none kV doc pm an (.ref cLw) ct) ["_law_script"] (spLaw5 K PL) := by
  have N := T.names
  have Z2 : Names2 mg := ⟨T.n_list, T.n_tuple, T.n_enumerate, T.i_MOST_JUDGED⟩
  have Z : AnsC K mg c := ansC_mk T.mc_g T.mc_l T.mc_t T.mc_n (T.cf_g.ins T.hn T.ht) (T.cf_l.ins T.hn T.ht) (T.cf_t.ins T.hn T.ht) (T.cf_n.ins T.hn T.ht) T.kits T.nol0 T.nol1 T.not0 T.not1 T.non0 T.non1
  have num := fn_isNumber (P := P) (w := w) (base := base) T.d_is_number N
  have cnt := fn_counted T.d_is_counted num
  have ct := fn_chkTeams T.d_check_teams num
  have ca := fn_chkTeam T.d_check_team cnt
  have cr := fn_chkRound T.d_check_round cnt
  have tr := fn_chkTR T.d__check_team_in_round ct ca cr
  have op := fn_opponent T.d_opponent tr
  have ho := fn_atHome T.d_at_home tr
  have bo := fn_breakOf T.d_break_of ct ca
  have jt := fn_chkJT T.d_check_judged_teams Z2 ct
  have cp := fn_chkPlan T.d_check_plan N Z2 (fn_isPair T.d__is_pair N Z2 cnt)
  have ea := fn_each (P := P) (w := w) (base := base) T.d_pairs_of_each
  have tw := fn_two0 (P := P) (w := w) (base := base) T.d_pairs_of_two N
  have M : MkAns P w K mg base c := ⟨T.init_l.makes T.mkl T.kpl fun f fd F => ok_init_Lone (Z.ins (.lone 0 0)).cls T.nol0 T.nol1 F, T.init_t.makes T.mkt T.kpt fun f fd F => ok_init_Twice (Z.ins (.twice 0 0)).cls T.not0 T.not1 F, T.init_n.makes T.mkn T.kpn fun f fd F => ok_init_Never (Z.ins (.never 0 0)).cls T.non0 T.non1 F⟩
  have jd := fn_judged T.d_judged T.mc_g T.mkg jt cp (fn_loneTeam T.d__lone_team Z2 T.mc_l M ea) (fn_wrongTwo T.d__wrong_two T.mc_t T.mc_n M tw)
  have br := fn_brks T.d_breaks N Z jd (fn_homes T.d__home_of_each)
  have cell := fn_cell (P := P) (w := w) (base := base) T.d__law_cell_at N
  have draw := fn_draw (P := P) (w := w) (base := base) T.d__law_draw
  have val := fn_value T.d__law_value draw
  have tm := fn_teams T.d__law_teams cell draw val
  have pl := fn_plan T.d__law_plan N op ho
  have numK := fn_isNumberK (P := P) (w := w) (base := base) T.d_is_number N
  have cntK := fn_countedK T.d_is_counted numK
  have ctE := fn_chkTeamsE T.d_check_teams T.e_T numK.toE
  have caE := fn_chkTeamE T.d_check_team T.e_A cntK.toE
  have crE := fn_chkRoundE T.d_check_round T.e_R cntK.toE
  have trE := fn_chkTRE T.d__check_team_in_round ctE caE crE
  have opE := fn_opponentE T.d_opponent trE
  have hoE := fn_atHomeE T.d_at_home trE
  have roE := fn_roundOfE T.d_round_of T.e_L ctE caE
  have boE := fn_breakOfE T.d_break_of ctE caE
  have jtE := fn_chkJTE T.d_check_judged_teams T.e_T Z2 ctE
  have cpE := fn_chkPlanE T.d_check_plan T.e_P N Z2 (fn_isPairD T.d__is_pair N Z2 cntK).toE
  have jdE := fn_judgedNo (cG := cG) T.d_judged jtE cpE
  have kit : ∀ A : Ans, PySem.W.kitOne K (.ref (c.of A)) (.ref c.g) = some (isGoodA A) := fun A => by cases A <;> exact Z.kit _ .good
  have brE := fn_brksNo T.d_breaks N T.mc_g Z.ins kit T.e_G jd jdE
  have wT := fn_withTeams (k := 6) T.d__law_with_teams opE hoE roE boE jdE brE (by decide) (by decide) (by decide)
  have wA := fn_withTeam T.d__law_with_team opE hoE roE boE
  have wR := fn_withRound T.d__law_with_round opE hoE
  have wP := fn_withPlan (k := 6) T.d__law_with_plan jdE brE (by decide) (by decide)
  obtain ⟨fk, fdk, Fk, Bk, mk⟩ := T.d__law_kinds.ex
  obtain ⟨ft, fdt, Ft, Bt, mt⟩ := T.d__law_told.ex
  have kinds := fun D bs h => T.hits (P := P) (w := w) (base := base) Fk Bk D bs h
  have told := fn_told (Told := Told5 cT cA cR cP cL cG) T.d__law_told mk Fk.kp T.mM kinds
  have all := fn_all T.d__law_all N told told_short
  exact ok_law5 lk hcd N TB cell val tm all told wT wA wR wP (by decide) (by decide) (by decide) pl brE br bo roE mt Ft.kp Ft Bt mk Fk.kp T.mM T.h_L.em fun y => (kinds cL (dueB 4) (.inr (.inr (.inr (.inr (.inl ⟨rfl, rfl⟩)))))).2 y
theorem law_at {l : PySem.W.OpenLaw} {w : World} {K : PySem.W.Frag} {h : Heap} {mg : Str → Option Value} {fa : Addr} {cg cl ct' cn cT cA cR cP cL cG cM : Addr} (X : K.In h) (G : h.Ns mainGlobals mg) (hfa : mg "law" = some (.ref fa)) (own : LamX.OwnTab K fa h) (T : Text K mg ⟨cg, cl, ct', cn⟩ cT cA cR cP cL cG cM)
    {f c PL : Addr} {oc : Value} {od an : Option Addr} {osl : Array (Option Value)} {kV doc pm ct : Value} {e : Value} {dd : Option Addr} {vs : Array Value} {sl : Array (Option Value)}
    (a : PySem.W.nsIn K mainGlobals "law" = some (some (.ref f))) (lk : K.lookup f = some ⟨oc, od, .func (PySem.W.fnOf "law" "law" (defArgs t_law) (defBody t_law) (defScope t_law) .none kV doc pm an (.ref c) ct), osl⟩) (hc : PySem.W.codeIn K (.ref c) "law" = true)
    (lc : K.lookup c = some ⟨e, dd, .fields vs, sl⟩) (h11 : vs[11]? = some (.ref PL)) (np : K.lookup PL = none) (hd : PySem.W.codeHdIn K c PL = true) : LamX.LawAtS l w K CX0 24 63 "_law_script" mg fa h := by
  have e := hfa.symm.trans (PySem.W.mg_of X G a)
  cases e
  have tab := own c PL _ _ _ _ _ _ lk rfl rfl lc h11
  refine ⟨_, [(c, PL)], spLaw5 K PL, fun p hp => ?_, fun p hp => ?_, fun p hp => ?_, fun s v => .of_eq rfl, fun H b ns hl hb hH hS => ⟨b, ns, rfl, hS, fun n hm => bits_log (hb n hm), hH _ List.mem_cons_self, fun _ => rfl⟩, fun base _ _ TB => T.law lk hc (TB _ List.mem_cons_self)⟩
  · rw [List.mem_singleton.mp hp]
    exact tab
  · rw [List.mem_singleton.mp hp]
    exact np
  · rw [List.mem_singleton.mp hp]
    exact PySem.W.codeHd_of_K X hd
theorem law_walk {l : PySem.W.OpenLaw} {q : Program} {loose : List Str} {XP : (Str → Option Value) → Heap → Prop} {YP : World → Heap → Prop} {d : DefRec} {K : Params → PySem.W.Frag} (hn : l.most = some 63) (hdf : d.params.defaults = []) (hrec : ((recsOf q).any fun e => e.name == d.name) = true)
    (hY : ∀ (w : World) (h : Heap), YP w h → (K w.params).In h)
    (F : ∀ (w : World) (mg : Str → Option Value) (fa : Addr) (h : Heap), (K w.params).In h → h.Ns mainGlobals mg → mg d.name = some (.ref fa) → LamX.OwnTab (K w.params) fa h → LamX.LawAtS l w (K w.params) CX0 24 63 "_law_script" mg fa h) :
    PySem.W.WalkO q loose XP YP l.row.toRowW d [] (fun f vs => PySem.call f vs) :=
  LamX.walk_ofOwn (n := 63) (k := 24) (x := "_law_script") (CX := fun _ => CX0) hn (by decide) hdf ⟨rfl, by decide, by decide⟩ hrec hY (fun w mg fa h _ KX G hmg own => F w mg fa h KX G hmg own) fun _ _ _ _ _ z => z
end EM
open PySem PySem.W PyProof.Rows in
set_option maxHeartbeats 0 in
theorem PySem.Challenge.cw_everymeets_k05_refused_holds : PySem.Challenge.rw_everymeets_k05_refused.Holds := by
  w_on; o_law; k_head; (case hw => w_witness2)
  k_fill
  refine EM.law_walk (l := PySem.Challenge.rw_everymeets_k05_refused) rfl rfl ?hrec (fun w h Y => by first | exact PySem.W.kIn_of Y | exact PySem.W.km_in_of Y) ?F
  case hrec => rfl
  case F =>
    intro w mg fa h KX G hmg own
    refine' EM.law_at KX G hmg own ⟨⟨PySem.W.mg_none_of KX G ?z0, PySem.W.mg_none_of KX G ?z1, PySem.W.mg_none_of KX G ?z2, PySem.W.mg_none_of KX G ?z3, PySem.W.mg_none_of KX G ?z4, PySem.W.mg_none_of KX G ?z5, PySem.W.mg_none_of KX G ?z6, PySem.W.mg_none_of KX G ?z7, PySem.W.mg_none_of KX G ?z8⟩,
      PySem.W.mg_none_of KX G ?y0,
      PySem.W.mg_none_of KX G ?y1,
      PySem.W.mg_none_of KX G ?y2,
      PySem.W.mg_none_of KX G ?y3,
      EM.int_mk KX G ?i_MOST_JUDGED,
      EM.def_mk KX G ?a_is_number ?l_is_number ?c_is_number ?k_is_number (fun _ _ _ _ _ _ us hl => match us, hl with | [_], _ => rfl),
      EM.def_mk KX G ?a_is_counted ?l_is_counted ?c_is_counted ?k_is_counted (fun _ _ _ _ _ _ us hl => match us, hl with | [_, _], _ => rfl),
      EM.def_mk KX G ?a_check_teams ?l_check_teams ?c_check_teams ?k_check_teams (fun _ _ _ _ _ _ us hl => match us, hl with | [_], _ => rfl),
      EM.def_mk KX G ?a_check_judged_teams ?l_check_judged_teams ?c_check_judged_teams ?k_check_judged_teams (fun _ _ _ _ _ _ us hl => match us, hl with | [_], _ => rfl),
      EM.def_mk KX G ?a_check_team ?l_check_team ?c_check_team ?k_check_team (fun _ _ _ _ _ _ us hl => match us, hl with | [_, _], _ => rfl),
      EM.def_mk KX G ?a_check_round ?l_check_round ?c_check_round ?k_check_round (fun _ _ _ _ _ _ us hl => match us, hl with | [_, _], _ => rfl),
      EM.def_mk KX G ?a_check_plan ?l_check_plan ?c_check_plan ?k_check_plan (fun _ _ _ _ _ _ us hl => match us, hl with | [_, _], _ => rfl),
      EM.def_mk KX G ?a__is_pair ?l__is_pair ?c__is_pair ?k__is_pair (fun _ _ _ _ _ _ us hl => match us, hl with | [_, _], _ => rfl),
      EM.def_mk KX G ?a_opponent ?l_opponent ?c_opponent ?k_opponent (fun _ _ _ _ _ _ us hl => match us, hl with | [_, _, _], _ => rfl),
      EM.def_mk KX G ?a_at_home ?l_at_home ?c_at_home ?k_at_home (fun _ _ _ _ _ _ us hl => match us, hl with | [_, _, _], _ => rfl),
      EM.def_mk KX G ?a_round_of ?l_round_of ?c_round_of ?k_round_of (fun _ _ _ _ _ _ us hl => match us, hl with | [_, _, _], _ => rfl),
      EM.def_mk KX G ?a_break_of ?l_break_of ?c_break_of ?k_break_of (fun _ _ _ _ _ _ us hl => match us, hl with | [_, _], _ => rfl),
      EM.def_mk KX G ?a__check_team_in_round ?l__check_team_in_round ?c__check_team_in_round ?k__check_team_in_round (fun _ _ _ _ _ _ us hl => match us, hl with | [_, _, _], _ => rfl),
      EM.def_mk KX G ?a_pairs_of_each ?l_pairs_of_each ?c_pairs_of_each ?k_pairs_of_each (fun _ _ _ _ _ _ us hl => match us, hl with | [_, _], _ => rfl),
      EM.def_mk KX G ?a_pairs_of_two ?l_pairs_of_two ?c_pairs_of_two ?k_pairs_of_two (fun _ _ _ _ _ _ us hl => match us, hl with | [_, _], _ => rfl),
      EM.def_mk KX G ?a_judged ?l_judged ?c_judged ?k_judged (fun _ _ _ _ _ _ us hl => match us, hl with | [_, _], _ => rfl),
      EM.def_mk KX G ?a_breaks ?l_breaks ?c_breaks ?k_breaks (fun _ _ _ _ _ _ us hl => match us, hl with | [_, _], _ => rfl),
      EM.def_mk KX G ?a__lone_team ?l__lone_team ?c__lone_team ?k__lone_team (fun _ _ _ _ _ _ us hl => match us, hl with | [_, _], _ => rfl),
      EM.def_mk KX G ?a__wrong_two ?l__wrong_two ?c__wrong_two ?k__wrong_two (fun _ _ _ _ _ _ us hl => match us, hl with | [_, _], _ => rfl),
      EM.def_mk KX G ?a__home_of_each ?l__home_of_each ?c__home_of_each ?k__home_of_each (fun _ _ _ _ _ _ us hl => match us, hl with | [_, _], _ => rfl),
      EM.def_mk KX G ?a__law_cell_at ?l__law_cell_at ?c__law_cell_at ?k__law_cell_at (fun _ _ _ _ _ _ us hl => match us, hl with | [_, _], _ => rfl),
      EM.def_mk KX G ?a__law_draw ?l__law_draw ?c__law_draw ?k__law_draw (fun _ _ _ _ _ _ us hl => match us, hl with | [_, _, _], _ => rfl),
      EM.def_mk KX G ?a__law_value ?l__law_value ?c__law_value ?k__law_value (fun _ _ _ _ _ _ us hl => match us, hl with | [_, _, _], _ => rfl),
      EM.def_mk KX G ?a__law_teams ?l__law_teams ?c__law_teams ?k__law_teams (fun _ _ _ _ _ _ us hl => match us, hl with | [_, _], _ => rfl),
      EM.def_mk KX G ?a__law_plan ?l__law_plan ?c__law_plan ?k__law_plan (fun _ _ _ _ _ _ us hl => match us, hl with | [_], _ => rfl),
      EM.def_mk KX G ?a__law_kinds ?l__law_kinds ?c__law_kinds ?k__law_kinds (fun _ _ _ _ _ _ us hl => match us, hl with | [_], _ => rfl),
      EM.def_mk KX G ?a__law_with_teams ?l__law_with_teams ?c__law_with_teams ?k__law_with_teams (fun _ _ _ _ _ _ us hl => match us, hl with | [_, _], _ => rfl),
      EM.def_mk KX G ?a__law_with_team ?l__law_with_team ?c__law_with_team ?k__law_with_team (fun _ _ _ _ _ _ us hl => match us, hl with | [_, _], _ => rfl),
      EM.def_mk KX G ?a__law_with_round ?l__law_with_round ?c__law_with_round ?k__law_with_round (fun _ _ _ _ _ _ us hl => match us, hl with | [_, _], _ => rfl),
      EM.def_mk KX G ?a__law_with_plan ?l__law_with_plan ?c__law_with_plan ?k__law_with_plan (fun _ _ _ _ _ _ us hl => match us, hl with | [_, _], _ => rfl),
      EM.def_mk KX G ?a__law_told ?l__law_told ?c__law_told ?k__law_told (fun _ _ _ _ _ _ us hl => match us, hl with | [_, _, _], _ => rfl),
      EM.def_mk KX G ?a__law_all ?l__law_all ?c__law_all ?k__law_all (fun _ _ _ _ _ _ us hl => match us, hl with | [_, _, _, _], _ => rfl),
      PySem.W.mg_of KX G ?mg,
      PySem.W.mg_of KX G ?ml,
      PySem.W.mg_of KX G ?mt,
      PySem.W.mg_of KX G ?mn,
      ?hn,
      ?ht,
      ⟨?pg_g, ?hd_g, ?po_g, ?sa_g, ?ha_g, ?hm_g⟩,
      ⟨?pg_l, ?hd_l, ?po_l, ?sa_l, ?ha_l, ?hm_l⟩,
      ⟨?pg_t, ?hd_t, ?po_t, ?sa_t, ?ha_t, ?hm_t⟩,
      ⟨?pg_n, ?hd_n, ?po_n, ?sa_n, ?ha_n, ?hm_n⟩,
      ⟨?q_gg, ?q_gl, ?q_gt, ?q_gn, ?q_lg, ?q_ll, ?q_lt, ?q_ln, ?q_tg, ?q_tl, ?q_tt, ?q_tn, ?q_ng, ?q_nl, ?q_nt, ?q_nn⟩,
      ⟨?mk_g, ?in_g, ?kp_g⟩,
      ?nol0,
      ?nol1,
      EM.meth_mk ?a_il ?i_il ?l_il ?c_il ?k_il (fun _ _ _ _ _ _ us hl => match us, hl with | [_, _, _], _ => rfl),
      ?mk_l,
      ?kp_l,
      ?not0,
      ?not1,
      EM.meth_mk ?a_it ?i_it ?l_it ?c_it ?k_it (fun _ _ _ _ _ _ us hl => match us, hl with | [_, _, _], _ => rfl),
      ?mk_t,
      ?kp_t,
      ?non0,
      ?non1,
      EM.meth_mk ?a_in ?i_in ?l_in ?c_in ?k_in (fun _ _ _ _ _ _ us hl => match us, hl with | [_, _, _], _ => rfl),
      ?mk_n,
      ?kp_n,
      ⟨PySem.W.mg_of KX G ?em_T, ?exc_T, ?ek_T, ?es_T, ?et_T⟩,
      ⟨PySem.W.mg_of KX G ?em_A, ?exc_A, ?ek_A, ?es_A, ?et_A⟩,
      ⟨PySem.W.mg_of KX G ?em_R, ?exc_R, ?ek_R, ?es_R, ?et_R⟩,
      ⟨PySem.W.mg_of KX G ?em_P, ?exc_P, ?ek_P, ?es_P, ?et_P⟩,
      ⟨PySem.W.mg_of KX G ?em_L, ?exc_L, ?ek_L, ?es_L, ?et_L⟩,
      ⟨PySem.W.mg_of KX G ?em_G, ?exc_G, ?ek_G, ?es_G, ?et_G⟩,
      PySem.W.mg_of KX G ?em_M,
      ⟨⟨?xhg_T, ?xhk_T, ?xhs_T, ?xhd_T, ?xha_T, ?xhn_T, ?xht_T, ?xhm_T⟩, ?q_h0_T, ?q_h1_T, ?q_h2_T, ?q_h3_T, ?q_h4_T, ?q_h5_T, ?q_hv_T, ?xm_T⟩,
      ⟨⟨?xhg_A, ?xhk_A, ?xhs_A, ?xhd_A, ?xha_A, ?xhn_A, ?xht_A, ?xhm_A⟩, ?q_h0_A, ?q_h1_A, ?q_h2_A, ?q_h3_A, ?q_h4_A, ?q_h5_A, ?q_hv_A, ?xm_A⟩,
      ⟨⟨?xhg_R, ?xhk_R, ?xhs_R, ?xhd_R, ?xha_R, ?xhn_R, ?xht_R, ?xhm_R⟩, ?q_h0_R, ?q_h1_R, ?q_h2_R, ?q_h3_R, ?q_h4_R, ?q_h5_R, ?q_hv_R, ?xm_R⟩,
      ⟨⟨?xhg_P, ?xhk_P, ?xhs_P, ?xhd_P, ?xha_P, ?xhn_P, ?xht_P, ?xhm_P⟩, ?q_h0_P, ?q_h1_P, ?q_h2_P, ?q_h3_P, ?q_h4_P, ?q_h5_P, ?q_hv_P, ?xm_P⟩,
      ⟨⟨?xhg_L, ?xhk_L, ?xhs_L, ?xhd_L, ?xha_L, ?xhn_L, ?xht_L, ?xhm_L⟩, ?q_h0_L, ?q_h1_L, ?q_h2_L, ?q_h3_L, ?q_h4_L, ?q_h5_L, ?q_hv_L, ?xm_L⟩,
      ⟨⟨?xhg_G, ?xhk_G, ?xhs_G, ?xhd_G, ?xha_G, ?xhn_G, ?xht_G, ?xhm_G⟩, ?q_h0_G, ?q_h1_G, ?q_h2_G, ?q_h3_G, ?q_h4_G, ?q_h5_G, ?q_hv_G, ?xm_G⟩⟩ ?a ?l ?c ?lc ?rfl_h11 ?krfl_np ?krfl_hd
    (case z0 => k_is)
    (case z1 => k_is)
    (case z2 => k_is)
    (case z3 => k_is)
    (case z4 => k_is)
    (case z5 => k_is)
    (case z6 => k_is)
    (case z7 => k_is)
    (case z8 => k_is)
    (case y0 => k_is)
    (case y1 => k_is)
    (case y2 => k_is)
    (case y3 => k_is)
    (case i_MOST_JUDGED => k_is)
    (case a_is_number => k_is)
    (case l_is_number => k_is)
    (case c_is_number => k_is)
    (case k_is_number => k_is)
    (case a_is_counted => k_is)
    (case l_is_counted => k_is)
    (case c_is_counted => k_is)
    (case k_is_counted => k_is)
    (case a_check_teams => k_is)
    (case l_check_teams => k_is)
    (case c_check_teams => k_is)
    (case k_check_teams => k_is)
    (case a_check_judged_teams => k_is)
    (case l_check_judged_teams => k_is)
    (case c_check_judged_teams => k_is)
    (case k_check_judged_teams => k_is)
    (case a_check_team => k_is)
    (case l_check_team => k_is)
    (case c_check_team => k_is)
    (case k_check_team => k_is)
    (case a_check_round => k_is)
    (case l_check_round => k_is)
    (case c_check_round => k_is)
    (case k_check_round => k_is)
    (case a_check_plan => k_is)
    (case l_check_plan => k_is)
    (case c_check_plan => k_is)
    (case k_check_plan => k_is)
    (case a__is_pair => k_is)
    (case l__is_pair => k_is)
    (case c__is_pair => k_is)
    (case k__is_pair => k_is)
    (case a_opponent => k_is)
    (case l_opponent => k_is)
    (case c_opponent => k_is)
    (case k_opponent => k_is)
    (case a_at_home => k_is)
    (case l_at_home => k_is)
    (case c_at_home => k_is)
    (case k_at_home => k_is)
    (case a_round_of => k_is)
    (case l_round_of => k_is)
    (case c_round_of => k_is)
    (case k_round_of => k_is)
    (case a_break_of => k_is)
    (case l_break_of => k_is)
    (case c_break_of => k_is)
    (case k_break_of => k_is)
    (case a__check_team_in_round => k_is)
    (case l__check_team_in_round => k_is)
    (case c__check_team_in_round => k_is)
    (case k__check_team_in_round => k_is)
    (case a_pairs_of_each => k_is)
    (case l_pairs_of_each => k_is)
    (case c_pairs_of_each => k_is)
    (case k_pairs_of_each => k_is)
    (case a_pairs_of_two => k_is)
    (case l_pairs_of_two => k_is)
    (case c_pairs_of_two => k_is)
    (case k_pairs_of_two => k_is)
    (case a_judged => k_is)
    (case l_judged => k_is)
    (case c_judged => k_is)
    (case k_judged => k_is)
    (case a_breaks => k_is)
    (case l_breaks => k_is)
    (case c_breaks => k_is)
    (case k_breaks => k_is)
    (case a__lone_team => k_is)
    (case l__lone_team => k_is)
    (case c__lone_team => k_is)
    (case k__lone_team => k_is)
    (case a__wrong_two => k_is)
    (case l__wrong_two => k_is)
    (case c__wrong_two => k_is)
    (case k__wrong_two => k_is)
    (case a__home_of_each => k_is)
    (case l__home_of_each => k_is)
    (case c__home_of_each => k_is)
    (case k__home_of_each => k_is)
    (case a__law_cell_at => k_is)
    (case l__law_cell_at => k_is)
    (case c__law_cell_at => k_is)
    (case k__law_cell_at => k_is)
    (case a__law_draw => k_is)
    (case l__law_draw => k_is)
    (case c__law_draw => k_is)
    (case k__law_draw => k_is)
    (case a__law_value => k_is)
    (case l__law_value => k_is)
    (case c__law_value => k_is)
    (case k__law_value => k_is)
    (case a__law_teams => k_is)
    (case l__law_teams => k_is)
    (case c__law_teams => k_is)
    (case k__law_teams => k_is)
    (case a__law_plan => k_is)
    (case l__law_plan => k_is)
    (case c__law_plan => k_is)
    (case k__law_plan => k_is)
    (case a__law_kinds => k_is)
    (case l__law_kinds => k_is)
    (case c__law_kinds => k_is)
    (case k__law_kinds => k_is)
    (case a__law_with_teams => k_is)
    (case l__law_with_teams => k_is)
    (case c__law_with_teams => k_is)
    (case k__law_with_teams => k_is)
    (case a__law_with_team => k_is)
    (case l__law_with_team => k_is)
    (case c__law_with_team => k_is)
    (case k__law_with_team => k_is)
    (case a__law_with_round => k_is)
    (case l__law_with_round => k_is)
    (case c__law_with_round => k_is)
    (case k__law_with_round => k_is)
    (case a__law_with_plan => k_is)
    (case l__law_with_plan => k_is)
    (case c__law_with_plan => k_is)
    (case k__law_with_plan => k_is)
    (case a__law_told => k_is)
    (case l__law_told => k_is)
    (case c__law_told => k_is)
    (case k__law_told => k_is)
    (case a__law_all => k_is)
    (case l__law_all => k_is)
    (case c__law_all => k_is)
    (case k__law_all => k_is)
    (case mg => k_is)
    (case ml => k_is)
    (case mt => k_is)
    (case mn => k_is)
    (case hn => k_is)
    (case ht => k_is)
    (case pg_g => k_is)
    (case hd_g => k_is)
    (case po_g => k_is)
    (case sa_g => k_is)
    (case ha_g => k_is)
    (case hm_g => k_is)
    (case pg_l => k_is)
    (case hd_l => k_is)
    (case po_l => k_is)
    (case sa_l => k_is)
    (case ha_l => k_is)
    (case hm_l => k_is)
    (case pg_t => k_is)
    (case hd_t => k_is)
    (case po_t => k_is)
    (case sa_t => k_is)
    (case ha_t => k_is)
    (case hm_t => k_is)
    (case pg_n => k_is)
    (case hd_n => k_is)
    (case po_n => k_is)
    (case sa_n => k_is)
    (case ha_n => k_is)
    (case hm_n => k_is)
    (case q_gg => kit_is)
    (case q_gl => kit_is)
    (case q_gt => kit_is)
    (case q_gn => kit_is)
    (case q_lg => kit_is)
    (case q_ll => kit_is)
    (case q_lt => kit_is)
    (case q_ln => kit_is)
    (case q_tg => kit_is)
    (case q_tl => kit_is)
    (case q_tt => kit_is)
    (case q_tn => kit_is)
    (case q_ng => kit_is)
    (case q_nl => kit_is)
    (case q_nt => kit_is)
    (case q_nn => kit_is)
    (case mk_g => k_is)
    (case in_g => k_is)
    (case kp_g => k_is)
    (case nol0 => k_is)
    (case nol1 => k_is)
    (case a_il => k_is)
    (case i_il => k_is)
    (case l_il => k_is)
    (case c_il => k_is)
    (case k_il => k_is)
    (case mk_l => k_is)
    (case kp_l => k_is)
    (case not0 => k_is)
    (case not1 => k_is)
    (case a_it => k_is)
    (case i_it => k_is)
    (case l_it => k_is)
    (case c_it => k_is)
    (case k_it => k_is)
    (case mk_t => k_is)
    (case kp_t => k_is)
    (case non0 => k_is)
    (case non1 => k_is)
    (case a_in => k_is)
    (case i_in => k_is)
    (case l_in => k_is)
    (case c_in => k_is)
    (case k_in => k_is)
    (case mk_n => k_is)
    (case kp_n => k_is)
    (case em_T => k_is)
    (case exc_T => k_exc)
    (case ek_T => k_is)
    (case es_T => k_is)
    (case et_T => k_is)
    (case em_A => k_is)
    (case exc_A => k_exc)
    (case ek_A => k_is)
    (case es_A => k_is)
    (case et_A => k_is)
    (case em_R => k_is)
    (case exc_R => k_exc)
    (case ek_R => k_is)
    (case es_R => k_is)
    (case et_R => k_is)
    (case em_P => k_is)
    (case exc_P => k_exc)
    (case ek_P => k_is)
    (case es_P => k_is)
    (case et_P => k_is)
    (case em_L => k_is)
    (case exc_L => k_exc)
    (case ek_L => k_is)
    (case es_L => k_is)
    (case et_L => k_is)
    (case em_G => k_is)
    (case exc_G => k_exc)
    (case ek_G => k_is)
    (case es_G => k_is)
    (case et_G => k_is)
    (case em_M => k_is)
    (case xhg_T => k_is)
    (case xhk_T => k_is)
    (case xhs_T => k_is)
    (case xhd_T => k_is)
    (case xha_T => k_is)
    (case xhn_T => k_is)
    (case xht_T => k_is)
    (case xhm_T => k_is)
    (case q_h0_T => kit_is)
    (case q_h1_T => kit_is)
    (case q_h2_T => kit_is)
    (case q_h3_T => kit_is)
    (case q_h4_T => kit_is)
    (case q_h5_T => kit_is)
    (case q_hv_T => kit_is)
    (case xm_T => kts_exm)
    (case xhg_A => k_is)
    (case xhk_A => k_is)
    (case xhs_A => k_is)
    (case xhd_A => k_is)
    (case xha_A => k_is)
    (case xhn_A => k_is)
    (case xht_A => k_is)
    (case xhm_A => k_is)
    (case q_h0_A => kit_is)
    (case q_h1_A => kit_is)
    (case q_h2_A => kit_is)
    (case q_h3_A => kit_is)
    (case q_h4_A => kit_is)
    (case q_h5_A => kit_is)
    (case q_hv_A => kit_is)
    (case xm_A => kts_exm)
    (case xhg_R => k_is)
    (case xhk_R => k_is)
    (case xhs_R => k_is)
    (case xhd_R => k_is)
    (case xha_R => k_is)
    (case xhn_R => k_is)
    (case xht_R => k_is)
    (case xhm_R => k_is)
    (case q_h0_R => kit_is)
    (case q_h1_R => kit_is)
    (case q_h2_R => kit_is)
    (case q_h3_R => kit_is)
    (case q_h4_R => kit_is)
    (case q_h5_R => kit_is)
    (case q_hv_R => kit_is)
    (case xm_R => kts_exm)
    (case xhg_P => k_is)
    (case xhk_P => k_is)
    (case xhs_P => k_is)
    (case xhd_P => k_is)
    (case xha_P => k_is)
    (case xhn_P => k_is)
    (case xht_P => k_is)
    (case xhm_P => k_is)
    (case q_h0_P => kit_is)
    (case q_h1_P => kit_is)
    (case q_h2_P => kit_is)
    (case q_h3_P => kit_is)
    (case q_h4_P => kit_is)
    (case q_h5_P => kit_is)
    (case q_hv_P => kit_is)
    (case xm_P => kts_exm)
    (case xhg_L => k_is)
    (case xhk_L => k_is)
    (case xhs_L => k_is)
    (case xhd_L => k_is)
    (case xha_L => k_is)
    (case xhn_L => k_is)
    (case xht_L => k_is)
    (case xhm_L => k_is)
    (case q_h0_L => kit_is)
    (case q_h1_L => kit_is)
    (case q_h2_L => kit_is)
    (case q_h3_L => kit_is)
    (case q_h4_L => kit_is)
    (case q_h5_L => kit_is)
    (case q_hv_L => kit_is)
    (case xm_L => kts_exm)
    (case xhg_G => k_is)
    (case xhk_G => k_is)
    (case xhs_G => k_is)
    (case xhd_G => k_is)
    (case xha_G => k_is)
    (case xhn_G => k_is)
    (case xht_G => k_is)
    (case xhm_G => k_is)
    (case q_h0_G => kit_is)
    (case q_h1_G => kit_is)
    (case q_h2_G => kit_is)
    (case q_h3_G => kit_is)
    (case q_h4_G => kit_is)
    (case q_h5_G => kit_is)
    (case q_hv_G => kit_is)
    (case xm_G => kts_exm)
    (case a => k_is)
    (case l => k_is)
    (case c => k_is)
    (case lc => k_is)
    (case rfl_h11 => rfl)
    (case krfl_np => kernel_rfl)
    (case krfl_hd => kernel_rfl)
