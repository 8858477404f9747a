import PyProof.Rows.All
import Wide.All
import OpenK.AllK
import Wide.FinOn
import KE.KStateDown
import Lean
import HandS.Base
import HandS.Call
import HandS.List
import HandS.Comp
import HandS.Ends
import HandS.Evl
import HandS.Dict
import HandS.Iter
import HandS.Text
import HandS.More
import HandS.DictComp
import HandS.Words
import HandS.WordsList
import HandS.WordsExc
import HandS.WordsDict
import HandS.Defaults
import HandS.IsInst
import HandS.Small
import HandS.Wide
import HandS.Style
import HandS.SortInts
import HandS.Head0
import HandS.Head1
import HandS.Head2
import HandS.HeadEnd
import HandS.HeadHook1
import HandS.HeadHook2
import PySem.Challenge.RW_signfours_k03_whole_signs_by_local_looks
set_option Elab.async false
set_option linter.all false
set_option maxRecDepth 100000
set_option maxHeartbeats 4000000
namespace Sf
open PySem PySem.Spec PyProof.Rows L2
/-- a def of the text that lets no exception out, ready to be called -/
structure Cal (P : Program) (w : World) (K : PySem.W.Frag) (mg : Str → Option Value) (base : Heap) (k : Nat) (x : Str) (ps : List Str) (sp : Sp) where
  f : Addr
  fd : FuncData
  ok : FnOk P w K mg base CX0 k f fd ps sp
  g : mg x = some (.ref f)
  kp : PySem.W.keepIn K (.ref f) = true
  b : Binds K fd ps []
section
variable {X : Cx} {k : Nat} {x : Str} {ps : List Str} {sp : Sp} {e : Expr} {es : List Expr} {t : TA} {p pos : Pos}
theorem pe_cal (C : Cal X.prog X.w X.K X.mg X.base k x ps sp) (hr : Room k X.A) (ha : PA X (e :: es) t) (hg : Gl X x := by rfl) (hdb : (x == ("__debug__" : Str)) = false := by decide)
    (he : starEach (e :: es) X.env = (false, eval e X.env) :: starEach es X.env := by rfl) (hpl : (backTo pos (starEach es X.env)).any (·.1) = false := by rfl) :
    PE X (.Call (.Name x p) (e :: es) [] pos) (tCall sp [] E0 t) :=
  pe_call C.ok hr hg C.g C.kp C.b .nil pass0 ha hdb he hpl
theorem pe_cal0 (C : Cal X.prog X.w X.K X.mg X.base k x ps sp) (hr : Room k X.A) (hg : Gl X x := by rfl) (hdb : (x == ("__debug__" : Str)) = false := by decide) :
    PE X (.Call (.Name x p) [] [] pos) (tCall sp [] E0 tNil) :=
  pe_call0 C.ok hr hg C.g C.kp C.b .nil pass0 hdb
/-- a power of any size that the machine's line takes -/
def CPowW (i j : Int) : Prop := 0 ≤ j ∧ (Builtin.Int.intBits i : Int) * j ≤ 2 ^ 27
theorem op_powW : OpR X (binaryOp .Pow) (rI CPowW fun i j => .int (i ^ j.toNat)) := opI fun _ _ _ _ _ _ _ hc q => pow_int hc.1 hc.2 q
/-- a dict that a call has just made, frozen from here on -/
theorem pe_frz {e : Expr} {te : TE} (h : PE X e te) : PE X e (fun σ H Q => te σ H fun x H1 => ∃ d u, x = .ref d ∧ H1 d = some u ∧ Mut (some u) ∧ ∀ od, Q x (upd H1 d (.frz od u))) := by
  refine ⟨fun pins s σ H Q I hw => ?_⟩
  refine thn (h.run pins s σ _ _ I hw) fun v s1 ⟨y, H1, I1, r, d, u, e1, hd, mu, q⟩ => ?_
  obtain ⟨od, I2⟩ := I1.lock hd mu
  exact ⟨y, _, I2, r, q od⟩
end
section
variable {X : Cx} {e : Expr}
/-- an expression, with a word behind it: what follows is shown once -/
def tMid (t : TE) : TE := fun σ H Q => ∃ Mid : V → Hp → Prop, t σ H Mid ∧ ∀ v H', Mid v H' → Q v H'
theorem pe_cut {t : TE} (h : PE X e t) : PE X e (tMid t) :=
  ⟨fun pins s σ H Q I ⟨Mid, hm, hu⟩ => thn (h.run pins s σ H Mid I hm) fun u s1 ⟨x, H1, I1, r, q⟩ => ⟨x, H1, I1, r, hu x H1 q⟩⟩
def tMidT (t : TT) : TT := fun σ H Q => ∃ Mid : Bool → Hp → Prop, t σ H Mid ∧ ∀ v H', Mid v H' → Q v H'
theorem pt_mid {t : TT} (h : PT X e t) : PT X e (tMidT t) :=
  ⟨fun pins s σ H Q I ⟨Mid, hm, hu⟩ => thn (h.run pins s σ H Mid I hm) fun b s1 ⟨H1, I1, q⟩ => ⟨H1, I1, hu b H1 q⟩⟩
end
theorem same_upd {H : Hp} {p : Addr} {o : HO} (h : H p = none) : Same H (upd H p o) := fun b x e => by
  rw [upd_ne (ne_of_none e h)]
  exact e
theorem CMulW.of {i j : Int} (hi : i.natAbs < 2 ^ 3000) (hj : j.natAbs < 2 ^ 3000) : CMulW i j := wide_mul hi hj (by decide) (by decide) (by decide)
theorem CDivW.of {i j : Int} (h0 : 0 < j) (hj : j.natAbs < 2 ^ 3000) : CDivW i j := wide_div h0 hj (by decide) (by decide)
theorem two3000 : (10 : Nat) ^ 600 < 2 ^ 3000 := by decide +kernel
end Sf
namespace Sf
open PySem PySem.Spec PyProof.Rows L2
/-- an if whose test is a decision -/
theorem ifd {p : Prop} [Decidable p] {A B : Prop} (h1 : p → A) (h2 : ¬ p → B) : if decide p = true then A else B := by
  by_cases h : p
  · rw [if_pos (decide_eq_true h)]; exact h1 h
  · rw [if_neg (by simpa using h)]; exact h2 h
theorem ifn {p : Prop} [Decidable p] {A B : Prop} (h1 : ¬ p → A) (h2 : p → B) : if (!decide p) = true then A else B := by
  by_cases h : p
  · rw [if_neg (by simpa using h)]; exact h2 h
  · rw [if_pos (by simpa using h)]; exact h1 h
theorem ifb {b : Bool} {A B : Prop} (h1 : b = true → A) (h2 : b = false → B) : if b = true then A else B := by
  cases b with
  | true => rw [if_pos rfl]; exact h1 rfl
  | false => rw [if_neg Bool.false_ne_true]; exact h2 rfl
end Sf

namespace Sf
open PySem PySem.Spec PyProof.Rows L2
def top (i : Nat) : Stmt := PySem.Challenge.pw_signfours_k03_whole_signs_by_local_looks.main.body.getD i (.Pass ⟨0, 0, 0, 0⟩)
abbrev s_P_is_integer : Stmt := top 1
theorem sc_P_is_integer : FnScope ["value"] ["value"] (defScope s_P_is_integer) := ⟨rfl, rfl, rfl, by decide +kernel, rfl, by decide +kernel, by decide +kernel⟩
abbrev s_P_InvalidNumber___init__ : Stmt := inClass (top 3) 0
theorem sc_P_InvalidNumber___init__ : FnScope ["self", "given"] ["self", "given"] (defScope s_P_InvalidNumber___init__) := ⟨rfl, rfl, rfl, by decide +kernel, rfl, by decide +kernel, by decide +kernel⟩
abbrev s_P_is_prime : Stmt := top 6
theorem sc_P_is_prime : FnScope ["value", "divisor"] ["value"] (defScope s_P_is_prime) := ⟨rfl, rfl, rfl, by decide +kernel, rfl, by decide +kernel, by decide +kernel⟩
abbrev s_P_check_number : Stmt := top 7
theorem sc_P_check_number : FnScope ["value"] ["value"] (defScope s_P_check_number) := ⟨rfl, rfl, rfl, by decide +kernel, rfl, by decide +kernel, by decide +kernel⟩
abbrev s_P_next_divisor : Stmt := top 8
theorem sc_P_next_divisor : FnScope ["divisor"] ["divisor"] (defScope s_P_next_divisor) := ⟨rfl, rfl, rfl, by decide +kernel, rfl, by decide +kernel, by decide +kernel⟩
abbrev s_P_stripped : Stmt := top 9
theorem sc_P_stripped : FnScope ["number", "prime", "many"] ["number", "prime"] (defScope s_P_stripped) := ⟨rfl, rfl, rfl, by decide +kernel, rfl, by decide +kernel, by decide +kernel⟩
abbrev s_P_rest_sign : Stmt := top 10
theorem sc_P_rest_sign : FnScope ["number", "prime"] ["number", "prime"] (defScope s_P_rest_sign) := ⟨rfl, rfl, rfl, by decide +kernel, rfl, by decide +kernel, by decide +kernel⟩
abbrev s_P_power_modulo : Stmt := top 11
theorem sc_P_power_modulo : FnScope ["number", "many", "modulus", "made", "square"] ["number", "many", "modulus"] (defScope s_P_power_modulo) := ⟨rfl, rfl, rfl, by decide +kernel, rfl, by decide +kernel, by decide +kernel⟩
abbrev s_P_sign_at : Stmt := top 13
theorem sc_P_sign_at : FnScope ["a", "b", "place"] ["a", "b", "place"] (defScope s_P_sign_at) := ⟨rfl, rfl, rfl, by decide +kernel, rfl, by decide +kernel, by decide +kernel⟩
abbrev s_P_check_place : Stmt := top 14
theorem sc_P_check_place : FnScope ["value"] ["value"] (defScope s_P_check_place) := ⟨rfl, rfl, rfl, by decide +kernel, rfl, by decide +kernel, by decide +kernel⟩
abbrev s_P_sign : Stmt := top 15
theorem sc_P_sign : FnScope ["a", "b", "place"] ["a", "b", "place"] (defScope s_P_sign) := ⟨rfl, rfl, rfl, by decide +kernel, rfl, by decide +kernel, by decide +kernel⟩
abbrev s_P_sign_at_two : Stmt := top 16
theorem sc_P_sign_at_two : FnScope ["a", "b", "s", "one", "t", "other", "told"] ["a", "b"] (defScope s_P_sign_at_two) := ⟨rfl, rfl, rfl, by decide +kernel, rfl, by decide +kernel, by decide +kernel⟩
abbrev s_P_quarter : Stmt := top 17
theorem sc_P_quarter : FnScope ["unit"] ["unit"] (defScope s_P_quarter) := ⟨rfl, rfl, rfl, by decide +kernel, rfl, by decide +kernel, by decide +kernel⟩
abbrev s_P_eighth : Stmt := top 18
theorem sc_P_eighth : FnScope ["unit"] ["unit"] (defScope s_P_eighth) := ⟨rfl, rfl, rfl, by decide +kernel, rfl, by decide +kernel, by decide +kernel⟩
abbrev s_P_sign_at_odd : Stmt := top 19
theorem sc_P_sign_at_odd : FnScope ["a", "b", "prime", "s", "one", "t", "other", "told"] ["a", "b", "prime"] (defScope s_P_sign_at_odd) := ⟨rfl, rfl, rfl, by decide +kernel, rfl, by decide +kernel, by decide +kernel⟩
abbrev s_L_sack : Stmt := top 21
theorem sc_L_sack : FnScope ["_law_script", "_law_turn", "_law_cell", "_law_great"] ["_law_script", "_law_turn"] (defScope s_L_sack) := ⟨rfl, rfl, rfl, by decide +kernel, rfl, by decide +kernel, by decide +kernel⟩
abbrev s_L_take : Stmt := top 22
theorem sc_L_take : FnScope ["_law_sack_here", "_law_many", "_law_found", "_law_one", "_law_two"] ["_law_sack_here", "_law_many"] (defScope s_L_take) := ⟨rfl, rfl, rfl, by decide +kernel, rfl, by decide +kernel, by decide +kernel⟩
abbrev s_L_one_of : Stmt := top 23
theorem sc_L_one_of : FnScope ["_law_sack_here", "_law_items"] ["_law_sack_here", "_law_items"] (defScope s_L_one_of) := ⟨rfl, rfl, rfl, by decide +kernel, rfl, by decide +kernel, by decide +kernel⟩
abbrev s_L_is_prime : Stmt := top 24
theorem sc_L_is_prime : FnScope ["_law_number_here", "_law_one"] ["_law_number_here"] (defScope s_L_is_prime) := ⟨rfl, rfl, rfl, by decide +kernel, rfl, by decide +kernel, by decide +kernel⟩
abbrev s_L_sign : Stmt := top 25
theorem sc_L_sign : FnScope ["_law_number_here", "_law_prime", "_law_rest", "_law_one"] ["_law_number_here", "_law_prime"] (defScope s_L_sign) := ⟨rfl, rfl, rfl, by decide +kernel, rfl, by decide +kernel, by decide +kernel⟩
abbrev s_L_parted : Stmt := top 26
theorem sc_L_parted : FnScope ["_law_number_here", "_law_prime", "_law_many", "_law_left", "_law_turn"] ["_law_number_here", "_law_prime"] (defScope s_L_parted) := ⟨rfl, rfl, rfl, by decide +kernel, rfl, by decide +kernel, by decide +kernel⟩
abbrev s_L_own_sign : Stmt := top 27
theorem sc_L_own_sign : FnScope ["_law_a", "_law_b", "_law_place", "_law_s", "_law_left", "_law_t", "_law_right", "_law_odd", "_law_found"] ["_law_a", "_law_b", "_law_place"] (defScope s_L_own_sign) := ⟨rfl, rfl, rfl, by decide +kernel, rfl, by decide +kernel, by decide +kernel⟩
abbrev s_L_bare : Stmt := top 28
theorem sc_L_bare : FnScope ["_law_number_here", "_law_found", "_law_prime", "_law_turn"] ["_law_number_here"] (defScope s_L_bare) := ⟨rfl, rfl, rfl, by decide +kernel, rfl, by decide +kernel, by decide +kernel⟩
abbrev s_L_through_all : Stmt := top 29
theorem sc_L_through_all : FnScope ["_law_a", "_law_b", "_law_prime", "_law_power", "_law_roots", "_law_z", "_law_rest", "_law_x", "_law_y"] ["_law_a", "_law_b", "_law_prime"] (defScope s_L_through_all) := ⟨rfl, rfl, rfl, by decide +kernel, rfl, by decide +kernel, by decide +kernel⟩
abbrev s_L_number : Stmt := top 30
theorem sc_L_number : FnScope ["_law_sack_here", "_law_found", "_law_turn"] ["_law_sack_here"] (defScope s_L_number) := ⟨rfl, rfl, rfl, by decide +kernel, rfl, by decide +kernel, by decide +kernel⟩
abbrev s_L_law : Stmt := top 31
theorem sc_L_law : FnScope ["_law_script", "_law_turn", "_law_sack_here", "_law_a", "_law_b", "_law_place", "_law_prime"] ["_law_script"] (defScope s_L_law) := ⟨rfl, rfl, rfl, by decide +kernel, rfl, by decide +kernel, by decide +kernel⟩
end Sf

namespace Sf
open PySem PySem.Spec PyProof.Rows L2
abbrev FnD (K : PySem.W.Frag) (x qual : Str) (st : Stmt) (f : Addr) (fd : FuncData) : Prop := FunD K x qual (defArgs st) (defBody st) (defScope st) [] [] f fd
theorem lt3000 {a : Int} (h0 : 0 ≤ a) (h : a < 10 ^ 290) : a.natAbs < 2 ^ 3000 := by
  have h1 : (10 : Int) ^ 290 < 2 ^ 3000 := by decide +kernel
  have h2 : ((a.natAbs : Nat) : Int) < ((2 ^ 3000 : Nat) : Int) := by
    rw [Int.natAbs_of_nonneg h0]
    exact Int.lt_trans h h1
  exact Int.ofNat_lt.mp h2
theorem lt3000s {a : Int} (h0 : -1000000000000000000000000000000 < a) (h : a < 1000000000000000000000000000000) : a.natAbs < 2 ^ 3000 := Nat.lt_trans (by omega : a.natAbs < 1000000000000000000000000000000) (by decide +kernel)
theorem inV_two (x a b : Int) : inV (.int x) [.int a, .int b] = decide (x = a ∨ x = b) := by
  show ((a == x) || ((b == x) || false)) = _
  rw [Bool.or_false, Bool.eq_iff_iff]
  simp only [Bool.or_eq_true, beq_iff_eq, decide_eq_true_eq]
  constructor
  · rintro (h | h)
    · exact .inl h.symm
    · exact .inr h.symm
  · rintro (h | h)
    · exact .inl h.symm
    · exact .inr h.symm
theorem inV_ints (x : Int) (l : List Int) : inV (.int x) (l.map V.int) = decide (x ∈ l) := by
  unfold inV
  rw [List.any_map, Bool.eq_iff_iff, List.any_eq_true]
  simp only [decide_eq_true_eq]
  constructor
  · rintro ⟨y, hy, e⟩
    have e2 : (y == x) = true := e
    rw [← beq_iff_eq.mp e2]
    exact hy
  · intro h
    refine ⟨x, h, ?_⟩
    show (x == x) = true
    exact beq_self_eq_true x
theorem all_flat (l : List Int) : (l.map V.int).all flatV = true := by
  rw [List.all_map, List.all_eq_true]
  intro x _
  rfl
end Sf

namespace Sf
open PySem PySem.Spec PyProof.Rows L2
section
variable {P : Program} {w : World} {K : PySem.W.Frag} {mg : Str → Option Value} {base : Heap} {f : Addr} {fd : FuncData}
def spNext : Sp := fun vs H Q _ => ∃ d : Int, vs = [.int d] ∧ Q (.int (if d = 2 then 3 else d + 2)) H
theorem ok_next (F : FnD K "next_divisor" "next_divisor" s_P_next_divisor f fd) : FnOk P w K mg base CX0 1 f fd ["divisor"] spNext := by
  refine F.ok sc_P_next_divisor (fun vs H Q E h => ?_) (fun cdv A outer s H vs Q E hr h => ?_)
  · obtain ⟨d, rfl, _⟩ := h; rfl
  · obtain ⟨d, rfl, q⟩ := h
    refine ⟨_, PSs.nox (pss_one (ps_ret (pe_ifExp (pt_cmp (pc_eqI (pv 0) pe_int)) pe_int (pe_op op_add (pv 0) pe_int)))), ?_⟩
    refine ⟨_, rfl, _, _, rfl, rfl, _, rfl, ifd (fun h => ?_) (fun h => ?_)⟩
    · rw [if_pos h] at q
      exact q
    · rw [if_neg h] at q
      exact ⟨_, rfl, _, _, rfl, rfl, q⟩
end
end Sf

namespace Sf
open PySem PySem.Spec PyProof.Rows L2
section
variable {P : Program} {w : World} {K : PySem.W.Frag} {mg : Str → Option Value} {base : Heap} {f : Addr} {fd : FuncData}
/-- what is left of a number other than 0, and how often p was taken out -/
def Strip (n p : Int) (m : Nat) (u : Int) : Prop := n = p ^ m * u ∧ u % p ≠ 0
def spStripped : Sp := fun vs H Q _ => ∃ n p : Int, vs = [.int n, .int p] ∧ n ≠ 0 ∧ 2 ≤ p ∧ p.natAbs < 2 ^ 3000 ∧
  ∀ (m : Nat) (u : Int) (a : Addr), Strip n p m u → H a = none → Q (.ref a) (upd H a (.tup [.int m, .int u]))
theorem strip_less {u p : Int} (hu : u ≠ 0) (hp : 2 ≤ p) (h : u % p = 0) : (u / p).natAbs < u.natAbs ∧ u / p ≠ 0 ∧ u = p * (u / p) := by
  have e : u = p * (u / p) := by
    have := Int.emod_add_mul_ediv u p
    omega
  have h2 : u / p ≠ 0 := fun z => by
    rw [z] at e
    omega
  refine ⟨?_, h2, e⟩
  have e2 : u.natAbs = p.natAbs * (u / p).natAbs := by
    conv => lhs; rw [e]
    exact Int.natAbs_mul _ _
  have h3 : 0 < (u / p).natAbs := by omega
  have h4 : 2 ≤ p.natAbs := by omega
  have h5 : 2 * (u / p).natAbs ≤ p.natAbs * (u / p).natAbs := Nat.mul_le_mul_right _ h4
  omega
theorem ok_stripped (F : FnD K "stripped" "stripped" s_P_stripped f fd) : FnOk P w K mg base CX0 1 f fd ["number", "prime"] spStripped := by
  refine F.ok sc_P_stripped (fun vs H Q E h => ?_) (fun cdv A outer s H vs Q E hr h => ?_)
  · obtain ⟨n, p, rfl, _⟩ := h; rfl
  · obtain ⟨n, p, rfl, hn, hp, hb, q⟩ := h
    refine ⟨_, PSs.nox (pss_cons (ps_set (i := 2) sc_P_stripped.nd rfl (Or.inl rfl) pe_int)
      (pss_cons (ps_while PassesOwn.never (pt_cmp (pc_eqI (pe_op op_mod (pv 0) (pv 1)) pe_int)) (pss_cons (ps_set (i := 2) sc_P_stripped.nd rfl (Or.inl rfl) (pe_op op_add (pv 2) pe_int))
      (pss_one (ps_set (i := 0) sc_P_stripped.nd rfl (Or.inl rfl) (pe_op op_fdivW (pv 0) (pv 1))))))
      (pss_one (ps_ret (pe_tup (pa_cons (pv 2) (pa_cons (pv 0) pa_nil))))))), ?_⟩
    refine ⟨fun c σ H' => H' = H ∧ ∃ (m : Nat) (u : Int), σ = [some (.int u), some (.int p), some (.int m)] ∧ n = p ^ m * u ∧ u ≠ 0 ∧ c = u.natAbs, ⟨_, rfl, 0, n, rfl, by simp, hn, rfl⟩, ?_⟩
    rintro c σ _ ⟨rfl, m, u, rfl, e, hu, rfl⟩
    refine ⟨_, rfl, _, rfl, _, _, rfl, rfl, (by omega), _, _, rfl, rfl, _, rfl, ifd (fun h => ⟨_, fun _ _ z => z, ?_⟩) (fun h => ?_)⟩
    · have hl := strip_less hu hp h
      refine ⟨_, rfl, _, _, rfl, rfl, _, rfl, _, rfl, _, _, rfl, rfl, CDivW.of (by omega) hb, ?_⟩
      refine ⟨_, hl.1, rfl, m + 1, u / p, rfl, ?_, hl.2.1, rfl⟩
      rw [e, Int.pow_succ, Int.mul_assoc, ← hl.2.2]
    · refine ⟨_, rfl, _, rfl, (by show 2 ≤ sizeLine; decide), fun a ha => ?_⟩
      exact q m u a ⟨e, h⟩ ha
end
end Sf

namespace Sf
open PySem PySem.Spec PyProof.Rows L2
section
variable {P : Program} {w : World} {K : PySem.W.Frag} {mg : Str → Option Value} {base : Heap} {f : Addr} {fd : FuncData}
theorem pow_mod (a m : Int) (k : Nat) : (a % m) ^ k % m = a ^ k % m := by
  induction k with
  | zero => rw [Int.pow_zero, Int.pow_zero]
  | succ k ih => rw [Int.pow_succ, Int.pow_succ, Int.mul_emod, ih, Int.emod_emod_of_dvd _ (Int.dvd_refl _), ← Int.mul_emod]
/-- a power, reduced -/
def spPowMod : Sp := fun vs H Q _ => ∃ n k m : Int, vs = [.int n, .int k, .int m] ∧ 0 ≤ k ∧ 1 ≤ m ∧ m.natAbs < 2 ^ 1000 ∧ Q (.int (n ^ k.toNat % m)) H
theorem mod_lt3000 {a m : Int} (h1 : 1 ≤ m) (hb : m.natAbs < 2 ^ 1000) : (a % m).natAbs < 2 ^ 3000 := by
  have h2 := Int.emod_nonneg a (by omega : m ≠ 0)
  have h3 := Int.emod_lt_of_pos a (by omega : 0 < m)
  have h4 : (a % m).natAbs < 2 ^ 1000 := by omega
  exact Nat.lt_trans h4 (by decide +kernel)
theorem pow_half (a : Int) (k : Int) (hk : 0 < k) : a ^ k.toNat = (a * a) ^ (k / 2).toNat * a ^ (k % 2).toNat := by
  have e : k.toNat = (k / 2).toNat + (k / 2).toNat + (k % 2).toNat := by omega
  rw [e, Int.pow_add, Int.pow_add, Int.mul_pow]
theorem ok_powmod (F : FnD K "power_modulo" "power_modulo" s_P_power_modulo f fd) : FnOk P w K mg base CX0 1 f fd ["number", "many", "modulus"] spPowMod := by
  refine F.ok sc_P_power_modulo (fun vs H Q E h => ?_) (fun cdv A outer s H vs Q E hr h => ?_)
  · obtain ⟨n, k, m, rfl, _⟩ := h; rfl
  · obtain ⟨n, k, m, rfl, hk, hm, hb, q⟩ := h
    refine ⟨_, PSs.nox (pss_cons (ps_set (i := 3) sc_P_power_modulo.nd rfl (Or.inl rfl) (pe_op op_mod pe_int (pv 2)))
      (pss_cons (ps_set (i := 4) sc_P_power_modulo.nd rfl (Or.inl rfl) (pe_op op_mod (pv 0) (pv 2)))
      (pss_cons (ps_while PassesOwn.never (pt_cmp (pc_gt (pv 1) pe_int)) (pss_cons (ps_if (pt_cmp (pc_eqI (pe_op op_mod (pv 1) pe_int) pe_int)) (pss_one (ps_set (i := 3) sc_P_power_modulo.nd rfl (Or.inl rfl) (pe_op op_mod (pe_op op_mulW (pv 3) (pv 4)) (pv 2)))) pss_nil)
      (pss_cons (ps_set (i := 4) sc_P_power_modulo.nd rfl (Or.inl rfl) (pe_op op_mod (pe_op op_mulW (pv 4) (pv 4)) (pv 2)))
      (pss_one (ps_set (i := 1) sc_P_power_modulo.nd rfl (Or.inl rfl) (pe_op op_fdivW (pv 1) pe_int))))))
      (pss_one (ps_ret (pv 3)))))), ?_⟩
    have hm0 : (0 : Int) < m := by omega
    refine ⟨_, rfl, _, _, rfl, rfl, hm0, _, rfl, _, rfl, _, _, rfl, rfl, hm0, ?_⟩
    refine ⟨fun c σ H' => H' = H ∧ ∃ k' made sq : Int, σ = [some (.int n), some (.int k'), some (.int m), some (.int made), some (.int sq)] ∧ 0 ≤ k' ∧ (made * sq ^ k'.toNat) % m = n ^ k.toNat % m ∧ made % m = made ∧ made.natAbs < 2 ^ 3000 ∧ sq.natAbs < 2 ^ 3000 ∧ c = k'.toNat,
      ⟨_, rfl, k, 1 % m, n % m, rfl, hk, ?_, Int.emod_emod_of_dvd _ (Int.dvd_refl _), mod_lt3000 hm hb, mod_lt3000 hm hb, rfl⟩, ?_⟩
    · rw [Int.mul_emod, Int.emod_emod_of_dvd _ (Int.dvd_refl _), ← Int.mul_emod, Int.one_mul]
      exact pow_mod _ _ _
    rintro c σ _ ⟨rfl, k', made, sq, rfl, hk', e, em, b1, b2, rfl⟩
    refine ⟨_, rfl, _, _, rfl, rfl, _, rfl, ifd (fun h => ⟨_, fun _ _ z => z, ?_⟩) (fun h => ?_)⟩
    · have hh := pow_half sq k' h
      have hsq : ((sq * sq) ^ (k' / 2).toNat) % m = ((sq * sq % m) ^ (k' / 2).toNat) % m := (pow_mod _ _ _).symm
      refine ⟨_, rfl, _, _, rfl, rfl, (by show (0 : Int) < 2; decide), _, _, rfl, rfl, _, rfl, ifd (fun h2 => ?_) (fun h2 => ?_)⟩
      · refine ⟨_, rfl, _, rfl, _, _, rfl, rfl, CMulW.of b1 b2, _, rfl, _, _, rfl, rfl, hm0, ?_⟩
        refine ⟨_, rfl, _, rfl, _, _, rfl, rfl, CMulW.of b2 b2, _, rfl, _, _, rfl, rfl, hm0, ?_⟩
        refine ⟨_, rfl, _, _, rfl, rfl, CDivW.of (by decide) (by decide +kernel), ?_⟩
        refine ⟨_, ?_, rfl, k' / 2, _, _, rfl, by omega, ?_, Int.emod_emod_of_dvd _ (Int.dvd_refl _), mod_lt3000 hm hb, mod_lt3000 hm hb, rfl⟩
        · omega
        · rw [← e, hh, h2]
          show made * sq % m * (sq * sq % m) ^ (k' / 2).toNat % m = made * ((sq * sq) ^ (k' / 2).toNat * sq ^ 1) % m
          rw [Int.mul_emod, ← hsq, Int.emod_emod_of_dvd _ (Int.dvd_refl _), ← Int.mul_emod, Int.pow_one]
          congr 1
          rw [Int.mul_assoc, Int.mul_comm sq]
      · refine ⟨_, rfl, _, rfl, _, _, rfl, rfl, CMulW.of b2 b2, _, rfl, _, _, rfl, rfl, hm0, ?_⟩
        refine ⟨_, rfl, _, _, rfl, rfl, CDivW.of (by decide) (by decide +kernel), ?_⟩
        refine ⟨_, ?_, rfl, k' / 2, _, _, rfl, by omega, ?_, em, b1, mod_lt3000 hm hb, rfl⟩
        · omega
        · have h3 : k' % 2 = 0 := by omega
          rw [← e, hh, h3]
          show made * (sq * sq % m) ^ (k' / 2).toNat % m = made * ((sq * sq) ^ (k' / 2).toNat * sq ^ 0) % m
          rw [Int.mul_emod, ← hsq, ← Int.mul_emod, Int.pow_zero, Int.mul_one]
    · have h3 : k' = 0 := by omega
      subst h3
      have e2 : made = n ^ k.toNat % m := by
        rw [← e]
        show made = made * sq ^ 0 % m
        rw [Int.pow_zero, Int.mul_one, em]
      refine ⟨_, rfl, ?_⟩
      rw [e2]
      exact q
end
end Sf

namespace Sf
/-! primes by trial -/
def PrP (n : Int) : Prop := 2 ≤ n ∧ ∀ k : Int, 2 ≤ k → k < n → n % k ≠ 0
theorem prp_of_trial {n d : Int} (hn : 2 ≤ n) (hd : 2 ≤ d) (h : ∀ k : Int, 2 ≤ k → k < d → n % k ≠ 0) (hl : n < d * d) : PrP n := by
  refine ⟨hn, fun k h2 hk hz => ?_⟩
  by_cases hkd : k < d
  · exact h k h2 hkd hz
  · have e : n = k * (n / k) := by
      have := Int.emod_add_mul_ediv n k
      omega
    have hm0 : 0 < n / k := by
      rcases Int.lt_or_le 0 (n / k) with z | z
      · exact z
      · have : k * (n / k) ≤ 0 := Int.mul_nonpos_of_nonneg_of_nonpos (by omega) z
        omega
    have hm1 : n / k ≠ 1 := fun z => by
      rw [z] at e
      omega
    have h3 : d * (n / k) ≤ k * (n / k) := Int.mul_le_mul_of_nonneg_right (by omega) (by omega)
    have h4 : d * (n / k) < d * d := by omega
    have h5 : n / k < d := Int.lt_of_mul_lt_mul_left h4 (by omega)
    refine h (n / k) (by omega) h5 ?_
    rw [e]
    exact Int.emod_eq_zero_of_dvd ⟨k, by rw [Int.mul_ediv_cancel_left _ (by omega : k ≠ 0)]; exact Int.mul_comm _ _⟩
/-- no divisor below d; d is 2 or odd -/
def NoDiv (n d : Int) : Prop := 2 ≤ d ∧ (d = 2 ∨ d % 2 = 1) ∧ ∀ k : Int, 2 ≤ k → k < d → n % k ≠ 0
theorem nodiv2 (n : Int) : NoDiv n 2 := ⟨by omega, .inl rfl, fun k h1 h2 => by omega⟩
theorem mod_of_dvd {n a b : Int} (h : n % b = 0) (hb : b % a = 0) : n % a = 0 := by
  have h1 : b ∣ n := Int.dvd_of_emod_eq_zero h
  have h2 : a ∣ b := Int.dvd_of_emod_eq_zero hb
  exact Int.emod_eq_zero_of_dvd (Int.dvd_trans h2 h1)
theorem nodiv_next {n d : Int} (h : NoDiv n d) (hd : n % d ≠ 0) : NoDiv n (if d = 2 then 3 else d + 2) := by
  obtain ⟨h1, h2, h3⟩ := h
  by_cases e : d = 2
  · rw [if_pos e]
    refine ⟨by omega, .inr rfl, fun k a b => ?_⟩
    have : k = d := by omega
    rw [this]
    exact hd
  · rw [if_neg e]
    refine ⟨by omega, .inr (by omega), fun k a b => ?_⟩
    by_cases c : k < d
    · exact h3 k a c
    · by_cases c2 : k = d
      · rw [c2]
        exact hd
      · intro z
        exact h3 2 (by omega) (by omega) (mod_of_dvd z (by omega))
theorem nodiv_prime {n d : Int} (h : NoDiv n d) (hd : n % d = 0) : PrP d := by
  refine ⟨h.1, fun k a b z => ?_⟩
  exact h.2.2 k a b (mod_of_dvd hd z)
theorem nodiv_of {n u d : Int} (h : NoDiv n d) (hu : n % u = 0) : NoDiv u d := ⟨h.1, h.2.1, fun k a b z => h.2.2 k a b (mod_of_dvd hu z)⟩
theorem nodiv_lt {n d : Int} (h : NoDiv n d) (hn : 2 ≤ n) : d ≤ n := by
  rcases Int.lt_or_le n d with z | z
  · exact absurd Int.emod_self (h.2.2 n hn z)
  · exact z
/-! factors -/
def prodF : List (Int × Nat) → Int
  | [] => 1
  | q :: l => q.1 ^ q.2 * prodF l
theorem prodF_append : ∀ l m : List (Int × Nat), prodF (l ++ m) = prodF l * prodF m
  | [], m => by
    show prodF m = 1 * prodF m
    rw [Int.one_mul]
  | q :: l, m => by
    show q.1 ^ q.2 * prodF (l ++ m) = q.1 ^ q.2 * prodF l * prodF m
    rw [prodF_append l m, Int.mul_assoc]
def Sorted (l : List (Int × Nat)) : Prop := l.Pairwise fun a b => a.1 < b.1
def Primes (l : List (Int × Nat)) : Prop := ∀ q ∈ l, PrP q.1 ∧ 1 ≤ q.2
def FactOf (n : Int) (l : List (Int × Nat)) : Prop := prodF l = n ∧ Sorted l ∧ Primes l
theorem pow_pos_int {p : Int} (h : 0 < p) (e : Nat) : 0 < p ^ e := Int.pow_pos h
theorem pow_ge {p : Int} (h : 2 ≤ p) : ∀ {e : Nat}, 1 ≤ e → 2 ≤ p ^ e
  | 0, h0 => by omega
  | e + 1, _ => by
    rw [Int.pow_succ]
    have h1 : 0 < p ^ e := pow_pos_int (by omega) e
    have h2 : 1 * 2 ≤ p ^ e * p := Int.mul_le_mul (by omega) h (by omega) (by omega)
    omega
theorem prodF_len : ∀ {l : List (Int × Nat)}, Primes l → (2 : Int) ^ l.length ≤ prodF l
  | [], _ => Int.le_refl _
  | q :: l, h => by
    have ih := prodF_len (l := l) fun r hr => h r (List.mem_cons_of_mem _ hr)
    obtain ⟨hp, he⟩ := h q List.mem_cons_self
    have h1 : 2 ≤ q.1 ^ q.2 := pow_ge hp.1 he
    show (2 : Int) ^ (l.length + 1) ≤ q.1 ^ q.2 * prodF l
    rw [Int.pow_succ, Int.mul_comm]
    have h0 : (0 : Int) < 2 ^ l.length := pow_pos_int (by omega) _
    exact Int.mul_le_mul h1 ih (by omega) (by omega)
theorem len_of_prod {l : List (Int × Nat)} (h : Primes l) (hb : prodF l ≤ 1000000000) : l.length < 30 := by
  have h1 := prodF_len h
  rcases Nat.lt_or_ge l.length 30 with z | z
  · exact z
  · have e : l.length = 30 + (l.length - 30) := by omega
    have h3 : (2 : Int) ^ 30 = 1073741824 := by decide
    have h4 : (0 : Int) < 2 ^ (l.length - 30) := pow_pos_int (by omega) _
    rw [e, Int.pow_add, h3] at h1
    omega
end Sf

namespace Sf
open PySem PySem.Spec PyProof.Rows L2
/-- what the module's names hold -/
structure Glob (mg : Str → Option Value) : Prop where
  m_isinstance : mg "isinstance" = none
  m_int : mg "int" = none
  m_bool : mg "bool" = none
  m_abs : mg "abs" = none
  m_max : mg "max" = none
  m_len : mg "len" = none
  m_sum : mg "sum" = none
  m_range : mg "range" = none
  m_min : mg "min" = none
  m_MAX_NUMBER : ∃ t, mg "MAX_NUMBER" = some (.int 1000000000 t)
/-- what isinstance(x, int) and not isinstance(x, bool) comes to -/
def IntB (K : PySem.W.Frag) (H : Hp) (x : V) (b : Bool) : Prop := ∃ (t : String) (bi bb : Bool), TyX K H x (.type t) ∧ kitB t "int" = some bi ∧ kitB t "bool" = some bb ∧ b = (bi && !bb)
theorem IntB.int {K : PySem.W.Frag} {H : Hp} (i : Int) : IntB K H (.int i) true := ⟨"int", true, false, .base (.int i), by decide +kernel, by decide +kernel, rfl⟩
theorem IntB.bl {K : PySem.W.Frag} {H : Hp} (i : Bool) : IntB K H (.bl i) false := ⟨"bool", true, true, .base (.bl i), by decide +kernel, by decide +kernel, rfl⟩
theorem IntB.non {K : PySem.W.Frag} {H : Hp} : IntB K H .non false := ⟨"NoneType", false, false, .base .non, by decide +kernel, by decide +kernel, rfl⟩
theorem IntB.str {K : PySem.W.Frag} {H : Hp} (x : Str) : IntB K H (.str x) false := ⟨"str", false, false, .base (.str x), by decide +kernel, by decide +kernel, rfl⟩
theorem IntB.lst {K : PySem.W.Frag} {H : Hp} {a : Addr} {xs : List V} (h : H a = some (.lst xs)) : IntB K H (.ref a) false := ⟨"list", false, false, .base (.lst h), by decide +kernel, by decide +kernel, rfl⟩
theorem IntB.tup {K : PySem.W.Frag} {H : Hp} {a : Addr} {xs : List V} (h : H a = some (.tup xs)) : IntB K H (.ref a) false := ⟨"tuple", false, false, .base (.tup h), by decide +kernel, by decide +kernel, rfl⟩
theorem IntB.dK {K : PySem.W.Frag} {H : Hp} {a : Addr} {xs : List (Key × V)} (h : H a = some (.dK xs)) : IntB K H (.ref a) false := ⟨"dict", false, false, .base (.dK h), by decide +kernel, by decide +kernel, rfl⟩
end Sf

namespace Sf
open PySem PySem.Spec PyProof.Rows L2
section
variable {P : Program} {w : World} {K : PySem.W.Frag} {mg : Str → Option Value} {base : Heap} {f : Addr} {fd : FuncData}
def spIsInt (K : PySem.W.Frag) : Sp := fun vs H Q _ => ∃ (x : V) (b : Bool), vs = [x] ∧ IntB K H x b ∧ Q (.bl b) H
theorem ok_is_integer (F : FnD K "is_integer" "is_integer" s_P_is_integer f fd) (T : Glob mg) : FnOk P w K mg base CX0 1 f fd ["value"] (spIsInt K) := by
  refine F.ok sc_P_is_integer (fun vs H Q E h => ?_) (fun cdv A outer s H vs Q E hr h => ?_)
  · obtain ⟨x, b, rfl, _⟩ := h; rfl
  · obtain ⟨x, b, rfl, ⟨t, bi, bb, ty, h1, h2, rfl⟩, q⟩ := h
    refine ⟨_, PSs.nox (pss_one (ps_ret (pe_and (pe_callB call_isi (by rfl) T.m_isinstance (by decide +kernel) (pa_cons (pv 0) (pa_cons (pe_bltn (v := .ty "int") (u := .type "int") (by rfl) T.m_int (by decide +kernel) rfl) pa_nil))) (pe_one (pe_not (pe_callB call_isi (by rfl) T.m_isinstance (by decide +kernel) (pa_cons (pv 0) (pa_cons (pe_bltn (v := .ty "bool") (u := .type "bool") (by rfl) T.m_bool (by decide +kernel) rfl) pa_nil)))))))), ?_⟩
    refine ⟨_, rfl, _, _, _, _, _, rfl, .ty "int", ty, kit_ty h1, _, rfl, ifb (fun e => ?_) (fun e => ?_)⟩
    · refine ⟨_, rfl, _, _, _, _, _, rfl, .ty "bool", ty, kit_ty h2, _, rfl, ?_⟩
      rw [e] at q
      exact q
    · rw [e] at q
      exact q
end
end Sf

namespace Sf
open PySem PySem.Spec PyProof.Rows L2
section
variable {P : Program} {w : World} {K : PySem.W.Frag} {mg : Str → Option Value} {base : Heap} {f : Addr} {fd : FuncData}
def spCheckNumber : Sp := fun vs H Q _ => ∃ n : Int, vs = [.int n] ∧ n ≠ 0 ∧ -1000000000 ≤ n ∧ n ≤ 1000000000 ∧ Q .non H
theorem ok_check_number (F : FnD K "check_number" "check_number" s_P_check_number f fd) (T : Glob mg) (C_P_is_integer : Cal P w K mg base 1 "is_integer" ["value"] (spIsInt K)) : FnOk P w K mg base CX0 2 f fd ["value"] spCheckNumber := by
  refine F.ok sc_P_check_number (fun vs H Q E h => ?_) (fun cdv A outer s H vs Q E hr h => ?_)
  · obtain ⟨n, rfl, _⟩ := h; rfl
  · obtain ⟨n, rfl, h0, h1, h2, q⟩ := h
    obtain ⟨tM, hc_MAX_NUMBER⟩ := T.m_MAX_NUMBER
    refine ⟨_, PSs.nox (pss_one (ps_if (PW.pt (pw_or (pt_not (pt_val (pe_cal C_P_is_integer (hr.mono (by decide)) (pa_cons (pv 0) pa_nil)))) (pw_or (pt_cmp (pc_eqI (pv 0) pe_int)) (pw_or1 (pt_cmp (pc_gt (pe_callB call_abs (by rfl) T.m_abs (by decide +kernel) (pa_cons (pv 0) pa_nil)) (pe_glob (v := .int 1000000000) rfl hc_MAX_NUMBER ⟨_, rfl⟩))))))) (pss_one ps_never) pss_nil)), ?_⟩
    refine ⟨_, rfl, .int n, true, rfl, .int n, _, rfl, iteF ?_⟩
    refine ⟨_, rfl, _, _, rfl, rfl, _, rfl, ifd (fun e => absurd e h0) (fun _ => ?_)⟩
    refine ⟨_, rfl, n, rfl, _, _, rfl, rfl, _, rfl, ifd (fun e => ?_) (fun e => ?_)⟩
    · exfalso
      split at e <;> omega
    · exact q
end
end Sf

namespace Sf
open PySem PySem.Spec PyProof.Rows L2
section
variable {P : Program} {w : World} {K : PySem.W.Frag} {mg : Str → Option Value} {base : Heap} {f : Addr} {fd : FuncData}
def spIsPrime (K : PySem.W.Frag) : Sp := fun vs H Q _ => ∃ (x : V) (b : Bool), vs = [x] ∧ IntB K H x b ∧ (b = true → ∃ n, x = .int n) ∧ ∀ r : Bool, (r = true ↔ ∃ n, x = .int n ∧ PrP n ∧ n ≤ 1000000000) → Q (.bl r) H
theorem ok_is_prime (F : FnD K "is_prime" "is_prime" s_P_is_prime f fd) (T : Glob mg) (C_P_is_integer : Cal P w K mg base 1 "is_integer" ["value"] (spIsInt K)) (C_P_next_divisor : Cal P w K mg base 1 "next_divisor" ["divisor"] spNext) :
    FnOk P w K mg base CX0 2 f fd ["value"] (spIsPrime K) := by
  refine F.ok sc_P_is_prime (fun vs H Q E h => ?_) (fun cdv A outer s H vs Q E hr h => ?_)
  · obtain ⟨x, b, rfl, _⟩ := h; rfl
  · obtain ⟨x, b, rfl, hx, hi, q⟩ := h
    obtain ⟨tM, hc_MAX_NUMBER⟩ := T.m_MAX_NUMBER
    refine ⟨_, PSs.nox (pss_cons (ps_if (PW.pt (pw_or (pt_not (pt_val (pe_cal C_P_is_integer (hr.mono (by decide)) (pa_cons (pv 0) pa_nil)))) (pw_or (pt_cmp (pc_lt (pv 0) pe_int)) (pw_or1 (pt_cmp (pc_gt (pv 0) (pe_glob (v := .int 1000000000) rfl hc_MAX_NUMBER ⟨_, rfl⟩))))))) (pss_one (ps_ret pe_bl)) pss_nil)
      (pss_cons (ps_set (i := 1) sc_P_is_prime.nd rfl (Or.inl rfl) pe_int)
      (pss_cons (ps_while PassesOwn.never (pt_cmp (pc_le (pe_op op_mulW (pv 1) (pv 1)) (pv 0))) (pss_cons (ps_if (pt_cmp (pc_eqI (pe_op op_mod (pv 0) (pv 1)) pe_int)) (pss_one (ps_ret pe_bl)) pss_nil)
      (pss_one (ps_set (i := 1) sc_P_is_prime.nd rfl (Or.inl rfl) (pe_cal C_P_next_divisor (hr.mono (by decide)) (pa_cons (pv 1) pa_nil))))))
      (pss_one (ps_ret pe_bl))))), ?_⟩
    refine ⟨_, rfl, x, b, rfl, hx, _, rfl, ?_⟩
    cases b with
    | false =>
      refine iteT (q false ⟨fun z => Bool.noConfusion z, fun ⟨n, e, _⟩ => ?_⟩)
      subst e
      obtain ⟨t, bi, bb, ty, k1, k2, k3⟩ := hx
      cases ty with
      | base ty => cases ty with
        | int _ =>
          have e1 : kitB "int" "int" = some true := by decide +kernel
          have e2 : kitB "int" "bool" = some false := by decide +kernel
          rw [e1] at k1
          rw [e2] at k2
          cases k1
          cases k2
          cases k3
    | true =>
      obtain ⟨n, rfl⟩ := hi rfl
      have qf : ¬ (PrP n ∧ n ≤ 1000000000) → Q (.bl false) H := fun hn => q false ⟨fun z => Bool.noConfusion z, fun ⟨m, e, h⟩ => by
        cases e
        exact absurd h hn⟩
      refine iteF ⟨_, rfl, _, _, rfl, rfl, _, rfl, ifd (fun e => qf fun z => ?_) (fun e => ⟨_, rfl, _, _, rfl, rfl, _, rfl, ifd (fun e2 => qf fun z => ?_) (fun e2 => ?_)⟩)⟩
      · have := z.1.1
        omega
      · have := z.2
        omega
      · refine ⟨fun c σ H' => H' = H ∧ ∃ d : Int, σ = [some (.int n), some (.int d)] ∧ NoDiv n d ∧ d ≤ n + 2 ∧ c = (n + 2 - d).toNat, ⟨_, rfl, 2, rfl, nodiv2 n, by omega, rfl⟩, ?_⟩
        rintro c σ _ ⟨rfl, d, rfl, hd, hdn, rfl⟩
        have hd2 := hd.1
        have hdb : d.natAbs < 2 ^ 3000 := Nat.lt_trans (by omega : d.natAbs < 2 ^ 31) (by decide +kernel)
        refine ⟨_, rfl, _, rfl, _, _, rfl, rfl, CMulW.of hdb hdb, _, rfl, _, _, rfl, rfl, _, rfl, ifd (fun h => ⟨_, fun _ _ z => z, ?_⟩) (fun h => ?_)⟩
        · refine ⟨_, rfl, _, rfl, _, _, rfl, rfl, (by omega), _, _, rfl, rfl, _, rfl, ifd (fun h2 => ?_) (fun h2 => ?_)⟩
          · refine qf fun z => ?_
            have h3 : d < n := by
              have : d * 2 ≤ d * d := Int.mul_le_mul_of_nonneg_left hd2 (by omega)
              omega
            exact z.1.2 d hd2 h3 h2
          · refine ⟨_, rfl, d, rfl, ?_⟩
            have hlt : d ≤ n := by
              have : d * 1 ≤ d * d := Int.mul_le_mul_of_nonneg_left (by omega) (by omega)
              omega
            have hnx := nodiv_next hd h2
            refine ⟨_, ?_, rfl, _, rfl, hnx, ?_, rfl⟩
            · split <;> omega
            · split <;> omega
        · refine q true ⟨fun _ => ⟨n, rfl, prp_of_trial (by omega) hd2 hd.2.2 (by omega), by omega⟩, fun _ => rfl⟩
end
end Sf

namespace Sf
open PySem PySem.Spec PyProof.Rows L2
section
variable {P : Program} {w : World} {K : PySem.W.Frag} {mg : Str → Option Value} {base : Heap} {f : Addr} {fd : FuncData}
/-- the residue sign by a power -/
def restSign (n p : Int) : Int := if n % p = 0 then 0 else if p = 2 then (if n % 8 = 1 ∨ n % 8 = 7 then 1 else -1) else if n ^ ((p - 1) / 2).toNat % p = 1 then 1 else -1
def spRestSign : Sp := fun vs H Q _ => ∃ n p : Int, vs = [.int n, .int p] ∧ 2 ≤ p ∧ p.natAbs < 2 ^ 1000 ∧ ∀ H', Same H H' → Q (.int (restSign n p)) H'
theorem ok_rest_sign (F : FnD K "rest_sign" "rest_sign" s_P_rest_sign f fd) (C_P_power_modulo : Cal P w K mg base 1 "power_modulo" ["number", "many", "modulus"] spPowMod) : FnOk P w K mg base CX0 2 f fd ["number", "prime"] spRestSign := by
  refine F.ok sc_P_rest_sign (fun vs H Q E h => ?_) (fun cdv A outer s H vs Q E hr h => ?_)
  · obtain ⟨n, p, rfl, _⟩ := h; rfl
  · obtain ⟨n, p, rfl, hp, hb, q⟩ := h
    refine ⟨_, PSs.nox (pss_cons (ps_if (pt_cmp (pc_eqI (pe_op op_mod (pv 0) (pv 1)) pe_int)) (pss_one (ps_ret pe_int)) pss_nil)
      (pss_cons (ps_if (pt_cmp (pc_eqI (pv 1) pe_int)) (pss_one (ps_ret (pe_ifExp (pt_cmpR op_in_seq (pe_op op_mod (pv 0) pe_int) (pe_tup (pa_cons pe_int (pa_cons pe_int pa_nil))) (by rfl)) pe_int (pe_un un_neg pe_int)))) pss_nil)
      (pss_one (ps_ret (pe_ifExp (pt_cmp (pc_eqI (pe_cal C_P_power_modulo (hr.mono (by decide)) (pa_cons (pv 0) (pa_cons (pe_op op_fdivW (pe_op op_sub (pv 1) pe_int) pe_int) (pa_cons (pv 1) pa_nil)))) pe_int)) pe_int (pe_un un_neg pe_int)))))), ?_⟩
    unfold restSign at q
    refine ⟨_, rfl, _, rfl, _, _, rfl, rfl, (by omega), _, _, rfl, rfl, _, rfl, ifd (fun h => ?_) (fun h => ?_)⟩
    · rw [if_pos h] at q
      exact q H (Same.refl H)
    · rw [if_neg h] at q
      refine ⟨_, rfl, _, _, rfl, rfl, _, rfl, ifd (fun h2 => ?_) (fun h2 => ?_)⟩
      · rw [if_pos h2] at q
        refine ⟨_, rfl, _, _, rfl, rfl, (by show (0 : Int) < 8; decide), (by show 2 ≤ sizeLine; decide), fun a ha => ?_⟩
        refine ⟨a, _, rfl, .inr (.inl (.inl upd_same)), rfl, rfl, _, rfl, ?_⟩
        rw [inV_two]
        refine ifd (fun e => ?_) (fun e => ?_)
        · rw [if_pos e] at q
          exact q _ (same_upd ha)
        · rw [if_neg e] at q
          exact ⟨_, rfl, q _ (same_upd ha)⟩
      · rw [if_neg h2] at q
        refine ⟨_, rfl, _, rfl, _, _, rfl, rfl, _, _, rfl, rfl, CDivW.of (by decide) (by decide +kernel), _, rfl, n, (p - 1) / 2, p, rfl, by omega, by omega, hb, _, _, rfl, rfl, _, rfl, ifd (fun h3 => ?_) (fun h3 => ?_)⟩
        · rw [if_pos h3] at q
          exact q H (Same.refl H)
        · rw [if_neg h3] at q
          exact ⟨_, rfl, q H (Same.refl H)⟩
end
end Sf

namespace Sf
open PySem PySem.Spec PyProof.Rows L2
/-- the sack of draws: three numbers, so many draws made -/
def SackO (n : Nat) (xs : List V) : Prop := ∃ a b c : Int, xs = [.int a, .int b, .int c] ∧ 0 ≤ a ∧ a < 10 ^ 290 ∧ 0 ≤ b ∧ b < 1000000000000000000 ∧ 0 ≤ c ∧ c ≤ n
end Sf

namespace Sf
open PySem PySem.Spec PyProof.Rows L2
section
variable {P : Program} {w : World} {K : PySem.W.Frag} {mg : Str → Option Value} {base : Heap} {f : Addr} {fd : FuncData}
structure TakeP (vs : List V) (H : Hp) (Q : VK) : Prop where
  ex : ∃ (p : Addr) (xs : List V) (n : Nat) (m : Int), vs = [.ref p, .int m] ∧ H p = some (.lst xs) ∧ SackO n xs ∧ n ≤ 1000000 ∧ 1 ≤ m ∧ m < 10 ^ 80 ∧
  ∀ (r : Int) (ys : List V), 0 ≤ r → r < m → SackO (n + 1) ys → Q (.int r) (upd H p (.lst ys))
def spTake : Sp := fun vs H Q _ => TakeP vs H Q
theorem ok_take (F : FnD K "_law_take" "_law_take" s_L_take f fd) (T : Glob mg) : FnOk P w K mg base CX0 1 f fd ["_law_sack_here", "_law_many"] spTake := by
  refine F.ok sc_L_take (fun vs H Q E h => ?_) (fun cdv A outer s H vs Q E hr h => ?_)
  · obtain ⟨p, xs, n, m, rfl, _⟩ := h.ex; rfl
  · obtain ⟨p, _, n, m, rfl, hp, ⟨a, b, c, rfl, a0, a1, b0, b1, c0, c1⟩, hn, hm, hm1, q⟩ := h.ex
    have m0 : (0 : Int) < m := by omega
    have mb : m.natAbs < 2 ^ 3000 := lt3000 (by omega) (Int.lt_trans hm1 (by decide +kernel))
    have hS : SqL K H p [.int a, .int b, .int c] := SqL.of hp
    refine ⟨_, PSs.nox (pss_cons (ps_if (pt_cmp (pc_gt (pe_ix ix_list (pv 0) pe_int (fun _ _ => rfl)) pe_int)) (pss_cons (ps_set (i := 2) sc_L_take.nd rfl (Or.inl rfl) (pe_op op_mod (pe_callTy call_int1 (by rfl) T.m_int (by decide +kernel) (pa_cons (pe_ix ix_list (pv 0) pe_int (fun _ _ => rfl)) pa_nil)) (pv 1)))
      (pss_cons (ps_asg (pe_op op_fdivW (pe_callTy call_int1 (by rfl) T.m_int (by decide +kernel) (pa_cons (pe_ix ix_list (pv 0) pe_int (fun _ _ => rfl)) pa_nil)) (pv 1)) (pg_sub (pv 0) pe_int set_list))
      (pss_one (ps_ret (pv 2))))) pss_nil)
      (pss_cons (ps_asg (pe_op op_add (pe_ix ix_list (pv 0) pe_int (fun _ _ => rfl)) pe_int) (pg_sub (pv 0) pe_int set_list))
      (pss_cons (ps_set (i := 3) sc_L_take.nd rfl (Or.inl rfl) (pe_op op_mod (pe_callTy call_int1 (by rfl) T.m_int (by decide +kernel) (pa_cons (pe_op op_add (pe_ix ix_list (pv 0) pe_int (fun _ _ => rfl)) (pe_op op_mulW pe_int (pe_ix ix_list (pv 0) pe_int (fun _ _ => rfl)))) pa_nil)) pe_int))
      (pss_cons (ps_set (i := 4) sc_L_take.nd rfl (Or.inl rfl) (pe_op op_mod (pe_callTy call_int1 (by rfl) T.m_int (by decide +kernel) (pa_cons (pe_op op_add (pe_op op_add (pe_op op_mulW (pv 3) (pv 3)) (pe_op op_mulW pe_int (pe_ix ix_list (pv 0) pe_int (fun _ _ => rfl)))) pe_int) pa_nil)) pe_int))
      (pss_one (ps_ret (pe_op op_mod (pe_callTy call_int1 (by rfl) T.m_int (by decide +kernel) (pa_cons (pe_op op_fdivW (pe_op op_mulW (pv 4) (pe_op op_add (pe_op op_mod (pv 3) pe_int) pe_int)) pe_int) pa_nil)) (pv 1)))))))), ?_⟩
    refine ⟨_, rfl, p, _, 0, .int a, rfl, rfl, hS, rfl, _, _, rfl, rfl, _, rfl, ifd (fun h => ?_) (fun h => ?_)⟩
    · refine ⟨_, rfl, p, _, 0, .int a, rfl, rfl, hS, rfl, .inl ⟨_, rfl, _, rfl, _, _, rfl, rfl, m0, ?_⟩⟩
      refine ⟨_, rfl, p, _, 0, .int a, rfl, rfl, hS, rfl, .inl ⟨_, rfl, _, rfl, _, _, rfl, rfl, CDivW.of m0 mb, ?_⟩⟩
      refine ⟨_, rfl, p, _, 0, 0, rfl, rfl, hp, rfl, ?_⟩
      refine ⟨_, rfl, q (a % m) _ (Int.emod_nonneg _ (by omega)) (Int.emod_lt_of_pos _ m0) ⟨a / m, b, c, rfl, Int.ediv_nonneg a0 (by omega), ?_, b0, b1, c0, by omega⟩⟩
      exact Int.lt_of_le_of_lt (Int.ediv_le_self m a0) a1
    · refine ⟨_, rfl, p, _, 2, .int c, rfl, rfl, hS, rfl, _, _, rfl, rfl, ?_⟩
      refine ⟨_, rfl, p, _, 2, 2, rfl, rfl, hp, rfl, ?_⟩
      have hS2 : SqL K (upd H p (.lst [.int a, .int b, .int (c + 1)])) p [.int a, .int b, .int (c + 1)] := SqL.of upd_same
      refine ⟨_, rfl, p, _, 1, .int b, rfl, rfl, hS2, rfl, _, rfl, p, _, 2, .int (c + 1), rfl, rfl, hS2, rfl, _, _, rfl, rfl, CMulW.of (lt3000s (by decide) (by decide)) (lt3000s (by omega) (by omega)), _, _, rfl, rfl, .inl ⟨_, rfl, _, _, rfl, rfl, (by show (0 : Int) < 2305843009213693951; decide), ?_⟩⟩
      refine ⟨_, rfl, _, rfl, _, _, rfl, rfl, CMulW.of (lt3000s (by omega) (by omega)) (lt3000s (by omega) (by omega)), _, rfl, p, _, 2, .int (c + 1), rfl, rfl, hS2, rfl, _, _, rfl, rfl, CMulW.of (lt3000s (by decide) (by decide)) (lt3000s (by omega) (by omega)), _, _, rfl, rfl, _, _, rfl, rfl, .inl ⟨_, rfl, _, _, rfl, rfl, (by show (0 : Int) < 1152921504606846883; decide), ?_⟩⟩
      refine ⟨_, rfl, _, rfl, _, _, rfl, rfl, (by show (0 : Int) < 1021; decide), _, _, rfl, rfl, _, _, rfl, rfl, CMulW.of (lt3000s (by omega) (by omega)) (lt3000s (by omega) (by omega)), _, _, rfl, rfl, CDivW.of (by decide) (lt3000s (by decide) (by decide)), .inl ⟨_, rfl, _, rfl, _, _, rfl, rfl, m0, ?_⟩⟩
      refine q _ _ (Int.emod_nonneg _ (by omega)) (Int.emod_lt_of_pos _ m0) ⟨a, b, c + 1, rfl, a0, a1, b0, b1, by omega, by omega⟩
end
end Sf

namespace Sf
open PySem PySem.Spec PyProof.Rows L2
theorem cut_first (xs : List V) : cutV xs none (some 1) = xs.take 1 := by
  unfold cutV
  rw [show HT.sIx xs.length xs.length (some 1) = min 1 xs.length from HT.sIx_nat xs.length xs.length 1, HT.sIx_none]
  cases xs with
  | nil => rfl
  | cons x r =>
    rw [show min 1 (x :: r).length = 1 by
      rw [List.length_cons]
      omega]
    rfl
theorem same_ne {H H' : Hp} {p q : Addr} {o u : HO} (s : Same H H') (h : H p = some o) (n : H q = none) : p ≠ q := ne_of_none h n
section
variable {P : Program} {w : World} {K : PySem.W.Frag} {mg : Str → Option Value} {base : Heap} {f : Addr} {fd : FuncData}
def spSack (K : PySem.W.Frag) : Sp := fun vs H Q _ => ∃ (a : Addr) (ns : List Int) (t : Nat), vs = [.ref a, .int t] ∧ SqL K H a (ns.map V.int) ∧ ns.length ≤ 63 ∧ t ≤ 10 ∧
  ∀ (p : Addr) (xs : List V) (H' : Hp), Same H H' → H p = none → H' p = some (.lst xs) → SackO 0 xs → Q (.ref p) H'
theorem ok_sack (F : FnD K "_law_sack" "_law_sack" s_L_sack f fd) (T : Glob mg) : FnOk P w K mg base CX0 1 f fd ["_law_script", "_law_turn"] (spSack K) := by
  refine F.ok sc_L_sack (fun vs H Q E h => ?_) (fun cdv A outer s H vs Q E hr h => ?_)
  · obtain ⟨a, ns, t, rfl, _⟩ := h; rfl
  · obtain ⟨a, ns, t, rfl, hS, hl, ht, q⟩ := h
    refine ⟨_, PSs.nox (Evl.pss_cut (ps_set (i := 2) sc_L_sack.nd rfl (Or.inl rfl) (pe_ifExp (pt_cmp (pc_lt (pv 1) (pe_callB call_len_seq (by rfl) T.m_len (by decide +kernel) (pa_cons (pv 0) pa_nil)))) (pe_callTy call_int1 (by rfl) T.m_int (by decide +kernel) (pa_cons (pe_ix ix_list (pv 0) (pv 1) (fun _ _ => rfl)) pa_nil)) (pe_op op_add (pe_op op_add (pe_op op_mulW pe_int (pv 1)) pe_int) (pe_op op_mod (pe_callTy call_int1 (by rfl) T.m_int (by decide +kernel) (pa_cons (pe_callB (cr_sum rfl) (by rfl) T.m_sum (by decide +kernel) (pa_cons (pe_slice sl_list (pv 0) po_none (po_some pe_int)) pa_nil)) pa_nil)) pe_int))))
      (pss_cons (ps_set (i := 3) sc_L_sack.nd rfl (Or.inl rfl) (pe_op op_mod (pe_callB call_abs (by rfl) T.m_abs (by decide +kernel) (pa_cons (pv 2) pa_nil)) (pe_op op_powW (pe_op op_powW pe_int pe_int) pe_int)))
      (pss_one (ps_ret (pe_lst (pa_cons (pe_callB (call_max2 rfl) (by rfl) T.m_max (by decide +kernel) (pa_cons pe_int (pa_cons (pe_op op_sub (pv 3) (pe_op op_powW pe_int pe_int)) pa_nil))) (pa_cons (pe_op op_add (pe_op op_add (pe_op op_add (pe_op op_mulW (pe_op op_mod (pv 3) pe_int) pe_int) (pe_op op_mulW pe_int (pv 1))) (pe_op op_mulW pe_int (pe_callTy call_int1 (by rfl) T.m_int (by decide +kernel) (pa_cons (pe_cmp (pc_lt (pv 2) pe_int) rfl) pa_nil)))) pe_int) (pa_cons pe_int pa_nil)))))))), ?_⟩
    refine ⟨fun σ' H' => ∃ c : Int, σ' = [some (.ref a), some (.int t), some (.int c), none] ∧ Same H H', ?_, ?_⟩
    · refine ⟨_, rfl, _, rfl, a, _, rfl, .inl hS, _, _, rfl, rfl, _, rfl, ifd (fun h => ?_) (fun h => ?_)⟩
      · have hi : t < ns.length := by
          rw [List.length_map] at h
          omega
        refine ⟨_, rfl, _, rfl, a, _, t, .int ns[t], rfl, rfl, hS, atI_nat (by rw [List.getElem?_map, List.getElem?_eq_getElem hi]; rfl), .inl ⟨_, rfl, ?_⟩⟩
        exact ⟨_, rfl, Same.refl H⟩
      · refine ⟨_, rfl, _, _, rfl, rfl, CMulW.of (lt3000s (by decide) (by decide)) (lt3000s (by omega) (by omega)), _, _, rfl, rfl, _, rfl, _, rfl, a, _, rfl, hS, fun p hp => ?_⟩
        refine ⟨p, ns.take 1, rfl, SqL.of ?_, .inl ⟨_, rfl, _, _, rfl, rfl, (by show (0 : Int) < 1000003; decide), _, _, rfl, rfl, ?_⟩⟩
        · rw [upd_same, cut_first, List.map_take]
        · exact ⟨_, rfl, same_upd hp⟩
    · rintro σ' H' ⟨c, rfl, hs⟩
      refine ⟨_, rfl, c, rfl, 10, 58, rfl, rfl, ⟨by decide, by decide +kernel⟩, 10 ^ 58, 5, rfl, rfl, ⟨by decide, by decide +kernel⟩, _, _, rfl, rfl, (by show (0 : Int) < (10 ^ 58) ^ (5 : Int).toNat; decide +kernel), ?_⟩
      have g0 := Int.emod_nonneg (if c < 0 then -c else c) (by decide +kernel : ((10 : Int) ^ 58) ^ (5 : Int).toNat ≠ 0)
      have g1 := Int.emod_lt_of_pos (if c < 0 then -c else c) (by decide +kernel : (0 : Int) < ((10 : Int) ^ 58) ^ (5 : Int).toNat)
      have e290 : ((10 : Int) ^ 58) ^ (5 : Int).toNat = 10 ^ 290 := by decide +kernel
      rw [e290] at g0 g1
      have gb := lt3000 g0 g1
      refine ⟨_, rfl, 10, 16, rfl, rfl, ⟨by decide, by decide +kernel⟩, _, _, rfl, rfl, _, _, rfl, ?_⟩
      refine ⟨_, rfl, _, _, rfl, rfl, (by show (0 : Int) < 1000000000061; decide), _, _, rfl, rfl, CMulW.of (lt3000s (by omega) (by omega)) (lt3000s (by decide) (by decide)), _, rfl, _, _, rfl, rfl, CMulW.of (lt3000s (by decide) (by decide)) (lt3000s (by omega) (by omega)), _, _, rfl, rfl, ?_⟩
      refine ⟨_, rfl, _, _, rfl, rfl, .inr ⟨_, rfl, _, _, rfl, rfl, CMulW.of (lt3000s (by decide) (by decide)) (lt3000s (by split <;> decide) (by split <;> decide)), _, _, rfl, rfl, _, _, rfl, rfl, (by show 3 ≤ sizeLine; decide), fun p hp => ?_⟩⟩
      have e16 : (10 : Int) ^ (16 : Int).toNat = 10000000000000000 := by decide +kernel
      have eb : ∀ b : Bool, 0 ≤ (if b = true then (1 : Int) else 0) ∧ (if b = true then (1 : Int) else 0) ≤ 1 := fun b => by cases b <;> decide
      have hb := eb (decide (c < 0))
      refine q p _ _ (hs.trans (same_upd hp)) (hs.free hp) upd_same ⟨_, _, _, rfl, ?_, ?_, ?_, ?_, by decide, by decide⟩
      · rw [e16]
        split <;> omega
      · rw [e16, e290]
        have : (0 : Int) < 10 ^ 290 := by decide +kernel
        have h1 : ∀ z N : Int, 0 ≤ z → z < N → 0 < N → (if z - 10000000000000000 > 0 then z - 10000000000000000 else 0) < N := fun z N a b c => by split <;> omega
        exact h1 _ _ g0 g1 this
      · omega
      · omega
end
end Sf

namespace Sf
open PySem PySem.Spec PyProof.Rows L2
section
variable {P : Program} {w : World} {K : PySem.W.Frag} {mg : Str → Option Value} {base : Heap} {f : Addr} {fd : FuncData}
structure OneOfP (K : PySem.W.Frag) (vs : List V) (H : Hp) (Q : VK) : Prop where
  ex : ∃ (p b : Addr) (xs items : List V) (n : Nat), vs = [.ref p, .ref b] ∧ H p = some (.lst xs) ∧ SackO n xs ∧ n ≤ 1000000 ∧ b ≠ p ∧ SqL K H b items ∧ 1 ≤ items.length ∧ items.length ≤ 1000000 ∧
  ∀ (v : V) (ys : List V), v ∈ items → SackO (n + 1) ys → Q v (upd H p (.lst ys))
def spOneOf (K : PySem.W.Frag) : Sp := fun vs H Q _ => OneOfP K vs H Q
theorem sq_upd {K : PySem.W.Frag} {H : Hp} {a p : Addr} {xs : List V} {o : HO} (h : SqL K H a xs) (n : a ≠ p) : SqL K (upd H p o) a xs := by
  rcases h with (h | ⟨u, h⟩) | h
  · exact .inl (.inl (by rw [upd_ne n]; exact h))
  · exact .inl (.inr ⟨u, by rw [upd_ne n]; exact h⟩)
  · exact .inr h
theorem ok_one_of (F : FnD K "_law_one_of" "_law_one_of" s_L_one_of f fd) (T : Glob mg) (C_L_take : Cal P w K mg base 1 "_law_take" ["_law_sack_here", "_law_many"] spTake) : FnOk P w K mg base CX0 2 f fd ["_law_sack_here", "_law_items"] (spOneOf K) := by
  refine F.ok sc_L_one_of (fun vs H Q E h => ?_) (fun cdv A outer s H vs Q E hr h => ?_)
  · obtain ⟨p, b, xs, items, n, rfl, _⟩ := h.ex; rfl
  · obtain ⟨p, b, xs, items, n, rfl, hp, hx, hn, hne, hS, hl0, hl1, q⟩ := h.ex
    refine ⟨_, PSs.nox (pss_one (ps_ret (pe_ix ix_list (pv 1) (pe_cal C_L_take (hr.mono (by decide)) (pa_cons (pv 0) (pa_cons (pe_callB call_len_seq (by rfl) T.m_len (by decide +kernel) (pa_cons (pv 1) pa_nil)) pa_nil))) (fun _ _ => rfl)))), ?_⟩
    refine ⟨_, rfl, _, rfl, _, rfl, b, _, rfl, .inl hS, ⟨p, xs, n, _, rfl, hp, hx, hn, by omega, ?_, fun r ys h0 h1 hy => ?_⟩⟩
    · exact Int.lt_trans (by omega : (items.length : Int) < 1000001) (by decide +kernel)
    · have hi : r.toNat < items.length := by omega
      have er : ((r.toNat : Nat) : Int) = r := by omega
      refine ⟨b, items, r, items[r.toNat], rfl, rfl, sq_upd hS hne, ?_, q _ ys (List.getElem_mem hi) hy⟩
      have z := atI_nat (List.getElem?_eq_getElem hi)
      rw [er] at z
      exact z
end
end Sf

namespace Sf
open PySem PySem.Spec PyProof.Rows L2
/-- the rests of squares, and the sign by them -/
def sqs (p : Int) : List Int := (List.range (p - 1).toNat).map fun i => ((1 : Int) + (i : Nat)) * (1 + (i : Nat)) % p
theorem sqs_at {p : Int} {i : Nat} (h : i < (p - 1).toNat) : (sqs p)[i]? = some (((1 : Int) + (i : Nat)) * (1 + (i : Nat)) % p) := by
  unfold sqs
  rw [List.getElem?_map, List.getElem?_range h]
  rfl
def lawSign (n p : Int) : Int := if n % p = 0 then 0 else if p = 2 then (if n % 8 = 1 ∨ n % 8 = 7 then 1 else -1) else if n % p ∈ sqs p then 1 else -1
end Sf

namespace Sf
open PySem PySem.Spec PyProof.Rows L2
section
variable {P : Program} {w : World} {K : PySem.W.Frag} {mg : Str → Option Value} {base : Heap} {f : Addr} {fd : FuncData}
def spLSign : Sp := fun vs H Q _ => ∃ n p : Int, vs = [.int n, .int p] ∧ 2 ≤ p ∧ p ≤ 100000 ∧ ∀ H', Same H H' → Q (.int (lawSign n p)) H'
theorem ok_l_sign (F : FnD K "_law_sign" "_law_sign" s_L_sign f fd) (T : Glob mg) : FnOk P w K mg base CX0 1 f fd ["_law_number_here", "_law_prime"] spLSign := by
  refine F.ok sc_L_sign (fun vs H Q E h => ?_) (fun cdv A outer s H vs Q E hr h => ?_)
  · obtain ⟨n, p, rfl, _⟩ := h; rfl
  · obtain ⟨n, p, rfl, hp, hb, q⟩ := h
    refine ⟨_, PSs.nox (pss_cons (ps_set (i := 2) sc_L_sign.nd rfl (Or.inl rfl) (pe_op op_mod (pe_callTy call_int1 (by rfl) T.m_int (by decide +kernel) (pa_cons (pv 0) pa_nil)) (pv 1)))
      (pss_cons (ps_if (pt_cmp (pc_eqI (pv 2) pe_int)) (pss_one (ps_ret pe_int)) pss_nil)
      (pss_cons (ps_if (pt_cmp (pc_eqI (pv 1) pe_int)) (pss_one (ps_ret (pe_ifExp (pt_cmpR op_in_seq (pe_op op_mod (pe_callTy call_int1 (by rfl) T.m_int (by decide +kernel) (pa_cons (pv 0) pa_nil)) pe_int) (pe_tup (pa_cons pe_int (pa_cons pe_int pa_nil))) (by rfl)) pe_int (pe_un un_neg pe_int)))) pss_nil)
      (pss_one (ps_ret (pe_ifExp (pt_cmpR op_in_seq (pv 2) (pe_lc rfl sc_L_sign.nd (own := [("_law_one", 3)]) (pi_range2 (by rfl) T.m_range (pa_cons pe_int (pa_cons (pv 1) pa_nil))) (blkOk_by (N := ["_law_number_here", "_law_prime", "_law_rest", "_law_one"]) (sc := defScope s_L_sign) (by decide +kernel)) (fun _ _ _ _ _ => pg_name (i := 3) sc_L_sign.nd rfl (Or.inl rfl)) (fun _ _ _ _ _ => pts_nil) (fun _ _ _ _ _ => (pe_op op_mod (pe_callTy call_int1 (by rfl) T.m_int (by decide +kernel) (pa_cons (pe_op op_mulW (pv 3) (pv 3)) pa_nil)) (pv 1)))) (by rfl)) pe_int (pe_un un_neg pe_int))))))), ?_⟩
    unfold lawSign at q
    refine ⟨_, rfl, .inl ⟨_, rfl, _, rfl, _, _, rfl, rfl, (by omega), ?_⟩⟩
    refine ⟨_, rfl, _, _, rfl, rfl, _, rfl, ifd (fun h => ?_) (fun h => ?_)⟩
    · rw [if_pos h] at q
      exact q H (Same.refl H)
    · rw [if_neg h] at q
      refine ⟨_, rfl, _, _, rfl, rfl, _, rfl, ifd (fun h2 => ?_) (fun h2 => ?_)⟩
      · rw [if_pos h2] at q
        refine ⟨_, rfl, .inl ⟨_, rfl, _, _, rfl, rfl, (by show (0 : Int) < 8; decide), (by show 2 ≤ sizeLine; decide), fun a ha => ?_⟩⟩
        refine ⟨a, _, rfl, .inr (.inl (.inl upd_same)), rfl, rfl, _, rfl, ?_⟩
        rw [inV_two]
        refine ifd (fun e => ?_) (fun e => ?_)
        · rw [if_pos e] at q
          exact q _ (same_upd ha)
        · rw [if_neg e] at q
          exact ⟨_, rfl, q _ (same_upd ha)⟩
      · rw [if_neg h2] at q
        refine ⟨_, rfl, _, rfl, 1, p, rfl, ⟨by decide, by decide, by omega, by omega⟩, fun D hD => lc_range (lo := 1) (n := (p - 1).toNat) (fun i H' => Same H H' ∧ H' D = some (.lst (((sqs p).take i).map V.int))) ⟨same_upd hD, by rw [upd_same]; rfl⟩ (fun i H' hi hP => ?_) (fun H' hP => ?_)⟩
        · obtain ⟨hs, hd⟩ := hP
          have ib : ((1 : Int) + (i : Nat)).natAbs < 2 ^ 3000 := lt3000s (by omega) (by omega)
          refine ⟨rfl, ?_⟩
          refine ⟨_, rfl, _, rfl, _, _, rfl, rfl, CMulW.of ib ib, .inl ⟨_, rfl, _, rfl, _, _, rfl, rfl, (by omega), _, hd, ?_, ?_, ?_⟩⟩
          · rw [List.length_map]
            exact Nat.lt_of_le_of_lt (List.length_take_le _ _) (Nat.lt_of_lt_of_le (by omega : i < 1000000) (by decide))
          · intro b o e
            rw [upd_ne (ne_of_none e hD)]
            exact hs b o e
          · rw [upd_same, List.take_add_one, sqs_at hi, List.map_append]
            rfl
        · obtain ⟨hs, hd⟩ := hP
          have et : (sqs p).take (p - 1).toNat = sqs p := List.take_of_length_le (by unfold sqs; rw [List.length_map, List.length_range]; exact Nat.le_refl _)
          rw [et] at hd
          refine ⟨D, _, rfl, .inl (SqL.of hd), rfl, all_flat _, _, rfl, ?_⟩
          rw [inV_ints]
          refine ifd (fun e => ?_) (fun e => ?_)
          · rw [if_pos e] at q
            exact q _ hs
          · rw [if_neg e] at q
            exact ⟨_, rfl, q _ hs⟩
end
end Sf

namespace Sf
/-! the state of trial division: what was found, what is left -/
structure Trial (N : Int) (l : List (Int × Nat)) (r d : Int) : Prop where
  prod : prodF l * r = N
  pos : 1 ≤ r
  le : r ≤ N
  srt : Sorted l
  prm : Primes l
  low : ∀ q ∈ l, q.1 < d
  nod : NoDiv r d
theorem trial_start {N : Int} (h : 1 ≤ N) : Trial N [] N 2 := ⟨by show 1 * N = N; omega, h, Int.le_refl _, List.Pairwise.nil, (fun _ h => by cases h), (fun _ h => by cases h), nodiv2 N⟩
theorem sorted_snoc {l : List (Int × Nat)} {p : Int} {e : Nat} (h : Sorted l) (hl : ∀ q ∈ l, q.1 < p) : Sorted (l ++ [(p, e)]) := by
  unfold Sorted at *
  rw [List.pairwise_append]
  refine ⟨h, List.pairwise_singleton _ _, fun a ha b hb => ?_⟩
  rw [List.mem_singleton] at hb
  rw [hb]
  exact hl a ha
theorem primes_snoc {l : List (Int × Nat)} {p : Int} {e : Nat} (h : Primes l) (hp : PrP p) (he : 1 ≤ e) : Primes (l ++ [(p, e)]) := fun q hq => by
  rcases List.mem_append.mp hq with z | z
  · exact h q z
  · rw [List.mem_singleton] at z
    rw [z]
    exact ⟨hp, he⟩
theorem prodF_one (p : Int) (e : Nat) : prodF [(p, e)] = p ^ e := by
  show p ^ e * 1 = p ^ e
  rw [Int.mul_one]
theorem next_gt {d : Int} (h : 2 ≤ d) : d < (if d = 2 then 3 else d + 2) := by split <;> omega
theorem trial_pass {N r d : Int} {l : List (Int × Nat)} (h : Trial N l r d) (hd : r % d ≠ 0) : Trial N l r (if d = 2 then 3 else d + 2) :=
  ⟨h.prod, h.pos, h.le, h.srt, h.prm, fun q hq => Int.lt_trans (h.low q hq) (next_gt h.nod.1), nodiv_next h.nod hd⟩
theorem trial_take {N r d u : Int} {m : Nat} {l : List (Int × Nat)} (h : Trial N l r d) (hd : r % d = 0) (e : r = d ^ m * u) (hu : u % d ≠ 0) : Trial N (l ++ [(d, m)]) u (if d = 2 then 3 else d + 2) ∧ 1 ≤ m ∧ u ≤ r := by
  have hd2 := h.nod.1
  have hr := h.pos
  have hm : 1 ≤ m := by
    rcases Nat.eq_zero_or_pos m with z | z
    · subst z
      rw [Int.pow_zero, Int.one_mul] at e
      rw [e] at hd
      exact absurd hd hu
    · exact z
  have hdm : 0 < d ^ m := pow_pos_int (by omega) m
  have hu0 : 1 ≤ u := by
    rcases Int.lt_or_le 0 u with z | z
    · omega
    · have := Int.mul_nonpos_of_nonneg_of_nonpos (Int.le_of_lt hdm) z
      omega
  have hur : u ≤ r := by
    have : 1 * u ≤ d ^ m * u := Int.mul_le_mul_of_nonneg_right (by omega) (by omega)
    omega
  have hdu : r % u = 0 := Int.emod_eq_zero_of_dvd ⟨d ^ m, by rw [e]; exact Int.mul_comm _ _⟩
  refine ⟨⟨?_, hu0, Int.le_trans hur h.le, sorted_snoc h.srt h.low, primes_snoc h.prm (nodiv_prime h.nod hd) hm, fun q hq => ?_, nodiv_next (nodiv_of h.nod hdu) hu⟩, hm, hur⟩
  · rw [prodF_append, prodF_one, Int.mul_assoc, ← e]
    exact h.prod
  · have hn := next_gt hd2
    rcases List.mem_append.mp hq with z | z
    · exact Int.lt_trans (h.low q z) hn
    · rw [List.mem_singleton] at z
      rw [z]
      exact hn
theorem trial_end1 {N d : Int} {l : List (Int × Nat)} (h : Trial N l 1 d) : FactOf N l := ⟨by have := h.prod; rw [Int.mul_one] at this; exact this, h.srt, h.prm⟩
theorem trial_end {N r d : Int} {l : List (Int × Nat)} (h : Trial N l r d) (hr : 1 < r) (hd : r < d * d) : FactOf N (l ++ [(r, 1)]) ∧ ∀ q ∈ l, q.1 < r := by
  have h2 := nodiv_lt h.nod (by omega)
  have hl : ∀ q ∈ l, q.1 < r := fun q hq => Int.lt_of_lt_of_le (h.low q hq) h2
  have hp : PrP r := prp_of_trial (by omega) h.nod.1 h.nod.2.2 hd
  refine ⟨⟨?_, sorted_snoc h.srt hl, primes_snoc h.prm hp (by omega)⟩, hl⟩
  rw [prodF_append, prodF_one, Int.pow_succ, Int.pow_zero, Int.one_mul]
  exact h.prod
theorem prodF_pos {l : List (Int × Nat)} (h : Primes l) : 1 ≤ prodF l := by
  have h1 := prodF_len h
  have h2 : (0 : Int) < 2 ^ l.length := pow_pos_int (by omega) _
  omega
theorem trial_len {N r d : Int} {l : List (Int × Nat)} (h : Trial N l r d) (hN : N ≤ 1000000000) : l.length < 30 := by
  refine len_of_prod h.prm ?_
  have h1 := prodF_pos h.prm
  have h2 := h.prod
  have h3 := h.pos
  have h4 : prodF l * 1 ≤ prodF l * r := Int.mul_le_mul_of_nonneg_left h3 (by omega)
  omega
theorem fact_len {N : Int} {l : List (Int × Nat)} (h : FactOf N l) (hN : N ≤ 1000000000) : l.length < 30 := len_of_prod h.2.2 (by rw [h.1]; exact hN)
/-- the product of the primes with an odd power -/
def oddF : List (Int × Nat) → Int
  | [] => 1
  | q :: l => (if q.2 % 2 = 1 then q.1 else 1) * oddF l
theorem oddF_append : ∀ l m : List (Int × Nat), oddF (l ++ m) = oddF l * oddF m
  | [], m => by
    show oddF m = 1 * oddF m
    rw [Int.one_mul]
  | q :: l, m => by
    show (if q.2 % 2 = 1 then q.1 else 1) * oddF (l ++ m) = (if q.2 % 2 = 1 then q.1 else 1) * oddF l * oddF m
    rw [oddF_append l m, Int.mul_assoc]
theorem pow_split (p : Int) (e : Nat) : p ^ e = (if e % 2 = 1 then p else 1) * (p ^ (e / 2) * p ^ (e / 2)) := by
  have e1 : e = e % 2 + (e / 2 + e / 2) := by omega
  conv => lhs; rw [e1]
  rw [Int.pow_add, Int.pow_add]
  congr 1
  split
  · rename_i h
    rw [h, Int.pow_succ, Int.pow_zero, Int.one_mul]
  · rename_i h
    rw [show e % 2 = 0 by omega, Int.pow_zero]
theorem oddF_bound {l : List (Int × Nat)} : Primes l → 1 ≤ oddF l ∧ oddF l ≤ prodF l := by
  induction l with
  | nil => intro _; exact ⟨Int.le_refl _, Int.le_refl _⟩
  | cons q l ih =>
    intro h
    have ih := ih fun r hr => h r (List.mem_cons_of_mem _ hr)
    obtain ⟨hp, he⟩ := h q List.mem_cons_self
    have hp2 := hp.1
    have h1 : 1 ≤ (if q.2 % 2 = 1 then q.1 else 1) := by split <;> omega
    have h2 : (if q.2 % 2 = 1 then q.1 else 1) ≤ q.1 ^ q.2 := by
      rw [pow_split q.1 q.2]
      have h3 : 0 < q.1 ^ (q.2 / 2) := pow_pos_int (by omega) _
      have h4 : 0 < q.1 ^ (q.2 / 2) * q.1 ^ (q.2 / 2) := Int.mul_pos h3 h3
      have h5 : (if q.2 % 2 = 1 then q.1 else 1) * 1 ≤ (if q.2 % 2 = 1 then q.1 else 1) * (q.1 ^ (q.2 / 2) * q.1 ^ (q.2 / 2)) := Int.mul_le_mul_of_nonneg_left h4 (by omega)
      omega
    show 1 ≤ (if q.2 % 2 = 1 then q.1 else 1) * oddF l ∧ (if q.2 % 2 = 1 then q.1 else 1) * oddF l ≤ q.1 ^ q.2 * prodF l
    refine ⟨?_, Int.mul_le_mul h2 ih.2 (by omega) (by omega)⟩
    have := Int.mul_pos (show 0 < (if q.2 % 2 = 1 then q.1 else 1) by omega) (show 0 < oddF l by omega)
    omega
theorem prodF_take {l : List (Int × Nat)} (h : Primes l) (i : Nat) : prodF (l.take i) ≤ prodF l := by
  have e : prodF l = prodF (l.take i) * prodF (l.drop i) := by rw [← prodF_append, List.take_append_drop]
  have h1 : 1 ≤ prodF (l.take i) := prodF_pos fun q hq => h q (List.mem_of_mem_take hq)
  have h2 : 1 ≤ prodF (l.drop i) := prodF_pos fun q hq => h q (List.mem_of_mem_drop hq)
  have h3 : prodF (l.take i) * 1 ≤ prodF (l.take i) * prodF (l.drop i) := Int.mul_le_mul_of_nonneg_left h2 (by omega)
  omega
theorem self_le_pow {p : Int} (h : 2 ≤ p) : ∀ {e : Nat}, 1 ≤ e → p ≤ p ^ e
  | 0, h0 => by omega
  | e + 1, _ => by
    rw [Int.pow_succ]
    have h1 : 0 < p ^ e := pow_pos_int (by omega) e
    have h2 : 1 * p ≤ p ^ e * p := Int.mul_le_mul_of_nonneg_right (by omega) (by omega)
    omega
theorem prodF_mem : ∀ {l : List (Int × Nat)}, Primes l → ∀ q ∈ l, q.1 ≤ prodF l
  | [], _, q, hq => by cases hq
  | r :: l, h, q, hq => by
    have h1 : 1 ≤ prodF l := prodF_pos fun q hq => h q (List.mem_cons_of_mem _ hq)
    obtain ⟨hp, he⟩ := h r List.mem_cons_self
    have hp2 := hp.1
    have h2 := self_le_pow hp2 he
    show q.1 ≤ r.1 ^ r.2 * prodF l
    rcases List.mem_cons.mp hq with z | z
    · subst z
      have h3 : q.1 ^ q.2 * 1 ≤ q.1 ^ q.2 * prodF l := Int.mul_le_mul_of_nonneg_left h1 (by omega)
      omega
    · have h3 := prodF_mem (l := l) (fun q hq => h q (List.mem_cons_of_mem _ hq)) q z
      have h4 : 1 * prodF l ≤ r.1 ^ r.2 * prodF l := Int.mul_le_mul_of_nonneg_right (by omega) (by omega)
      omega
theorem nat_lt_pow {p : Int} (h : 2 ≤ p) : ∀ e : Nat, (e : Int) < p ^ e
  | 0 => by rw [Int.pow_zero]; decide
  | e + 1 => by
    have ih := nat_lt_pow h e
    rw [Int.pow_succ]
    have h1 : 0 < p ^ e := pow_pos_int (by omega) e
    have h2 : p ^ e * 2 ≤ p ^ e * p := Int.mul_le_mul_of_nonneg_left h (by omega)
    omega
theorem prodF_mem2 : ∀ {l : List (Int × Nat)}, Primes l → ∀ q ∈ l, (q.2 : Int) < prodF l
  | [], _, q, hq => by cases hq
  | r :: l, h, q, hq => by
    have h1 : 1 ≤ prodF l := prodF_pos fun q hq => h q (List.mem_cons_of_mem _ hq)
    obtain ⟨hp, he⟩ := h r List.mem_cons_self
    have hp2 := hp.1
    have h2 := self_le_pow hp2 he
    show (q.2 : Int) < r.1 ^ r.2 * prodF l
    rcases List.mem_cons.mp hq with z | z
    · subst z
      have h3 : q.1 ^ q.2 * 1 ≤ q.1 ^ q.2 * prodF l := Int.mul_le_mul_of_nonneg_left h1 (by omega)
      have h4 := nat_lt_pow hp2 q.2
      omega
    · have h3 := prodF_mem2 (l := l) (fun q hq => h q (List.mem_cons_of_mem _ hq)) q z
      have h4 : 1 * prodF l ≤ r.1 ^ r.2 * prodF l := Int.mul_le_mul_of_nonneg_right (by omega) (by omega)
      omega
end Sf

namespace Sf
/-! a prime divides a product only if it divides a factor -/
theorem PrP.pos {p : Int} (h : PrP p) : 0 < p := by have := h.1; omega
theorem gcd_of_prime {p : Int} (h : PrP p) {a : Int} (ha : ¬ p ∣ a) : Nat.Coprime p.natAbs a.natAbs := by
  have hp := h.1
  have h1 : Nat.gcd p.natAbs a.natAbs ∣ p.natAbs := Nat.gcd_dvd_left ..
  have h2 : Nat.gcd p.natAbs a.natAbs ∣ a.natAbs := Nat.gcd_dvd_right ..
  have h0 : 0 < Nat.gcd p.natAbs a.natAbs := Nat.gcd_pos_of_pos_left _ (by omega)
  have hle : Nat.gcd p.natAbs a.natAbs ≤ p.natAbs := Nat.le_of_dvd (by omega) h1
  unfold Nat.Coprime
  rcases Nat.lt_or_ge (Nat.gcd p.natAbs a.natAbs) 2 with z | z
  · omega
  · rcases Nat.lt_or_ge (Nat.gcd p.natAbs a.natAbs) p.natAbs with z2 | z2
    · exfalso
      refine h.2 (Nat.gcd p.natAbs a.natAbs : Int) (by omega) (by omega) ?_
      refine Int.emod_eq_zero_of_dvd ?_
      have : ((Nat.gcd p.natAbs a.natAbs : Nat) : Int) ∣ ((p.natAbs : Nat) : Int) := Int.ofNat_dvd.mpr h1
      rwa [Int.natAbs_of_nonneg (by omega : 0 ≤ p)] at this
    · exfalso
      have e : Nat.gcd p.natAbs a.natAbs = p.natAbs := by omega
      rw [e] at h2
      exact ha (Int.natAbs_dvd_natAbs.mp h2)
theorem prime_mul {p : Int} (h : PrP p) {a b : Int} (hd : p ∣ a * b) : p ∣ a ∨ p ∣ b := by
  by_cases ha : p ∣ a
  · exact .inl ha
  · refine .inr ?_
    have h1 : p.natAbs ∣ a.natAbs * b.natAbs := by
      rw [← Int.natAbs_mul]
      exact Int.natAbs_dvd_natAbs.mpr hd
    exact Int.natAbs_dvd_natAbs.mp (Nat.Coprime.dvd_of_dvd_mul_left (gcd_of_prime h ha) h1)
theorem prime_one {p : Int} (h : PrP p) : ¬ p ∣ 1 := fun z => by
  have h1 := Int.le_of_dvd (by omega) z
  have := h.1
  omega
theorem prime_pow {p a : Int} (h : PrP p) : ∀ {e : Nat}, p ∣ a ^ e → p ∣ a
  | 0, z => absurd (by rwa [Int.pow_zero] at z) (prime_one h)
  | e + 1, z => by
    rw [Int.pow_succ] at z
    rcases prime_mul h z with y | y
    · exact prime_pow h y
    · exact y
theorem prime_dvd_prime {p q : Int} (hp : PrP p) (hq : PrP q) (h : p ∣ q) : p = q := by
  have h1 := hp.1
  have h2 := hq.1
  have h3 := Int.le_of_dvd (by omega) h
  rcases Int.lt_or_le p q with z | z
  · exact absurd (Int.emod_eq_zero_of_dvd h) (hq.2 p h1 z)
  · omega
theorem prime_prodF {p : Int} (h : PrP p) : ∀ {l : List (Int × Nat)}, Primes l → p ∣ prodF l → ∃ e, (p, e) ∈ l
  | [], _, z => absurd z (prime_one h)
  | q :: l, hl, z => by
    rcases prime_mul h (show p ∣ q.1 ^ q.2 * prodF l from z) with y | y
    · have e := prime_dvd_prime h (hl q List.mem_cons_self).1 (prime_pow h y)
      exact ⟨q.2, by rw [e]; exact List.mem_cons_self⟩
    · obtain ⟨e, he⟩ := prime_prodF h (fun r hr => hl r (List.mem_cons_of_mem _ hr)) y
      exact ⟨e, List.mem_cons_of_mem _ he⟩
theorem pow_cancel {p : Int} (h : PrP p) {R S : Int} (hR : ¬ p ∣ R) (hS : ¬ p ∣ S) : ∀ {a b : Nat}, p ^ a * R = p ^ b * S → a = b ∧ R = S
  | 0, 0, e => ⟨rfl, by rwa [Int.pow_zero, Int.one_mul, Int.one_mul] at e⟩
  | 0, b + 1, e => by
    rw [Int.pow_zero, Int.one_mul, Int.pow_succ, Int.mul_assoc] at e
    refine absurd ?_ hR
    rw [e, Int.mul_comm, Int.mul_assoc]
    exact Int.dvd_mul_right ..
  | a + 1, 0, e => by
    rw [Int.pow_zero, Int.one_mul, Int.pow_succ, Int.mul_assoc] at e
    refine absurd ?_ hS
    rw [← e, Int.mul_comm, Int.mul_assoc]
    exact Int.dvd_mul_right ..
  | a + 1, b + 1, e => by
    have h0 := h.pos
    rw [Int.pow_succ, Int.pow_succ, Int.mul_comm (p ^ a), Int.mul_comm (p ^ b), Int.mul_assoc, Int.mul_assoc] at e
    obtain ⟨h1, h2⟩ := pow_cancel h hR hS (Int.eq_of_mul_eq_mul_left (by omega) e)
    exact ⟨by omega, h2⟩
/-! one number, one factorization -/
def Distinct (l : List (Int × Nat)) : Prop := (l.map (·.1)).Nodup
theorem distinct_of_sorted {l : List (Int × Nat)} (h : Sorted l) : Distinct l := by
  unfold Distinct List.Nodup
  rw [List.pairwise_map]
  exact h.imp fun h e => by omega
theorem distinct_perm {l m : List (Int × Nat)} (h : l.Perm m) (d : Distinct l) : Distinct m := by
  unfold Distinct at *
  exact (h.map _).nodup_iff.mp d
theorem prodF_perm {l m : List (Int × Nat)} (h : l.Perm m) : prodF l = prodF m := by
  induction h with
  | nil => rfl
  | cons x _ ih => show x.1 ^ x.2 * _ = x.1 ^ x.2 * _; rw [ih]
  | swap x y l => show y.1 ^ y.2 * (x.1 ^ x.2 * _) = x.1 ^ x.2 * (y.1 ^ y.2 * _); exact Int.mul_left_comm ..
  | trans _ _ a b => exact a.trans b
theorem oddF_perm {l m : List (Int × Nat)} (h : l.Perm m) : oddF l = oddF m := by
  induction h with
  | nil => rfl
  | cons x _ ih => show (if x.2 % 2 = 1 then x.1 else 1) * _ = (if x.2 % 2 = 1 then x.1 else 1) * _; rw [ih]
  | swap x y l => exact Int.mul_left_comm ..
  | trans _ _ a b => exact a.trans b
theorem not_dvd_rest {p : Int} {e : Nat} {l : List (Int × Nat)} (hp : Primes ((p, e) :: l)) (hd : Distinct ((p, e) :: l)) : ¬ p ∣ prodF l := fun z => by
  obtain ⟨e', he⟩ := prime_prodF (hp (p, e) List.mem_cons_self).1 (fun r hr => hp r (List.mem_cons_of_mem _ hr)) z
  unfold Distinct at hd
  rw [List.map_cons, List.nodup_cons] at hd
  exact hd.1 (List.mem_map.mpr ⟨(p, e'), he, rfl⟩)
theorem fact_unique : ∀ {l m : List (Int × Nat)}, Primes l → Distinct l → Primes m → Distinct m → prodF l = prodF m → l.Perm m
  | [], m, _, _, hm, _, e => by
    cases m with
    | nil => exact List.Perm.nil
    | cons q m =>
      have h1 := prodF_len hm
      rw [← e] at h1
      have h2 : (0 : Int) < 2 ^ m.length := pow_pos_int (by omega) _
      rw [List.length_cons, Int.pow_succ] at h1
      have h3 : prodF [] = 1 := rfl
      omega
  | (p, a) :: l, m, hl, dl, hm, dm, e => by
    have hp := (hl (p, a) List.mem_cons_self).1
    have ha := (hl (p, a) List.mem_cons_self).2
    have hdv : p ∣ prodF m := by
      rw [← e]
      show p ∣ p ^ a * prodF l
      obtain ⟨k, rfl⟩ : ∃ k, a = k + 1 := ⟨a - 1, by have : 1 ≤ a := ha; omega⟩
      rw [Int.pow_succ, Int.mul_comm (p ^ k), Int.mul_assoc]
      exact Int.dvd_mul_right ..
    obtain ⟨b, hb⟩ := prime_prodF hp hm hdv
    have hperm := List.perm_cons_erase hb
    have hm2 : Primes ((p, b) :: m.erase (p, b)) := fun r hr => hm r (hperm.mem_iff.mpr hr)
    have dm2 : Distinct ((p, b) :: m.erase (p, b)) := distinct_perm hperm dm
    have e2 : p ^ a * prodF l = p ^ b * prodF (m.erase (p, b)) := e.trans (prodF_perm hperm)
    obtain ⟨h1, h2⟩ := pow_cancel hp (not_dvd_rest hl dl) (not_dvd_rest hm2 dm2) e2
    subst h1
    have ih := fact_unique (l := l) (m := m.erase (p, a)) (fun r hr => hl r (List.mem_cons_of_mem _ hr)) ((List.nodup_cons.mp dl).2) (fun r hr => hm2 r (List.mem_cons_of_mem _ hr)) ((List.nodup_cons.mp dm2).2) h2
    exact (ih.cons (p, a)).trans hperm.symm
/-! the square-free part -/
def oddL (l : List (Int × Nat)) : List (Int × Nat) := (l.filter fun q => q.2 % 2 == 1).map fun q => (q.1, 1)
theorem oddL_prod : ∀ l : List (Int × Nat), prodF (oddL l) = oddF l ∧ oddF (oddL l) = oddF l
  | [] => ⟨rfl, rfl⟩
  | q :: l => by
    obtain ⟨h1, h2⟩ := oddL_prod l
    unfold oddL at *
    by_cases h : q.2 % 2 = 1
    · rw [List.filter_cons_of_pos (by simp [h]), List.map_cons]
      show q.1 ^ 1 * _ = (if q.2 % 2 = 1 then q.1 else 1) * _ ∧ (if (1 : Nat) % 2 = 1 then q.1 else 1) * _ = (if q.2 % 2 = 1 then q.1 else 1) * _
      rw [if_pos h, h1, h2, Int.pow_succ, Int.pow_zero, Int.one_mul]
      exact ⟨rfl, rfl⟩
    · rw [List.filter_cons_of_neg (by simp [h])]
      show _ = (if q.2 % 2 = 1 then q.1 else 1) * _ ∧ _ = (if q.2 % 2 = 1 then q.1 else 1) * _
      rw [if_neg h, h1, h2, Int.one_mul]
      exact ⟨rfl, rfl⟩
theorem oddL_primes {l : List (Int × Nat)} (h : Primes l) : Primes (oddL l) := fun q hq => by
  obtain ⟨r, hr, e⟩ := List.mem_map.mp hq
  rw [← e]
  exact ⟨(h r (List.mem_filter.mp hr).1).1, Nat.le_refl _⟩
theorem oddL_distinct {l : List (Int × Nat)} (h : Distinct l) : Distinct (oddL l) := by
  unfold Distinct oddL
  rw [List.map_map]
  have : ((fun x : Int × Nat => x.1) ∘ fun q => (q.1, 1)) = fun q : Int × Nat => q.1 := rfl
  rw [this]
  exact h.sublist (List.filter_sublist.map _)
def rootF : List (Int × Nat) → Int
  | [] => 1
  | q :: l => q.1 ^ (q.2 / 2) * rootF l
theorem rootF_append : ∀ l m : List (Int × Nat), rootF (l ++ m) = rootF l * rootF m
  | [], m => by show rootF m = 1 * rootF m; rw [Int.one_mul]
  | q :: l, m => by
    show q.1 ^ (q.2 / 2) * rootF (l ++ m) = q.1 ^ (q.2 / 2) * rootF l * rootF m
    rw [rootF_append l m, Int.mul_assoc]
theorem odd_root : ∀ l : List (Int × Nat), oddF l * rootF l * rootF l = prodF l
  | [] => rfl
  | q :: l => by
    have ih := odd_root l
    show (if q.2 % 2 = 1 then q.1 else 1) * oddF l * (q.1 ^ (q.2 / 2) * rootF l) * (q.1 ^ (q.2 / 2) * rootF l) = q.1 ^ q.2 * prodF l
    rw [pow_split q.1 q.2, ← ih]
    generalize (if q.2 % 2 = 1 then q.1 else 1) = c
    generalize q.1 ^ (q.2 / 2) = g
    generalize oddF l = o
    generalize rootF l = r
    simp only [Int.mul_comm, Int.mul_left_comm, Int.mul_assoc]
theorem rootF_bound : ∀ {l : List (Int × Nat)}, Primes l → 1 ≤ rootF l ∧ rootF l ≤ prodF l
  | [], _ => ⟨Int.le_refl _, Int.le_refl _⟩
  | q :: l, h => by
    have ih := rootF_bound (l := l) fun r hr => h r (List.mem_cons_of_mem _ hr)
    have hp2 := (h q List.mem_cons_self).1.1
    have h1 : 0 < q.1 ^ (q.2 / 2) := pow_pos_int (by omega) _
    have h2 : q.1 ^ (q.2 / 2) ≤ q.1 ^ q.2 := by
      have e : q.2 = q.2 / 2 + (q.2 - q.2 / 2) := by omega
      have h3 : 0 < q.1 ^ (q.2 - q.2 / 2) := pow_pos_int (by omega) _
      have h4 : q.1 ^ (q.2 / 2) * 1 ≤ q.1 ^ (q.2 / 2) * q.1 ^ (q.2 - q.2 / 2) := Int.mul_le_mul_of_nonneg_left (by omega) (by omega)
      rw [← Int.pow_add, ← e] at h4
      omega
    show 1 ≤ q.1 ^ (q.2 / 2) * rootF l ∧ q.1 ^ (q.2 / 2) * rootF l ≤ q.1 ^ q.2 * prodF l
    refine ⟨?_, Int.mul_le_mul h2 ih.2 (by omega) (by omega)⟩
    have := Int.mul_pos h1 (show 0 < rootF l by omega)
    omega
theorem primes_take {l : List (Int × Nat)} (h : Primes l) (i : Nat) : Primes (l.take i) := fun r hr => h r (List.mem_of_mem_take hr)
theorem rootF_take_pos {l : List (Int × Nat)} (h : Primes l) (i j : Nat) {q : Int} (hq : 2 ≤ q := by omega) : 1 ≤ rootF (l.take i) * q ^ j := by
  have h1 := (rootF_bound (primes_take h i)).1
  have h2 : 0 < q ^ j := pow_pos_int (by omega) _
  have := Int.mul_pos (show 0 < rootF (l.take i) by omega) h2
  omega
theorem pow_le_pow {p : Int} (h : 1 ≤ p) {a b : Nat} (hab : a ≤ b) : p ^ a ≤ p ^ b := by
  have e : b = a + (b - a) := by omega
  have h1 : 0 < p ^ a := pow_pos_int (by omega) _
  have h2 : 0 < p ^ (b - a) := pow_pos_int (by omega) _
  have h4 : p ^ a * 1 ≤ p ^ a * p ^ (b - a) := Int.mul_le_mul_of_nonneg_left (by omega) (by omega)
  rw [← Int.pow_add, ← e] at h4
  omega
theorem rootF_take_le {l : List (Int × Nat)} (h : Primes l) {i j : Nat} (hi : i < l.length) (hj : j < l[i].2 / 2) : rootF (l.take i) * l[i].1 ^ j ≤ prodF l := by
  have hp2 := (h _ (List.getElem_mem hi)).1.1
  have h1 := rootF_bound (primes_take h (i + 1))
  have e : rootF (l.take (i + 1)) = rootF (l.take i) * l[i].1 ^ (l[i].2 / 2) := by
    rw [List.take_add_one, List.getElem?_eq_getElem hi, rootF_append]
    show _ = _
    congr 1
    show l[i].1 ^ (l[i].2 / 2) * 1 = _
    rw [Int.mul_one]
  have h2 := (rootF_bound (primes_take h i)).1
  have h3 : l[i].1 ^ j ≤ l[i].1 ^ (l[i].2 / 2) := pow_le_pow (by omega) (by omega)
  have h4 : rootF (l.take i) * l[i].1 ^ j ≤ rootF (l.take i) * l[i].1 ^ (l[i].2 / 2) := Int.mul_le_mul_of_nonneg_left h3 (by omega)
  have h5 := prodF_take h (i + 1)
  rw [← e] at h4
  omega
theorem sq_not_dvd {l : List (Int × Nat)} (h : Primes l) (d : Distinct l) {q : Int × Nat} (hq : q ∈ l) : ¬ (q.1 * q.1) ∣ oddF l := fun z => by
  have hp := (h q hq).1
  have hperm := List.perm_cons_erase hq
  have h2 : Primes (q :: l.erase q) := fun r hr => h r (hperm.mem_iff.mpr hr)
  have d2 : Distinct (q :: l.erase q) := distinct_perm hperm d
  rw [oddF_perm hperm] at z
  have h3 : q.1 ∣ oddF (l.erase q) := by
    obtain ⟨k, hk⟩ := z
    have hk2 : (if q.2 % 2 = 1 then q.1 else 1) * oddF (l.erase q) = q.1 * q.1 * k := hk
    by_cases c : q.2 % 2 = 1
    · rw [if_pos c, Int.mul_assoc] at hk2
      exact ⟨k, Int.eq_of_mul_eq_mul_left (by have := hp.pos; omega) hk2⟩
    · rw [if_neg c, Int.one_mul, Int.mul_assoc] at hk2
      exact ⟨q.1 * k, hk2⟩
  have h4 : q.1 ∣ prodF (l.erase q) := by
    rw [← odd_root]
    exact Int.dvd_mul_of_dvd_left (Int.dvd_mul_of_dvd_left h3)
  obtain ⟨p, e⟩ := q
  exact not_dvd_rest h2 d2 h4
end Sf

namespace Sf
/-! residues by tables -/
def maskOf (p : Nat) : List Nat → Nat
  | [] => 0
  | x :: l => maskOf p l ||| 2 ^ (x * x % p)
theorem maskOf_bit (p r : Nat) : ∀ l : List Nat, (maskOf p l).testBit r = l.any fun x => x * x % p == r
  | [] => Nat.zero_testBit r
  | x :: l => by
    unfold maskOf
    rw [Nat.testBit_or, maskOf_bit p r l, Nat.testBit_two_pow, List.any_cons, Bool.or_comm]
    rfl
def euler (p : Nat) : Bool :=
  let m := maskOf p (List.range' 1 (p - 1))
  (List.range' 1 (p - 1)).all fun r => (r ^ ((p - 1) / 2) % p == 1) == m.testBit r && (r ^ ((p - 1) / 2) % p == 1 || r ^ ((p - 1) / 2) % p == p - 1)
theorem sqs_nat {p r : Nat} : ((r : Int) ∈ sqs p) ↔ (List.range' 1 (p - 1)).any (fun x => x * x % p == r) = true := by
  unfold sqs
  rw [List.mem_map, List.any_eq_true]
  constructor
  · rintro ⟨i, hi, e⟩
    rw [List.mem_range] at hi
    refine ⟨1 + i, by rw [List.mem_range'_1]; omega, ?_⟩
    rw [beq_iff_eq]
    have e2 : (((1 + i) * (1 + i) % p : Nat) : Int) = (r : Int) := by
      rw [← e]
      push_cast
      rfl
    exact Int.ofNat.inj e2
  · rintro ⟨x, hx, e⟩
    rw [List.mem_range'_1] at hx
    refine ⟨x - 1, by rw [List.mem_range]; omega, ?_⟩
    rw [beq_iff_eq] at e
    have e1 : (1 : Int) + ((x - 1 : Nat) : Int) = (x : Int) := by omega
    rw [e1, ← e]
    push_cast
    rfl
theorem emod_cast {n : Int} {p : Nat} (hp : 0 < p) : ∃ r : Nat, r < p ∧ n % p = (r : Int) := by
  have h1 := Int.emod_nonneg n (by omega : (p : Int) ≠ 0)
  have h2 := Int.emod_lt_of_pos n (by omega : (0 : Int) < p)
  exact ⟨(n % p).toNat, by omega, by omega⟩
theorem half_cast (p : Nat) (hp : 1 ≤ p) : ((((p : Int) - 1) / 2).toNat) = (p - 1) / 2 := by omega
theorem pow_rest {n : Int} {p r : Nat} (k : Nat) (e : n % p = (r : Int)) : n ^ k % p = ((r ^ k % p : Nat) : Int) := by
  rw [← pow_mod, e]
  push_cast
  rfl
theorem euler_at {p : Nat} (h : euler p = true) {r : Nat} (h1 : 1 ≤ r) (h2 : r < p) : (r ^ ((p - 1) / 2) % p = 1 ↔ (r : Int) ∈ sqs p) ∧ (r ^ ((p - 1) / 2) % p = 1 ∨ r ^ ((p - 1) / 2) % p = p - 1) := by
  unfold euler at h
  have h3 := List.all_eq_true.mp h r (by rw [List.mem_range'_1]; omega)
  rw [Bool.and_eq_true, maskOf_bit] at h3
  obtain ⟨h4, h5⟩ := h3
  refine ⟨?_, by simpa using h5⟩
  rw [sqs_nat]
  have h6 := beq_iff_eq.mp h4
  rw [← h6, beq_iff_eq]
theorem sign_eq {p : Nat} (hp : 3 ≤ p) (h : euler p = true) (n : Int) : restSign n p = lawSign n p := by
  unfold restSign lawSign
  by_cases h0 : n % p = 0
  · rw [if_pos h0, if_pos h0]
  · rw [if_neg h0, if_neg h0, if_neg (by omega : ¬ (p : Int) = 2), if_neg (by omega : ¬ (p : Int) = 2)]
    obtain ⟨r, hr, e⟩ := emod_cast (n := n) (by omega : 0 < p)
    have h1 : 1 ≤ r := by
      rcases Nat.eq_zero_or_pos r with z | z
      · rw [z] at e
        exact absurd e h0
      · exact z
    have h2 := (euler_at h h1 hr).1
    rw [half_cast p (by omega), pow_rest _ e, e]
    by_cases c : r ^ ((p - 1) / 2) % p = 1
    · rw [if_pos (h2.mp c), if_pos (by rw [c]; rfl)]
    · rw [if_neg (fun z => c (h2.mpr z)), if_neg (fun z => c (by omega))]
theorem sign_eq2 (n : Int) : restSign n 2 = lawSign n 2 := by
  unfold restSign lawSign
  rfl
theorem sign_mul {p : Nat} (hp : 3 ≤ p) (h : euler p = true) (hq : PrP p) (a b : Int) : restSign (a * b) p = restSign a p * restSign b p := by
  unfold restSign
  have hn : ¬ (p : Int) = 2 := by omega
  by_cases ha : a % p = 0
  · have hab : a * b % p = 0 := Int.emod_eq_zero_of_dvd (Int.dvd_mul_of_dvd_left (Int.dvd_of_emod_eq_zero ha))
    rw [if_pos ha, if_pos hab, Int.zero_mul]
  · by_cases hb : b % p = 0
    · have hab : a * b % p = 0 := Int.emod_eq_zero_of_dvd (Int.dvd_mul_of_dvd_right (Int.dvd_of_emod_eq_zero hb))
      rw [if_pos hb, if_pos hab, Int.mul_zero]
    · have hab : ¬ a * b % p = 0 := fun z => by
        rcases prime_mul hq (Int.dvd_of_emod_eq_zero z) with y | y
        · exact ha (Int.emod_eq_zero_of_dvd y)
        · exact hb (Int.emod_eq_zero_of_dvd y)
      rw [if_neg ha, if_neg hb, if_neg hab, if_neg hn, if_neg hn, if_neg hn, half_cast p (by omega)]
      obtain ⟨r, hr, er⟩ := emod_cast (n := a) (by omega : 0 < p)
      obtain ⟨t, ht, et⟩ := emod_cast (n := b) (by omega : 0 < p)
      have r1 : 1 ≤ r := by
        rcases Nat.eq_zero_or_pos r with z | z
        · rw [z] at er
          exact absurd er ha
        · exact z
      have t1 : 1 ≤ t := by
        rcases Nat.eq_zero_or_pos t with z | z
        · rw [z] at et
          exact absurd et hb
        · exact z
      have e1 := (euler_at h r1 hr).2
      have e2 := (euler_at h t1 ht).2
      have p1 := pow_rest ((p - 1) / 2) er
      have p2 := pow_rest ((p - 1) / 2) et
      have pm : (a * b) ^ ((p - 1) / 2) % p = ((a ^ ((p - 1) / 2) % p) * (b ^ ((p - 1) / 2) % p)) % p := by rw [Int.mul_pow, Int.mul_emod]
      have c1 : ((p - 1 : Nat) : Int) = (p : Int) - 1 := by omega
      have q1 : ((p : Int) - 1) * ((p : Int) - 1) % p = 1 := by
        have : ((p : Int) - 1) * ((p : Int) - 1) = 1 + p * (p - 2) := by
          have e3 : (p : Int) * (p - 2) = p * p - p * 2 := Int.mul_sub ..
          rw [e3, Int.sub_mul, Int.mul_sub]
          omega
        rw [this, Int.add_mul_emod_self_left]
        exact Int.emod_eq_of_lt (by omega) (by omega)
      have q2 : ((p : Int) - 1) % p = p - 1 := Int.emod_eq_of_lt (by omega) (by omega)
      have n1 : ¬ ((p : Int) - 1) = 1 := by omega
      rw [pm, p1, p2]
      rcases e1 with e1 | e1 <;> rcases e2 with e2 | e2 <;> rw [e1, e2]
      · have : ((1 : Nat) : Int) * ((1 : Nat) : Int) % p = 1 := Int.emod_eq_of_lt (by decide) (by show (1 : Int) < p; omega)
        rw [this]
        rfl
      · rw [c1, show ((1 : Nat) : Int) * ((p : Int) - 1) = p - 1 by omega, q2, if_neg n1]
        rfl
      · rw [c1, show ((p : Int) - 1) * ((1 : Nat) : Int) = p - 1 by omega, q2, if_neg n1]
        rfl
      · rw [c1, q1, if_neg n1]
        rfl
theorem sign_mul2 (a b : Int) : restSign (a * b) 2 = restSign a 2 * restSign b 2 := by
  have key : ∀ r : Fin 8, ∀ t : Fin 8, restSign ((r.val : Int) * (t.val : Int)) 2 = restSign r.val 2 * restSign t.val 2 := by decide +kernel
  have red : ∀ n : Int, restSign n 2 = restSign (n % 8) 2 := fun n => by
    unfold restSign
    have h1 : n % 8 % 2 = n % 2 := by omega
    have h2 : n % 8 % 8 = n % 8 := by omega
    rw [h1, h2]
    rfl
  have k2 : ∀ n : Int, ∃ r : _root_.Fin 8, n % 8 = (r.val : Int) := fun n => ⟨⟨(n % 8).toNat, by omega⟩, by show n % 8 = ((n % 8).toNat : Int); omega⟩
  obtain ⟨r, hr⟩ := k2 a
  obtain ⟨t, ht⟩ := k2 b
  rw [red (a * b), Int.mul_emod, ← red, red a, red b, hr, ht]
  exact key r t
end Sf

namespace Sf
open PySem PySem.Spec PyProof.Rows L2
/-! lists and tuples of ints as data -/
theorem lay_ints : ∀ ns : List Int, PyData.canLayAll0 (ns.map PyData.int) = true ∧ PyData.depthAll (ns.map PyData.int) = 0
  | [] => ⟨rfl, rfl⟩
  | n :: ns => by
    obtain ⟨h1, h2⟩ := lay_ints ns
    refine ⟨?_, ?_⟩
    · show (true && PyData.canLayAll0 (ns.map PyData.int)) = true
      rw [h1]
      rfl
    · show max 0 (PyData.depthAll (ns.map PyData.int)) = 0
      rw [h2]
      rfl
theorem shp_list (ns : List Int) : SeqAt.shaped (.list (ns.map PyData.int)) = true := by
  obtain ⟨h1, h2⟩ := lay_ints ns
  show (PyData.canLayAll0 (ns.map PyData.int) && decide (PyData.depthAll (ns.map PyData.int) + 1 ≤ 64)) = true
  rw [h1, h2]
  rfl
theorem shp_tup (ns : List Int) : SeqAt.shaped (.tuple (ns.map PyData.int)) = true := by
  obtain ⟨h1, h2⟩ := lay_ints ns
  show (PyData.canLayAll0 (ns.map PyData.int) && decide (PyData.depthAll (ns.map PyData.int) + 1 ≤ 64)) = true
  rw [h1, h2]
  rfl
theorem eqv_ints : ∀ a b : List Int, PyData.eqvAll (a.map PyData.int) (b.map PyData.int) = decide (a = b)
  | [], [] => rfl
  | [], _ :: _ => rfl
  | _ :: _, [] => rfl
  | x :: a, y :: b => by
    show ((x == y) && PyData.eqvAll (a.map PyData.int) (b.map PyData.int)) = _
    rw [eqv_ints a b, Bool.eq_iff_iff]
    simp only [Bool.and_eq_true, beq_iff_eq, decide_eq_true_eq, List.cons.injEq]
theorem dpAll_ints (K : PySem.W.Frag) (H : Hp) : ∀ ns : List Int, DpAll K H (ns.map V.int) (ns.map PyData.int)
  | [] => .nil
  | n :: ns => .cons (.int n) (dpAll_ints K H ns)
theorem dp_list {K : PySem.W.Frag} {H : Hp} {a : Addr} {ns : List Int} (h : SqL K H a (ns.map V.int)) : Dp K H (.ref a) (.list (ns.map PyData.int)) := .lst h (dpAll_ints K H ns)
theorem dp_tup {K : PySem.W.Frag} {H : Hp} {a : Addr} {ns : List Int} (h : SqT K H a (ns.map V.int)) : Dp K H (.ref a) (.tuple (ns.map PyData.int)) := .tup h (dpAll_ints K H ns)
end Sf

namespace Sf
open PySem PySem.Spec PyProof.Rows L2
/-- all but the thing at p stays -/
def Keep (p : Addr) (H H' : Hp) : Prop := ∀ b o, H b = some o → b ≠ p → H' b = some o
theorem Keep.refl (p : Addr) (H : Hp) : Keep p H H := fun _ _ h _ => h
theorem Keep.trans {p : Addr} {H H1 H2 : Hp} (a : Keep p H H1) (b : Keep p H1 H2) : Keep p H H2 := fun c o h n => b c o (a c o h n) n
theorem Keep.same {p : Addr} {H H' : Hp} (s : Same H H') : Keep p H H' := fun c o h _ => s c o h
theorem Keep.upd {p : Addr} {H : Hp} {o : HO} : Keep p H (upd H p o) := fun c u h n => by rw [upd_ne n]; exact h
theorem Keep.new {p q : Addr} {H : Hp} {o : HO} (h : H q = none) : Keep p H (L2.upd H q o) := Keep.same (same_upd h)
/-- the sack stands at p, n draws made at most -/
def Sk (p : Addr) (n : Nat) (H : Hp) : Prop := ∃ xs, H p = some (.lst xs) ∧ SackO n xs
theorem SackO.mono {n m : Nat} {xs : List V} (h : SackO n xs) (l : n ≤ m) : SackO m xs := by
  obtain ⟨a, b, c, e, h1, h2, h3, h4, h5, h6⟩ := h
  exact ⟨a, b, c, e, h1, h2, h3, h4, h5, by omega⟩
theorem Sk.mono {p : Addr} {n m : Nat} {H : Hp} (h : Sk p n H) (l : n ≤ m) : Sk p m H := let ⟨xs, a, b⟩ := h; ⟨xs, a, b.mono l⟩
theorem Sk.same {p : Addr} {n : Nat} {H H' : Hp} (h : Sk p n H) (s : Same H H') : Sk p n H' := let ⟨xs, a, b⟩ := h; ⟨xs, s _ _ a, b⟩
theorem Sk.ne {p q : Addr} {n : Nat} {H : Hp} (h : Sk p n H) (hq : H q = none) : p ≠ q := let ⟨_, a, _⟩ := h; ne_of_none a hq
theorem Keep.free {p q : Addr} {n : Nat} {H H' : Hp} (k : Keep p H H') (s : Sk p n H') (h : H' q = none) : H q = none := by
  cases e : H q with
  | none => rfl
  | some o =>
    have n : q ≠ p := fun z => by
      obtain ⟨_, a, _⟩ := s
      rw [z, a] at h
      cases h
    rw [k q o e n] at h
    cases h
/-- a draw: the same promises in the words of Sk -/
theorem take_of {H : Hp} {p : Addr} {n : Nat} {m : Int} {Q : VK} (hs : Sk p n H) (hn : n ≤ 1000000) (h1 : 1 ≤ m) (h2 : m < 10 ^ 80) (q : ∀ (r : Int) (H' : Hp), 0 ≤ r → r < m → Keep p H H' → Sk p (n + 1) H' → (∀ b, H b = none → H' b = none) → Q (.int r) H') : TakeP [.ref p, .int m] H Q := by
  obtain ⟨xs, a, b⟩ := hs
  exact ⟨p, xs, n, m, rfl, a, b, hn, h1, h2, fun r ys r0 r1 hy => q r _ r0 r1 Keep.upd ⟨ys, upd_same, hy⟩ fun c hc => by rw [upd_ne (fun z => by rw [z, a] at hc; cases hc)]; exact hc⟩
theorem one_of_new {K : PySem.W.Frag} {H : Hp} {p b : Addr} {n : Nat} {items : List V} {Q : VK} (hs : Sk p n H) (hn : n ≤ 1000000) (hb : H b = none) (h1 : 1 ≤ items.length) (h2 : items.length ≤ 1000000)
    (q : ∀ (v : V) (H' : Hp), v ∈ items → Keep p H H' → Sk p (n + 1) H' → Q v H') : OneOfP K [.ref p, .ref b] (upd H b (.lst items)) Q := by
  obtain ⟨xs, a, o⟩ := hs
  have npb : p ≠ b := ne_of_none a hb
  refine ⟨p, b, xs, items, n, rfl, by rw [upd_ne npb]; exact a, o, hn, npb.symm, SqL.of upd_same, h1, h2, fun v ys hv hy => q v _ hv ?_ ⟨ys, upd_same, hy⟩⟩
  exact (Keep.new hb).trans Keep.upd
end Sf

namespace Sf
theorem strip_unique {n p : Int} (hp : PrP p) {m m' : Nat} {u u' : Int} (h : Strip n p m u) (h' : Strip n p m' u') : m = m' ∧ u = u' :=
  pow_cancel hp (fun z => h.2 (Int.emod_eq_zero_of_dvd z)) (fun z => h'.2 (Int.emod_eq_zero_of_dvd z)) (h.1.symm.trans h'.1)
theorem strip_ne {n p : Int} {m : Nat} {u : Int} (h : Strip n p m u) : u ≠ 0 := fun z => h.2 (by rw [z]; exact Int.zero_emod _)
theorem strip_le {n p : Int} (hp : 2 ≤ p) {m : Nat} {u : Int} (h : Strip n p m u) : u.natAbs ≤ n.natAbs ∧ (m : Int) < n.natAbs + 1 := by
  have h1 := h.1
  have hu := strip_ne h
  have hpm : 0 < p ^ m := pow_pos_int (by omega) m
  have e : n.natAbs = (p ^ m).natAbs * u.natAbs := by rw [h1]; exact Int.natAbs_mul _ _
  have g1 : 1 ≤ (p ^ m).natAbs := by omega
  have g2 : 1 ≤ u.natAbs := by omega
  have g3 : 1 * u.natAbs ≤ (p ^ m).natAbs * u.natAbs := Nat.mul_le_mul_right _ g1
  have g4 : (p ^ m).natAbs * 1 ≤ (p ^ m).natAbs * u.natAbs := Nat.mul_le_mul_left _ g2
  have g5 := nat_lt_pow hp m
  omega
/-- the sign at a prime by what is stripped -/
def sgnAt (p : Int) (s t : Nat) (u v : Int) : Int :=
  if p = 2 then (if ((u - 1) / 2 * ((v - 1) / 2) + s * ((v * v - 1) / 8) + t * ((u * u - 1) / 8)) % 2 = 1 then -1 else 1)
  else (if s * t % 2 = 1 then restSign (-1) p else 1) * (if t % 2 = 1 then restSign u p else 1) * (if s % 2 = 1 then restSign v p else 1)
def HSign (a b p r : Int) : Prop := (p = 0 ∧ r = if a < 0 ∧ b < 0 then -1 else 1) ∨ (p ≠ 0 ∧ ∃ (s t : Nat) (u v : Int), Strip a p s u ∧ Strip b p t v ∧ r = sgnAt p s t u v)
theorem hsign_unique {a b p r r' : Int} (hp : p = 0 ∨ PrP p) (h : HSign a b p r) (h' : HSign a b p r') : r = r' := by
  rcases h with ⟨h0, h1⟩ | ⟨h0, s, t, u, v, h1, h2, h3⟩
  · rcases h' with ⟨_, g1⟩ | ⟨g0, _⟩
    · rw [h1, g1]
    · exact absurd h0 g0
  · rcases h' with ⟨g0, _⟩ | ⟨_, s', t', u', v', g1, g2, g3⟩
    · exact absurd g0 h0
    · have hp := hp.resolve_left h0
      obtain ⟨e1, e2⟩ := strip_unique hp h1 g1
      obtain ⟨e3, e4⟩ := strip_unique hp h2 g2
      rw [h3, g3, e1, e2, e3, e4]
theorem sgnAt_comm (p : Int) (s t : Nat) (u v : Int) : sgnAt p s t u v = sgnAt p t s v u := by
  unfold sgnAt
  by_cases h : p = 2
  · rw [if_pos h, if_pos h]
    have e : (u - 1) / 2 * ((v - 1) / 2) + s * ((v * v - 1) / 8) + t * ((u * u - 1) / 8) = (v - 1) / 2 * ((u - 1) / 2) + t * ((u * u - 1) / 8) + s * ((v * v - 1) / 8) := by
      rw [Int.mul_comm ((u - 1) / 2)]
      omega
    rw [e]
  · rw [if_neg h, if_neg h, Nat.mul_comm s t, Int.mul_assoc, Int.mul_assoc]
    congr 1
    exact Int.mul_comm _ _
theorem hsign_comm {a b p r : Int} (h : HSign a b p r) : HSign b a p r := by
  rcases h with ⟨h0, h1⟩ | ⟨h0, s, t, u, v, h1, h2, h3⟩
  · refine .inl ⟨h0, ?_⟩
    rw [h1]
    by_cases c : a < 0 ∧ b < 0
    · rw [if_pos c, if_pos c.symm]
    · rw [if_neg c, if_neg (fun z => c z.symm)]
  · exact .inr ⟨h0, t, s, v, u, h2, h1, by rw [h3]; exact sgnAt_comm ..⟩
theorem rest_small (n p : Int) : -1 ≤ restSign n p ∧ restSign n p ≤ 1 := by
  unfold restSign
  split
  · decide
  · split
    · split <;> decide
    · split <;> decide
end Sf

namespace Sf
open PySem PySem.Spec PyProof.Rows L2
section
variable {P : Program} {w : World} {K : PySem.W.Frag} {mg : Str → Option Value} {base : Heap} {f : Addr} {fd : FuncData}
def spCheckPlace : Sp := fun vs H Q _ => ∃ p : Int, vs = [.int p] ∧ (p = 0 ∨ (PrP p ∧ p ≤ 1000000000)) ∧ Q .non H
theorem ok_check_place (F : FnD K "check_place" "check_place" s_P_check_place f fd) (C_P_is_prime : Cal P w K mg base 2 "is_prime" ["value"] (spIsPrime K)) (C_P_is_integer : Cal P w K mg base 1 "is_integer" ["value"] (spIsInt K)) : FnOk P w K mg base CX0 3 f fd ["value"] spCheckPlace := by
  refine F.ok sc_P_check_place (fun vs H Q E h => ?_) (fun cdv A outer s H vs Q E hr h => ?_)
  · obtain ⟨n, rfl, _⟩ := h; rfl
  · obtain ⟨n, rfl, h0, q⟩ := h
    refine ⟨_, PSs.nox (pss_one (ps_if (PW.pt (pw_and (pt_not (pt_val (pe_cal C_P_is_prime (hr.mono (by decide)) (pa_cons (pv 0) pa_nil)))) (pw_and1 (pt_not (PW.pt (pw_and (pt_val (pe_cal C_P_is_integer (hr.mono (by decide)) (pa_cons (pv 0) pa_nil))) (pw_and1 (pt_cmp (pc_eqI (pv 0) pe_int))))))))) (pss_one ps_never) pss_nil)), ?_⟩
    refine ⟨_, rfl, .int n, true, rfl, .int n, fun _ => ⟨n, rfl⟩, fun r hr => ⟨_, rfl, ?_⟩⟩
    cases r with
    | true => exact q
    | false =>
      have e0 : n = 0 := by
        rcases h0 with h0 | h0
        · exact h0
        · exact absurd (hr.mpr ⟨n, rfl, h0.1, h0.2⟩) Bool.false_ne_true
      subst e0
      refine ⟨_, rfl, .int 0, true, rfl, .int 0, _, rfl, ?_⟩
      exact ⟨_, rfl, _, _, rfl, rfl, _, rfl, q⟩
def spQuarter : Sp := fun vs H Q _ => ∃ u : Int, vs = [.int u] ∧ Q (.int ((u - 1) / 2)) H
theorem ok_quarter (F : FnD K "quarter" "quarter" s_P_quarter f fd) : FnOk P w K mg base CX0 1 f fd ["unit"] spQuarter := by
  refine F.ok sc_P_quarter (fun vs H Q E h => ?_) (fun cdv A outer s H vs Q E hr h => ?_)
  · obtain ⟨n, rfl, _⟩ := h; rfl
  · obtain ⟨n, rfl, q⟩ := h
    refine ⟨_, PSs.nox (pss_one (ps_ret (pe_op op_fdivW (pe_op op_sub (pv 0) pe_int) pe_int))), ?_⟩
    exact ⟨_, rfl, _, _, rfl, rfl, _, _, rfl, rfl, CDivW.of (by decide) (by decide +kernel), q⟩
def spEighth : Sp := fun vs H Q _ => ∃ u : Int, vs = [.int u] ∧ u.natAbs < 2 ^ 3000 ∧ Q (.int ((u * u - 1) / 8)) H
theorem ok_eighth (F : FnD K "eighth" "eighth" s_P_eighth f fd) : FnOk P w K mg base CX0 1 f fd ["unit"] spEighth := by
  refine F.ok sc_P_eighth (fun vs H Q E h => ?_) (fun cdv A outer s H vs Q E hr h => ?_)
  · obtain ⟨n, rfl, _⟩ := h; rfl
  · obtain ⟨n, rfl, hb, q⟩ := h
    refine ⟨_, PSs.nox (pss_one (ps_ret (pe_op op_fdivW (pe_op op_sub (pe_op op_mulW (pv 0) (pv 0)) pe_int) pe_int))), ?_⟩
    exact ⟨_, rfl, _, rfl, _, _, rfl, rfl, CMulW.of hb hb, _, _, rfl, rfl, _, _, rfl, rfl, CDivW.of (by decide) (by decide +kernel), q⟩
structure SgnP (two : Bool) (vs : List V) (H : Hp) (Q : VK) : Prop where
  ex : ∃ a b p : Int, vs = (if two then [.int a, .int b] else [.int a, .int b, .int p]) ∧ (two = true → p = 2) ∧ (two = false → p ≠ 2) ∧ a ≠ 0 ∧ b ≠ 0 ∧ a.natAbs ≤ 1000000000 ∧ b.natAbs ≤ 1000000000 ∧ 2 ≤ p ∧ p ≤ 1000000000 ∧
    ∀ (s t : Nat) (u v : Int) (H' : Hp), Strip a p s u → Strip b p t v → Same H H' → Q (.int (sgnAt p s t u v)) H'
def spSgn (two : Bool) : Sp := fun vs H Q _ => SgnP two vs H Q
theorem small_mul {a b A B : Int} (ha : a.natAbs ≤ A.natAbs) (hb : b.natAbs ≤ B.natAbs) : (a * b).natAbs ≤ (A * B).natAbs := by
  rw [Int.natAbs_mul, Int.natAbs_mul]
  exact Nat.mul_le_mul ha hb
theorem ok_sign_at_two (F : FnD K "sign_at_two" "sign_at_two" s_P_sign_at_two f fd) (C_P_stripped : Cal P w K mg base 1 "stripped" ["number", "prime"] spStripped) (C_P_quarter : Cal P w K mg base 1 "quarter" ["unit"] spQuarter) (C_P_eighth : Cal P w K mg base 1 "eighth" ["unit"] spEighth) :
    FnOk P w K mg base CX0 2 f fd ["a", "b"] (spSgn true) := by
  refine F.ok sc_P_sign_at_two (fun vs H Q E h => ?_) (fun cdv A outer s H vs Q E hr h => ?_)
  · obtain ⟨a, b, p, rfl, _⟩ := h.ex; rfl
  · obtain ⟨a, b, p, rfl, h2, _, a0, b0, a1, b1, _, _, q⟩ := h.ex
    obtain rfl : p = 2 := h2 rfl
    refine ⟨_, PSs.nox (pss_cons (ps_asg (pe_cal C_P_stripped (hr.mono (by decide)) (pa_cons (pv 0) (pa_cons pe_int pa_nil))) (pg_tup (by rfl) (pgs_cons (pg_name (i := 2) sc_P_sign_at_two.nd rfl (Or.inl rfl)) (pgs_cons (pg_name (i := 3) sc_P_sign_at_two.nd rfl (Or.inl rfl)) pgs_nil))))
      (pss_cons (ps_asg (pe_cal C_P_stripped (hr.mono (by decide)) (pa_cons (pv 1) (pa_cons pe_int pa_nil))) (pg_tup (by rfl) (pgs_cons (pg_name (i := 4) sc_P_sign_at_two.nd rfl (Or.inl rfl)) (pgs_cons (pg_name (i := 5) sc_P_sign_at_two.nd rfl (Or.inl rfl)) pgs_nil))))
      (pss_cons (ps_set (i := 6) sc_P_sign_at_two.nd rfl (Or.inl rfl) (pe_op op_add (pe_op op_add (pe_op op_mulW (pe_cal C_P_quarter (hr.mono (by decide)) (pa_cons (pv 3) pa_nil)) (pe_cal C_P_quarter (hr.mono (by decide)) (pa_cons (pv 5) pa_nil))) (pe_op op_mulW (pv 2) (pe_cal C_P_eighth (hr.mono (by decide)) (pa_cons (pv 5) pa_nil)))) (pe_op op_mulW (pv 4) (pe_cal C_P_eighth (hr.mono (by decide)) (pa_cons (pv 3) pa_nil)))))
      (pss_one (ps_ret (pe_ifExp (pt_cmp (pc_eqI (pe_op op_mod (pv 6) pe_int) pe_int)) (pe_un un_neg pe_int) pe_int)))))), ?_⟩
    have tb : (2 : Int).natAbs < 2 ^ 3000 := by decide +kernel
    refine ⟨_, rfl, a, 2, rfl, a0, by decide, tb, fun s u x1 st1 hx1 => ⟨x1, _, rfl, .inl (.inl upd_same), rfl, _, _, rfl, _, _, rfl, rfl, ?_⟩⟩
    refine ⟨_, rfl, b, 2, rfl, b0, by decide, tb, fun t v x2 st2 hx2 => ⟨x2, _, rfl, .inl (.inl upd_same), rfl, _, _, rfl, _, _, rfl, rfl, ?_⟩⟩
    have l1 := strip_le (by decide) st1
    have l2 := strip_le (by decide) st2
    have ub : u.natAbs < 2 ^ 3000 := lt3000s (by omega) (by omega)
    have vb : v.natAbs < 2 ^ 3000 := lt3000s (by omega) (by omega)
    have uu : (u * u).natAbs ≤ 1000000000000000000 := by
      have := small_mul (a := u) (b := u) (A := 1000000000) (B := 1000000000) (by omega) (by omega)
      exact this
    have vv : (v * v).natAbs ≤ 1000000000000000000 := by
      have := small_mul (a := v) (b := v) (A := 1000000000) (B := 1000000000) (by omega) (by omega)
      exact this
    refine ⟨_, rfl, u, rfl, _, rfl, v, rfl, _, _, rfl, rfl, CMulW.of (lt3000s (by omega) (by omega)) (lt3000s (by omega) (by omega)), _, rfl, _, rfl, v, rfl, vb, _, _, rfl, rfl, CMulW.of (lt3000s (by omega) (by omega)) (lt3000s (by omega) (by omega)), _, _, rfl, rfl, _, rfl, _, rfl, u, rfl, ub, _, _, rfl, rfl, CMulW.of (lt3000s (by omega) (by omega)) (lt3000s (by omega) (by omega)), _, _, rfl, rfl, ?_⟩
    have z := q s t u v (upd (upd H x1 (.tup [.int s, .int u])) x2 (.tup [.int t, .int v])) st1 st2 ((same_upd hx1).trans (same_upd hx2))
    unfold sgnAt at z
    rw [if_pos rfl] at z
    refine ⟨_, rfl, _, _, rfl, rfl, (by show (0 : Int) < 2; decide), _, _, rfl, rfl, _, rfl, ifd (fun h => ?_) (fun h => ?_)⟩
    · rw [if_pos h] at z
      exact ⟨_, rfl, z⟩
    · rw [if_neg h] at z
      exact z
theorem mul1 (a : Int) : 1 * a = a := Int.one_mul a
theorem ok_sign_at_odd (F : FnD K "sign_at_odd" "sign_at_odd" s_P_sign_at_odd f fd) (C_P_stripped : Cal P w K mg base 1 "stripped" ["number", "prime"] spStripped) (C_P_rest_sign : Cal P w K mg base 2 "rest_sign" ["number", "prime"] spRestSign) :
    FnOk P w K mg base CX0 3 f fd ["a", "b", "prime"] (spSgn false) := by
  refine F.ok sc_P_sign_at_odd (fun vs H Q E h => ?_) (fun cdv A outer s H vs Q E hr h => ?_)
  · obtain ⟨a, b, p, rfl, _⟩ := h.ex; rfl
  · obtain ⟨a, b, p, rfl, _, hp2, a0, b0, a1, b1, p2, p9, q⟩ := h.ex
    have pn : p ≠ 2 := hp2 rfl
    refine ⟨_, PSs.nox (pss_cons (ps_asg (pe_cal C_P_stripped (hr.mono (by decide)) (pa_cons (pv 0) (pa_cons (pv 2) pa_nil))) (pg_tup (by rfl) (pgs_cons (pg_name (i := 3) sc_P_sign_at_odd.nd rfl (Or.inl rfl)) (pgs_cons (pg_name (i := 4) sc_P_sign_at_odd.nd rfl (Or.inl rfl)) pgs_nil))))
      (pss_cons (ps_asg (pe_cal C_P_stripped (hr.mono (by decide)) (pa_cons (pv 1) (pa_cons (pv 2) pa_nil))) (pg_tup (by rfl) (pgs_cons (pg_name (i := 5) sc_P_sign_at_odd.nd rfl (Or.inl rfl)) (pgs_cons (pg_name (i := 6) sc_P_sign_at_odd.nd rfl (Or.inl rfl)) pgs_nil))))
      (pss_cons (ps_set (i := 7) sc_P_sign_at_odd.nd rfl (Or.inl rfl) pe_int)
      (Evl.pss_cut (ps_if (pt_cmp (pc_eqI (pe_op op_mod (pe_op op_mulW (pv 3) (pv 5)) pe_int) pe_int)) (pss_one (ps_set (i := 7) sc_P_sign_at_odd.nd rfl (Or.inl rfl) (pe_op op_mulW (pv 7) (pe_cal C_P_rest_sign (hr.mono (by decide)) (pa_cons (pe_un un_neg pe_int) (pa_cons (pv 2) pa_nil)))))) pss_nil)
      (Evl.pss_cut (ps_if (pt_cmp (pc_eqI (pe_op op_mod (pv 5) pe_int) pe_int)) (pss_one (ps_set (i := 7) sc_P_sign_at_odd.nd rfl (Or.inl rfl) (pe_op op_mulW (pv 7) (pe_cal C_P_rest_sign (hr.mono (by decide)) (pa_cons (pv 4) (pa_cons (pv 2) pa_nil)))))) pss_nil)
      (pss_cons (ps_if (pt_cmp (pc_eqI (pe_op op_mod (pv 3) pe_int) pe_int)) (pss_one (ps_set (i := 7) sc_P_sign_at_odd.nd rfl (Or.inl rfl) (pe_op op_mulW (pv 7) (pe_cal C_P_rest_sign (hr.mono (by decide)) (pa_cons (pv 6) (pa_cons (pv 2) pa_nil)))))) pss_nil)
      (pss_one (ps_ret (pv 7))))))))), ?_⟩
    have tb : p.natAbs < 2 ^ 3000 := lt3000s (by omega) (by omega)
    have tb1 : p.natAbs < 2 ^ 1000 := Nat.lt_trans (by omega : p.natAbs < 2000000000) (by decide +kernel)
    refine ⟨_, rfl, _, rfl, a, p, rfl, a0, p2, tb, fun s u x1 st1 hx1 => ⟨x1, _, rfl, .inl (.inl upd_same), rfl, _, _, rfl, _, _, rfl, rfl, ?_⟩⟩
    refine ⟨_, rfl, _, rfl, b, p, rfl, b0, p2, tb, fun t v x2 st2 hx2 => ⟨x2, _, rfl, .inl (.inl upd_same), rfl, _, _, rfl, _, _, rfl, rfl, ?_⟩⟩
    have l1 := strip_le p2 st1
    have l2 := strip_le p2 st2
    have k0 : Same H (upd (upd H x1 (.tup [.int s, .int u])) x2 (.tup [.int t, .int v])) := (same_upd hx1).trans (same_upd hx2)
    have est : ((s : Int) * (t : Int)) = ((s * t : Nat) : Int) := (Int.natCast_mul s t).symm
    have hst : ((s : Int) * (t : Int)) % 2 = 1 ↔ s * t % 2 = 1 := by rw [est]; omega
    have r1 := rest_small (-1) p
    have r2 := rest_small u p
    have r3 := rest_small v p
    have z := fun H' k => q s t u v H' st1 st2 k
    unfold sgnAt at z
    rw [if_neg pn] at z
    refine ⟨fun σ' H' => σ' = [some (.int a), some (.int b), some (.int p), some (.int s), some (.int u), some (.int t), some (.int v), some (.int (if s * t % 2 = 1 then restSign (-1) p else 1))] ∧ Same H H', ?_, ?_⟩
    · refine ⟨_, rfl, _, rfl, _, _, rfl, rfl, CMulW.of (lt3000s (by omega) (by omega)) (lt3000s (by omega) (by omega)), _, _, rfl, rfl, (by show (0 : Int) < 2; decide), _, _, rfl, rfl, _, rfl, ifd (fun h => ?_) (fun h => ?_)⟩
      · have h' := hst.mp h
        rw [if_pos h']
        exact ⟨_, rfl, 1, rfl, _, rfl, -1, p, rfl, p2, tb1, fun H' k => ⟨_, _, rfl, rfl, CMulW.of (lt3000s (by decide) (by decide)) (lt3000s (by omega) (by omega)), (by show [some (V.int a), some (.int b), some (.int p), some (.int s), some (.int u), some (.int t), some (.int v), some (.int (1 * restSign (-1) p))] = _; rw [mul1]), k0.trans k⟩⟩
      · have h' := fun z => h (hst.mpr z)
        rw [if_neg h']
        exact ⟨rfl, k0⟩
    rintro σ' H1 ⟨rfl, k1⟩
    have b1 : -1 ≤ (if s * t % 2 = 1 then restSign (-1) p else 1) ∧ (if s * t % 2 = 1 then restSign (-1) p else 1) ≤ 1 := by split <;> omega
    have b2 : -1 ≤ (if t % 2 = 1 then restSign u p else 1) ∧ (if t % 2 = 1 then restSign u p else 1) ≤ 1 := by split <;> omega
    generalize (if s * t % 2 = 1 then restSign (-1) p else 1) = x at z b1
    refine ⟨fun σ' H' => σ' = [some (.int a), some (.int b), some (.int p), some (.int s), some (.int u), some (.int t), some (.int v), some (.int (x * (if t % 2 = 1 then restSign u p else 1)))] ∧ Same H H', ?_, ?_⟩
    · refine ⟨_, rfl, _, _, rfl, rfl, (by show (0 : Int) < 2; decide), _, _, rfl, rfl, _, rfl, ifd (fun h => ?_) (fun h => ?_)⟩
      · have h' : t % 2 = 1 := by omega
        rw [if_pos h']
        exact ⟨_, rfl, _, rfl, _, rfl, u, p, rfl, p2, tb1, fun H' k => ⟨_, _, rfl, rfl, CMulW.of (lt3000s (by omega) (by omega)) (lt3000s (by omega) (by omega)), rfl, k1.trans k⟩⟩
      · have h' : ¬ t % 2 = 1 := by omega
        rw [if_neg h', Int.mul_one]
        exact ⟨rfl, k1⟩
    rintro σ' H2 ⟨rfl, k2⟩
    generalize (if t % 2 = 1 then restSign u p else 1) = y at z b2
    have b3 : (x * y).natAbs ≤ 1 := small_mul (A := 1) (B := 1) (by omega) (by omega)
    refine ⟨_, rfl, _, _, rfl, rfl, (by show (0 : Int) < 2; decide), _, _, rfl, rfl, _, rfl, ifd (fun h => ?_) (fun h => ?_)⟩
    · have h' : s % 2 = 1 := by omega
      rw [if_pos h'] at z
      exact ⟨_, rfl, _, rfl, _, rfl, v, p, rfl, p2, tb1, fun H' k => ⟨_, _, rfl, rfl, CMulW.of (lt3000s (by omega) (by omega)) (lt3000s (by omega) (by omega)), _, rfl, z _ (k2.trans k)⟩⟩
    · have h' : ¬ s % 2 = 1 := by omega
      rw [if_neg h', Int.mul_one] at z
      exact ⟨_, rfl, z _ k2⟩
structure SignP (vs : List V) (H : Hp) (Q : VK) : Prop where
  ex : ∃ a b p : Int, vs = [.int a, .int b, .int p] ∧ a ≠ 0 ∧ b ≠ 0 ∧ a.natAbs ≤ 1000000000 ∧ b.natAbs ≤ 1000000000 ∧ (p = 0 ∨ PrP p ∧ p ≤ 1000000000) ∧ ∀ (r : Int) (H' : Hp), HSign a b p r → Same H H' → Q (.int r) H'
def spSign : Sp := fun vs H Q _ => SignP vs H Q
theorem ok_sign (F : FnD K "sign" "sign" s_P_sign f fd) (C_P_sign_at_two : Cal P w K mg base 2 "sign_at_two" ["a", "b"] (spSgn true)) (C_P_sign_at_odd : Cal P w K mg base 3 "sign_at_odd" ["a", "b", "prime"] (spSgn false)) :
    FnOk P w K mg base CX0 4 f fd ["a", "b", "place"] spSign := by
  refine F.ok sc_P_sign (fun vs H Q E h => ?_) (fun cdv A outer s H vs Q E hr h => ?_)
  · obtain ⟨a, b, p, rfl, _⟩ := h.ex; rfl
  · obtain ⟨a, b, p, rfl, a0, b0, a1, b1, hp, q⟩ := h.ex
    refine ⟨_, PSs.nox (pss_cons (ps_if (pt_cmp (pc_eqI (pv 2) pe_int)) (pss_one (ps_ret (pe_ifExp (PW.pt (pw_and (pt_cmp (pc_lt (pv 0) pe_int)) (pw_and1 (pt_cmp (pc_lt (pv 1) pe_int))))) (pe_un un_neg pe_int) pe_int))) pss_nil)
      (pss_cons (ps_if (pt_cmp (pc_eqI (pv 2) pe_int)) (pss_one (ps_ret (pe_cal C_P_sign_at_two (hr.mono (by decide)) (pa_cons (pv 0) (pa_cons (pv 1) pa_nil))))) pss_nil)
      (pss_one (ps_ret (pe_cal C_P_sign_at_odd (hr.mono (by decide)) (pa_cons (pv 0) (pa_cons (pv 1) (pa_cons (pv 2) pa_nil)))))))), ?_⟩
    refine ⟨_, rfl, _, _, rfl, rfl, _, rfl, ifd (fun h => ?_) (fun h => ?_)⟩
    · have z := fun r e => q r H (.inl ⟨h, e⟩) (Same.refl H)
      refine ⟨_, rfl, _, _, rfl, rfl, _, rfl, ifd (fun h1 => ⟨_, rfl, _, _, rfl, rfl, _, rfl, ifd (fun h2 => ?_) (fun h2 => ?_)⟩) (fun h1 => ?_)⟩
      · exact ⟨_, rfl, z _ (by rw [if_pos ⟨h1, h2⟩])⟩
      · exact z _ (by rw [if_neg (fun c => h2 c.2)])
      · exact z _ (by rw [if_neg (fun c => h1 c.1)])
    · have hp := hp.resolve_left h
      have p2 := hp.1.1
      refine ⟨_, rfl, _, _, rfl, rfl, _, rfl, ifd (fun h2 => ?_) (fun h2 => ?_)⟩
      · have h2 : p = 2 := h2
        subst h2
        exact ⟨_, rfl, _, rfl, ⟨a, b, 2, rfl, fun _ => rfl, fun z => Bool.noConfusion z, a0, b0, a1, b1, by decide, by decide, fun s t u v H' h3 h4 k => q _ H' (.inr ⟨h, s, t, u, v, h3, h4, rfl⟩) k⟩⟩
      · exact ⟨_, rfl, _, rfl, _, rfl, ⟨a, b, p, rfl, fun z => Bool.noConfusion z, fun _ => h2, a0, b0, a1, b1, p2, hp.2, fun s t u v H' h3 h4 k => q _ H' (.inr ⟨h, s, t, u, v, h3, h4, rfl⟩) k⟩⟩
theorem ok_sign_at (F : FnD K "sign_at" "sign_at" s_P_sign_at f fd) (C_P_check_number : Cal P w K mg base 2 "check_number" ["value"] spCheckNumber) (C_P_check_place : Cal P w K mg base 3 "check_place" ["value"] spCheckPlace) (C_P_sign : Cal P w K mg base 4 "sign" ["a", "b", "place"] spSign) :
    FnOk P w K mg base CX0 5 f fd ["a", "b", "place"] spSign := by
  refine F.ok sc_P_sign_at (fun vs H Q E h => ?_) (fun cdv A outer s H vs Q E hr h => ?_)
  · obtain ⟨a, b, p, rfl, _⟩ := h.ex; rfl
  · obtain ⟨a, b, p, rfl, a0, b0, a1, b1, hp, q⟩ := h.ex
    refine ⟨_, PSs.nox (pss_cons (ps_expr (pe_cal C_P_check_number (hr.mono (by decide)) (pa_cons (pv 0) pa_nil)))
      (pss_cons (ps_expr (pe_cal C_P_check_number (hr.mono (by decide)) (pa_cons (pv 1) pa_nil)))
      (pss_cons (ps_expr (pe_cal C_P_check_place (hr.mono (by decide)) (pa_cons (pv 2) pa_nil)))
      (pss_one (ps_ret (pe_cal C_P_sign (hr.mono (by decide)) (pa_cons (pv 0) (pa_cons (pv 1) (pa_cons (pv 2) pa_nil))))))))), ?_⟩
    exact ⟨_, rfl, a, rfl, a0, by omega, by omega, _, rfl, b, rfl, b0, by omega, by omega, _, rfl, p, rfl, hp, _, rfl, _, rfl, _, rfl, ⟨a, b, p, rfl, a0, b0, a1, b1, hp, q⟩⟩
end
end Sf

namespace Sf
open PySem PySem.Spec PyProof.Rows L2
section
variable {P : Program} {w : World} {K : PySem.W.Frag} {mg : Str → Option Value} {base : Heap} {f : Addr} {fd : FuncData}
structure PartedP (vs : List V) (H : Hp) (Q : VK) : Prop where
  ex : ∃ n p : Int, vs = [.int n, .int p] ∧ n ≠ 0 ∧ n.natAbs ≤ 1000000000 ∧ 2 ≤ p ∧ p ≤ 1000000000 ∧ ∀ (m : Nat) (u : Int) (a : Addr), Strip n p m u → H a = none → Q (.ref a) (upd H a (.tup [.int m, .int u]))
def spParted : Sp := fun vs H Q _ => PartedP vs H Q
theorem pow_big {n p : Int} {m : Nat} {u : Int} (hp : 2 ≤ p) (hu : u ≠ 0) (e : n = p ^ m * u) : m ≤ n.natAbs := by
  have h1 := nat_lt_pow hp m
  have hpm : 0 < p ^ m := pow_pos_int (by omega) m
  have e2 : n.natAbs = (p ^ m).natAbs * u.natAbs := by rw [e]; exact Int.natAbs_mul _ _
  have g4 : (p ^ m).natAbs * 1 ≤ (p ^ m).natAbs * u.natAbs := Nat.mul_le_mul_left _ (by omega)
  omega
theorem two_pow_le {n p : Int} {m : Nat} {u : Int} (hp : 2 ≤ p) (hu : u ≠ 0) (e : n = p ^ m * u) : 2 ^ m ≤ n.natAbs := by
  have hm : 2 ^ m ≤ p.natAbs ^ m := Nat.pow_le_pow_left (by omega) m
  have e3 : (p ^ m).natAbs = p.natAbs ^ m := Int.natAbs_pow p m
  have e2 : n.natAbs = (p ^ m).natAbs * u.natAbs := by rw [e]; exact Int.natAbs_mul _ _
  have g4 : (p ^ m).natAbs * 1 ≤ (p ^ m).natAbs * u.natAbs := Nat.mul_le_mul_left _ (by omega)
  have h0 : 0 < 2 ^ m := Nat.pow_pos (by decide)
  omega
theorem ok_parted (F : FnD K "_law_parted" "_law_parted" s_L_parted f fd) (T : Glob mg) : FnOk P w K mg base CX0 1 f fd ["_law_number_here", "_law_prime"] spParted := by
  refine F.ok sc_L_parted (fun vs H Q E h => ?_) (fun cdv A outer s H vs Q E hr h => ?_)
  · obtain ⟨n, p, rfl, _⟩ := h.ex; rfl
  · obtain ⟨n, p, rfl, n0, n1, p0, p1, q⟩ := h.ex
    have tb : p.natAbs < 2 ^ 3000 := lt3000s (by omega) (by omega)
    refine ⟨_, PSs.nox (pss_cons (ps_par (i := 2) (j := 3) (by rfl) sc_L_parted.nd rfl rfl (by decide) rfl rfl (pa_cons pe_int (pa_cons (pe_callTy call_int1 (by rfl) T.m_int (by decide +kernel) (pa_cons (pv 0) pa_nil)) pa_nil)) (by rfl))
      (pss_cons (ps_for PassesOwn.never rfl (pi_range1 (by rfl) T.m_range (pa_cons pe_int pa_nil)) (pg_name (i := 4) sc_L_parted.nd rfl (Or.inl rfl)) (pss_cons (ps_if (pt_cmp (pc_neI (pe_op op_mod (pv 3) (pv 1)) pe_int)) (pss_one ps_break) pss_nil)
      (pss_one (ps_par (i := 2) (j := 3) (by rfl) sc_L_parted.nd rfl rfl (by decide) rfl rfl (pa_cons (pe_op op_add (pv 2) pe_int) (pa_cons (pe_op op_fdivW (pv 3) (pv 1)) pa_nil)) (by rfl)))))
      (pss_one (ps_ret (pe_tup (pa_cons (pv 2) (pa_cons (pv 3) pa_nil))))))), ?_⟩
    refine ⟨_, rfl, .inl ⟨_, rfl, ?_⟩⟩
    refine ⟨_, _, rfl, 200, rfl, by decide, by decide, for_range (lo := 0) (n := 200) (fun i σ H' => H' = H ∧ ∃ (u : Int) (v : Option V), σ = [some (.int n), some (.int p), some (.int (i : Nat)), some (.int u), v] ∧ n = p ^ i * u ∧ u ≠ 0) ⟨rfl, n, none, rfl, by simp, n0⟩ ?_ ?_⟩
    · rintro i σ _ hi ⟨rfl, u, v, rfl, e, u0⟩
      refine ⟨_, rfl, _, rfl, _, _, rfl, rfl, (by omega), _, _, rfl, rfl, _, rfl, ifn (fun h => ?_) (fun h => ?_)⟩
      · refine ⟨_, rfl, _, rfl, (by show 2 ≤ sizeLine; decide), fun a ha => ?_⟩
        exact q i u a ⟨e, h⟩ ha
      · have hl := strip_less u0 p0 h
        refine ⟨_, rfl, _, _, rfl, rfl, _, rfl, _, rfl, _, _, rfl, rfl, CDivW.of (by omega) tb, ?_⟩
        refine ⟨_, _, rfl, rfl, u / p, _, rfl, ?_, hl.2.1⟩
        rw [e, Int.pow_succ, Int.mul_assoc, ← hl.2.2]
    · rintro σ _ ⟨rfl, u, v, rfl, e, u0⟩
      exfalso
      have h1 := two_pow_le p0 u0 e
      have h2 : 1000000000 < 2 ^ 200 := by decide +kernel
      omega
structure OwnP (vs : List V) (H : Hp) (Q : VK) : Prop where
  ex : ∃ a b p : Int, vs = [.int a, .int b, .int p] ∧ a ≠ 0 ∧ b ≠ 0 ∧ a.natAbs ≤ 1000000000 ∧ b.natAbs ≤ 1000000000 ∧ (p = 0 ∨ p = 2 ∨ ∃ q : Nat, p = q ∧ 3 ≤ q ∧ q ≤ 1000 ∧ euler q = true) ∧ ∀ (r : Int) (H' : Hp), HSign a b p r → Same H H' → Q (.int r) H'
def spOwn : Sp := fun vs H Q _ => OwnP vs H Q
theorem ok_own_sign (F : FnD K "_law_own_sign" "_law_own_sign" s_L_own_sign f fd) (C_L_parted : Cal P w K mg base 1 "_law_parted" ["_law_number_here", "_law_prime"] spParted) (C_L_sign : Cal P w K mg base 1 "_law_sign" ["_law_number_here", "_law_prime"] spLSign) : FnOk P w K mg base CX0 2 f fd ["_law_a", "_law_b", "_law_place"] spOwn := by
  refine F.ok sc_L_own_sign (fun vs H Q E h => ?_) (fun cdv A outer s H vs Q E hr h => ?_)
  · obtain ⟨a, b, p, rfl, _⟩ := h.ex; rfl
  · obtain ⟨a, b, p, rfl, a0, b0, a1, b1, hp, q⟩ := h.ex
    refine ⟨_, PSs.nox (pss_cons (ps_if (pt_cmp (pc_eqI (pv 2) pe_int)) (pss_one (ps_ret (pe_ifExp (PW.pt (pw_and (pt_cmp (pc_lt (pv 0) pe_int)) (pw_and1 (pt_cmp (pc_lt (pv 1) pe_int))))) (pe_un un_neg pe_int) pe_int))) pss_nil)
      (pss_cons (ps_asg (pe_cal C_L_parted (hr.mono (by decide)) (pa_cons (pv 0) (pa_cons (pv 2) pa_nil))) (pg_tup (by rfl) (pgs_cons (pg_name (i := 3) sc_L_own_sign.nd rfl (Or.inl rfl)) (pgs_cons (pg_name (i := 4) sc_L_own_sign.nd rfl (Or.inl rfl)) pgs_nil))))
      (pss_cons (ps_asg (pe_cal C_L_parted (hr.mono (by decide)) (pa_cons (pv 1) (pa_cons (pv 2) pa_nil))) (pg_tup (by rfl) (pgs_cons (pg_name (i := 5) sc_L_own_sign.nd rfl (Or.inl rfl)) (pgs_cons (pg_name (i := 6) sc_L_own_sign.nd rfl (Or.inl rfl)) pgs_nil))))
      (pss_cons (ps_if (pt_cmp (pc_eqI (pv 2) pe_int)) (pss_cons (ps_set (i := 7) sc_L_own_sign.nd rfl (Or.inl rfl) (pe_op op_add (pe_op op_add (pe_op op_mulW (pe_op op_fdivW (pe_op op_sub (pv 4) pe_int) pe_int) (pe_op op_fdivW (pe_op op_sub (pv 6) pe_int) pe_int)) (pe_op op_mulW (pv 3) (pe_op op_fdivW (pe_op op_sub (pe_op op_mulW (pv 6) (pv 6)) pe_int) pe_int))) (pe_op op_mulW (pv 5) (pe_op op_fdivW (pe_op op_sub (pe_op op_mulW (pv 4) (pv 4)) pe_int) pe_int))))
      (pss_one (ps_ret (pe_ifExp (pt_cmp (pc_eqI (pe_op op_mod (pv 7) pe_int) pe_int)) pe_int (pe_un un_neg pe_int))))) pss_nil)
      (Evl.pss_cut (ps_set (i := 8) sc_L_own_sign.nd rfl (Or.inl rfl) (pe_ifExp (pt_cmp (pc_eqI (pe_op op_mod (pe_op op_mulW (pv 3) (pv 5)) pe_int) pe_int)) (pe_cal C_L_sign (hr.mono (by decide)) (pa_cons (pe_un un_neg pe_int) (pa_cons (pv 2) pa_nil))) pe_int))
      (Evl.pss_cut (ps_set (i := 8) sc_L_own_sign.nd rfl (Or.inl rfl) (pe_op op_mulW (pv 8) (pe_ifExp (pt_cmp (pc_eqI (pe_op op_mod (pv 5) pe_int) pe_int)) (pe_cal C_L_sign (hr.mono (by decide)) (pa_cons (pv 4) (pa_cons (pv 2) pa_nil))) pe_int)))
      (pss_one (ps_ret (pe_op op_mulW (pv 8) (pe_ifExp (pt_cmp (pc_eqI (pe_op op_mod (pv 3) pe_int) pe_int)) (pe_cal C_L_sign (hr.mono (by decide)) (pa_cons (pv 6) (pa_cons (pv 2) pa_nil))) pe_int)))))))))), ?_⟩
    refine ⟨_, rfl, _, _, rfl, rfl, _, rfl, ifd (fun h => ?_) (fun h => ?_)⟩
    · have z := fun r e => q r H (.inl ⟨h, e⟩) (Same.refl H)
      refine ⟨_, rfl, _, _, rfl, rfl, _, rfl, ifd (fun h1 => ⟨_, rfl, _, _, rfl, rfl, _, rfl, ifd (fun h2 => ?_) (fun h2 => ?_)⟩) (fun h1 => ?_)⟩
      · exact ⟨_, rfl, z _ (by rw [if_pos ⟨h1, h2⟩])⟩
      · exact z _ (by rw [if_neg (fun c => h2 c.2)])
      · exact z _ (by rw [if_neg (fun c => h1 c.1)])
    have hp := hp.resolve_left h
    have p2 : 2 ≤ p := by rcases hp with e | ⟨q, e, h1, h2, _⟩ <;> omega
    have p9 : p ≤ 1000 := by rcases hp with e | ⟨q, e, h1, h2, _⟩ <;> omega
    refine ⟨_, rfl, _, rfl, ⟨a, p, rfl, a0, a1, p2, by omega, fun s u x1 st1 hx1 => ⟨x1, _, rfl, .inl (.inl upd_same), rfl, _, _, rfl, _, _, rfl, rfl, ?_⟩⟩⟩
    refine ⟨_, rfl, _, rfl, ⟨b, p, rfl, b0, b1, p2, by omega, fun t v x2 st2 hx2 => ⟨x2, _, rfl, .inl (.inl upd_same), rfl, _, _, rfl, _, _, rfl, rfl, ?_⟩⟩⟩
    have l1 := strip_le p2 st1
    have l2 := strip_le p2 st2
    have ub : u.natAbs < 2 ^ 3000 := lt3000s (by omega) (by omega)
    have vb : v.natAbs < 2 ^ 3000 := lt3000s (by omega) (by omega)
    have k0 : Same H (upd (upd H x1 (.tup [.int s, .int u])) x2 (.tup [.int t, .int v])) := (same_upd hx1).trans (same_upd hx2)
    have z := fun H' k => q _ H' (.inr ⟨h, s, t, u, v, st1, st2, rfl⟩) k
    unfold sgnAt at z
    refine ⟨_, rfl, _, _, rfl, rfl, _, rfl, ifd (fun h2 => ?_) (fun h2 => ?_)⟩
    · rw [if_pos h2] at z
      have uu : (u * u).natAbs ≤ 1000000000000000000 := by
        have := small_mul (a := u) (b := u) (A := 1000000000) (B := 1000000000) (by omega) (by omega)
        exact this
      have vv : (v * v).natAbs ≤ 1000000000000000000 := by
        have := small_mul (a := v) (b := v) (A := 1000000000) (B := 1000000000) (by omega) (by omega)
        exact this
      refine ⟨_, rfl, _, _, rfl, rfl, _, _, rfl, rfl, CDivW.of (by decide) (by decide +kernel), _, rfl, _, _, rfl, rfl, _, _, rfl, rfl, CDivW.of (by decide) (by decide +kernel), _, _, rfl, rfl, CMulW.of (lt3000s (by omega) (by omega)) (lt3000s (by omega) (by omega)), _, rfl, _, rfl, _, rfl, _, _, rfl, rfl, CMulW.of vb vb, _, _, rfl, rfl, _, _, rfl, rfl, CDivW.of (by decide) (by decide +kernel), _, _, rfl, rfl, CMulW.of (lt3000s (by omega) (by omega)) (lt3000s (by omega) (by omega)), _, _, rfl, rfl, _, rfl, _, rfl, _, rfl, _, _, rfl, rfl, CMulW.of ub ub, _, _, rfl, rfl, _, _, rfl, rfl, CDivW.of (by decide) (by decide +kernel), _, _, rfl, rfl, CMulW.of (lt3000s (by omega) (by omega)) (lt3000s (by omega) (by omega)), _, _, rfl, rfl, ?_⟩
      have z1 := z _ k0
      refine ⟨_, rfl, _, _, rfl, rfl, (by show (0 : Int) < 2; decide), _, _, rfl, rfl, _, rfl, ifd (fun h3 => ?_) (fun h3 => ?_)⟩
      · rw [if_neg (by omega)] at z1
        exact z1
      · rw [if_pos (by omega)] at z1
        exact ⟨_, rfl, z1⟩
    · rw [if_neg h2] at z
      obtain ⟨r, rfl, r1, r2, he⟩ := hp.resolve_left h2
      rw [sign_eq r1 he, sign_eq r1 he, sign_eq r1 he] at z
      have est : ((s : Int) * (t : Int)) = ((s * t : Nat) : Int) := (Int.natCast_mul s t).symm
      have hst : ((s : Int) * (t : Int)) % 2 = 1 ↔ s * t % 2 = 1 := by rw [est]; omega
      have sm : ∀ n : Int, -1 ≤ lawSign n r ∧ lawSign n r ≤ 1 := fun n => by rw [← sign_eq r1 he]; exact rest_small n r
      have r1' := sm (-1)
      have r2' := sm u
      have r3' := sm v
      refine ⟨fun σ' H' => σ' = [some (.int a), some (.int b), some (.int (r : Int)), some (.int s), some (.int u), some (.int t), some (.int v), none, some (.int (if s * t % 2 = 1 then lawSign (-1) r else 1))] ∧ Same H H', ?_, ?_⟩
      · refine ⟨_, rfl, _, rfl, _, _, rfl, rfl, CMulW.of (lt3000s (by omega) (by omega)) (lt3000s (by omega) (by omega)), _, _, rfl, rfl, (by show (0 : Int) < 2; decide), _, _, rfl, rfl, _, rfl, ifd (fun h => ?_) (fun h => ?_)⟩
        · have h' := hst.mp h
          rw [if_pos h']
          exact ⟨1, rfl, _, rfl, -1, r, rfl, p2, by omega, fun H' k => ⟨rfl, k0.trans k⟩⟩
        · have h' := fun z => h (hst.mpr z)
          rw [if_neg h']
          exact ⟨rfl, k0⟩
      rintro σ' H1 ⟨rfl, k1⟩
      have b1 : -1 ≤ (if s * t % 2 = 1 then lawSign (-1) r else 1) ∧ (if s * t % 2 = 1 then lawSign (-1) r else 1) ≤ 1 := by split <;> omega
      have b2 : -1 ≤ (if t % 2 = 1 then lawSign u r else 1) ∧ (if t % 2 = 1 then lawSign u r else 1) ≤ 1 := by split <;> omega
      generalize (if s * t % 2 = 1 then lawSign (-1) r else 1) = x at z b1
      refine ⟨fun σ' H' => σ' = [some (.int a), some (.int b), some (.int (r : Int)), some (.int s), some (.int u), some (.int t), some (.int v), none, some (.int (x * (if t % 2 = 1 then lawSign u r else 1)))] ∧ Same H H', ?_, ?_⟩
      · refine ⟨_, rfl, _, rfl, _, _, rfl, rfl, (by show (0 : Int) < 2; decide), _, _, rfl, rfl, _, rfl, ifd (fun h => ?_) (fun h => ?_)⟩
        · have h' : t % 2 = 1 := by omega
          rw [if_pos h']
          exact ⟨_, rfl, _, rfl, u, r, rfl, p2, by omega, fun H' k => ⟨_, _, rfl, rfl, CMulW.of (lt3000s (by omega) (by omega)) (lt3000s (by omega) (by omega)), rfl, k1.trans k⟩⟩
        · have h' : ¬ t % 2 = 1 := by omega
          rw [if_neg h']
          exact ⟨_, _, rfl, rfl, CMulW.of (lt3000s (by omega) (by omega)) (lt3000s (by decide) (by decide)), rfl, k1⟩
      rintro σ' H2 ⟨rfl, k2⟩
      generalize (if t % 2 = 1 then lawSign u r else 1) = y at z b2
      have b3 : (x * y).natAbs ≤ 1 := small_mul (A := 1) (B := 1) (by omega) (by omega)
      refine ⟨_, rfl, _, rfl, _, _, rfl, rfl, (by show (0 : Int) < 2; decide), _, _, rfl, rfl, _, rfl, ifd (fun h => ?_) (fun h => ?_)⟩
      · have h' : s % 2 = 1 := by omega
        rw [if_pos h'] at z
        exact ⟨_, rfl, _, rfl, v, r, rfl, p2, by omega, fun H' k => ⟨_, _, rfl, rfl, CMulW.of (lt3000s (by omega) (by omega)) (lt3000s (by omega) (by omega)), z _ (k2.trans k)⟩⟩
      · have h' : ¬ s % 2 = 1 := by omega
        rw [if_neg h'] at z
        exact ⟨_, _, rfl, rfl, CMulW.of (lt3000s (by omega) (by omega)) (lt3000s (by decide) (by decide)), z _ k2⟩
end
end Sf

namespace Sf
open PySem PySem.Spec PyProof.Rows L2
section
variable {P : Program} {w : World} {K : PySem.W.Frag} {mg : Str → Option Value} {base : Heap} {f : Addr} {fd : FuncData}
def p2357 : List Int := [2, 3, 5, 7]
def BareOf (n m : Int) : Prop := m ≠ 0 ∧ m.natAbs ≤ n.natAbs ∧ (∃ k : Int, n = m * (k * k)) ∧ ∀ q ∈ p2357, m % (q * q) ≠ 0
structure BareP (vs : List V) (H : Hp) (Q : VK) : Prop where
  ex : ∃ n : Int, vs = [.int n] ∧ n ≠ 0 ∧ n.natAbs ≤ 1000000000 ∧ ∀ (m : Int) (H' : Hp), BareOf n m → Same H H' → Q (.int m) H'
def spBare : Sp := fun vs H Q _ => BareP vs H Q
theorem mem_take_succ {l : List Int} {i : Nat} {q x : Int} (hq : l[i]? = some q) (h : x ∈ l.take (i + 1)) : x ∈ l.take i ∨ x = q := by
  rw [List.take_add_one, hq] at h
  rcases List.mem_append.mp h with h | h
  · exact .inl h
  · exact .inr (by simpa using h)
theorem bare_step {n m k q : Int} (e : n = m * (k * k)) (hm : m ≠ 0) (hq : 2 ≤ q) (h : m % (q * q) = 0) : n = m / (q * q) * ((q * k) * (q * k)) ∧ m / (q * q) ≠ 0 ∧ (m / (q * q)).natAbs * 4 ≤ m.natAbs ∧ ∀ x : Int, m % x ≠ 0 → m / (q * q) % x ≠ 0 := by
  have q4 : 4 ≤ q * q := by
    have := Int.mul_le_mul hq hq (by decide) (by omega)
    omega
  have e1 : m = q * q * (m / (q * q)) := by
    have := Int.emod_add_mul_ediv m (q * q)
    omega
  have e0 : m / (q * q) ≠ 0 := fun z => hm (by rw [e1, z, Int.mul_zero])
  refine ⟨?_, e0, ?_, fun x hx z => hx ?_⟩
  · have : m / (q * q) * (q * k * (q * k)) = q * q * (m / (q * q)) * (k * k) := by simp only [Int.mul_assoc, Int.mul_comm, Int.mul_left_comm]
    rw [this, ← e1]
    exact e
  · have e2 : m.natAbs = (q * q).natAbs * (m / (q * q)).natAbs := by
      conv => lhs; rw [e1]
      exact Int.natAbs_mul _ _
    have h5 : 4 * (m / (q * q)).natAbs ≤ (q * q).natAbs * (m / (q * q)).natAbs := Nat.mul_le_mul_right _ (by omega)
    omega
  · have d : x ∣ m / (q * q) := Int.dvd_of_emod_eq_zero z
    have d2 : x ∣ m := by
      rw [e1]
      exact Int.dvd_trans d (Int.dvd_mul_left _ _)
    exact Int.emod_eq_zero_of_dvd d2
theorem ok_bare (F : FnD K "_law_bare" "_law_bare" s_L_bare f fd) (T : Glob mg) : FnOk P w K mg base CX0 1 f fd ["_law_number_here"] spBare := by
  refine F.ok sc_L_bare (fun vs H Q E h => ?_) (fun cdv A outer s H vs Q E hr h => ?_)
  · obtain ⟨n, rfl, _⟩ := h.ex; rfl
  · obtain ⟨n, rfl, n0, n1, q⟩ := h.ex
    refine ⟨_, PSs.nox (pss_cons (ps_set (i := 1) sc_L_bare.nd rfl (Or.inl rfl) (pe_callTy call_int1 (by rfl) T.m_int (by decide +kernel) (pa_cons (pv 0) pa_nil)))
      (pss_cons (ps_for PassesOwn.never rfl (pi_tup (pe_tup (pa_cons pe_int (pa_cons pe_int (pa_cons pe_int (pa_cons pe_int pa_nil)))))) (pg_name (i := 2) sc_L_bare.nd rfl (Or.inl rfl)) (pss_one (ps_for PassesOwn.never rfl (pi_range1 (by rfl) T.m_range (pa_cons pe_int pa_nil)) (pg_name (i := 3) sc_L_bare.nd rfl (Or.inl rfl)) (pss_cons (ps_if (pt_cmp (pc_neI (pe_op op_mod (pv 1) (pe_op op_mulW (pv 2) (pv 2))) pe_int)) (pss_one ps_break) pss_nil)
      (pss_one (ps_set (i := 1) sc_L_bare.nd rfl (Or.inl rfl) (pe_op op_fdivW (pv 1) (pe_op op_mulW (pv 2) (pv 2)))))))))
      (pss_one (ps_ret (pv 1))))), ?_⟩
    refine ⟨_, rfl, .inl ⟨_, rfl, (by show 4 ≤ sizeLine; decide), fun b hb => ?_⟩⟩
    have hT : SqT K (upd H b (.tup (p2357.map V.int))) b (p2357.map V.int) := .inl (.inl upd_same)
    refine ⟨b, rfl, ⟨_, hT⟩, for_tup (K := K) (a := b) (xs := p2357.map V.int) (fun i σ H' => H' = upd H b (.tup (p2357.map V.int)) ∧ ∃ (m k : Int) (v2 v3 : Option V), σ = [some (.int n), some (.int m), v2, v3] ∧ n = m * (k * k) ∧ m ≠ 0 ∧ m.natAbs ≤ n.natAbs ∧ ∀ x ∈ p2357.take i, m % (x * x) ≠ 0) ⟨rfl, n, 1, none, none, rfl, by omega, n0, Nat.le_refl _, fun x hx => by cases hx⟩ (fun i σ H' _ e => by rw [e.1]; exact hT) ?_ ?_⟩
    · rintro i y σ _ hi ⟨rfl, m, k, v2, v3, rfl, e, m0, m1, hx⟩
      obtain ⟨z, hz, rfl⟩ : ∃ z, p2357[i]? = some z ∧ y = V.int z := by
        rw [List.getElem?_map] at hi
        cases e : p2357[i]? with
        | none => rw [e] at hi; cases hi
        | some z => rw [e] at hi; exact ⟨z, rfl, (Option.some.inj hi).symm⟩
      have hz2 : 2 ≤ z ∧ z ≤ 7 := by
        have hm := List.mem_of_getElem? hz
        have cases : z = 2 ∨ z = 3 ∨ z = 5 ∨ z = 7 := by simpa [p2357] using hm
        omega
      have zz : 4 ≤ z * z := by
        have := Int.mul_le_mul hz2.1 hz2.1 (by decide) (by omega)
        omega
      have zb : (z * z).natAbs ≤ 49 := small_mul (A := 7) (B := 7) (by omega) (by omega)
      refine ⟨40, rfl, by decide, by decide, for_range (lo := 0) (n := 40) (fun j σ H' => H' = upd H b (.tup (p2357.map V.int)) ∧ ∃ (m k : Int) (v3 : Option V), σ = [some (.int n), some (.int m), some (.int z), v3] ∧ n = m * (k * k) ∧ m ≠ 0 ∧ m.natAbs * 4 ^ j ≤ n.natAbs ∧ m.natAbs ≤ n.natAbs ∧ ∀ x ∈ p2357.take i, m % (x * x) ≠ 0) ⟨rfl, m, k, v3, rfl, e, m0, by omega, m1, hx⟩ ?_ ?_⟩
      · rintro j σ _ hj ⟨rfl, m, k, v3, rfl, e, m0, mj, m1, hx⟩
        refine ⟨_, rfl, _, rfl, _, rfl, _, _, rfl, rfl, CMulW.of (lt3000s (by omega) (by omega)) (lt3000s (by omega) (by omega)), _, _, rfl, rfl, (by show 0 < z * z; omega), _, _, rfl, rfl, _, rfl, ifn (fun h => ?_) (fun h => ?_)⟩
        · refine ⟨rfl, m, k, _, _, rfl, e, m0, m1, fun x hx2 => ?_⟩
          rcases mem_take_succ hz hx2 with h2 | h2
          · exact hx x h2
          · rw [h2]
            exact h
        · obtain ⟨g1, g2, g3, g4⟩ := bare_step e m0 hz2.1 h
          refine ⟨_, rfl, _, rfl, _, rfl, _, _, rfl, rfl, CMulW.of (lt3000s (by omega) (by omega)) (lt3000s (by omega) (by omega)), _, _, rfl, rfl, CDivW.of (by show 0 < z * z; omega) (lt3000s (by omega) (by omega)), ?_⟩
          refine ⟨rfl, m / (z * z), z * k, _, rfl, g1, g2, ?_, by omega, fun x hx2 => g4 _ (hx x hx2)⟩
          have h5 : (m / (z * z)).natAbs * 4 * 4 ^ j ≤ m.natAbs * 4 ^ j := Nat.mul_le_mul_right _ g3
          have h6 : (m / (z * z)).natAbs * 4 ^ (j + 1) = (m / (z * z)).natAbs * 4 * 4 ^ j := by rw [Nat.pow_succ, Nat.mul_comm (4 ^ j) 4, Nat.mul_assoc]
          omega
      · rintro σ _ ⟨rfl, m, k, v3, rfl, e, m0, mj, m1, hx⟩
        exfalso
        have h2 : 1 * 4 ^ 40 ≤ m.natAbs * 4 ^ 40 := Nat.mul_le_mul_right _ (by omega)
        have h3 : 1000000000 < 1 * 4 ^ 40 := by decide +kernel
        omega
    · rintro σ _ ⟨rfl, m, k, v2, v3, rfl, e, m0, m1, hx⟩
      exact ⟨_, rfl, q m _ ⟨m0, m1, ⟨k, e⟩, hx⟩ (same_upd hb)⟩
structure NumP (N : Nat) (mx : Int) (vs : List V) (H : Hp) (Q : VK) : Prop where
  ex : ∃ (p : Addr) (n : Nat), vs = [.ref p] ∧ Sk p n H ∧ n + N ≤ 1000000 ∧ ∀ (r : Int) (H' : Hp), r ≠ 0 → r.natAbs ≤ mx.natAbs → Keep p H H' → Sk p (n + N) H' → Q (.int r) H'
def spNum (N : Nat) (mx : Int) : Sp := fun vs H Q _ => NumP N mx vs H Q
theorem ok_number (F : FnD K "_law_number" "_law_number" s_L_number f fd) (T : Glob mg) (C_L_take : Cal P w K mg base 1 "_law_take" ["_law_sack_here", "_law_many"] spTake) (C_L_one_of : Cal P w K mg base 2 "_law_one_of" ["_law_sack_here", "_law_items"] (spOneOf K)) : FnOk P w K mg base CX0 3 f fd ["_law_sack_here"] (spNum 10 78732) := by
  refine F.ok sc_L_number (fun vs H Q E h => ?_) (fun cdv A outer s H vs Q E hr h => ?_)
  · obtain ⟨p, n, rfl, _⟩ := h.ex; rfl
  · obtain ⟨p, n, rfl, sk, hn, q⟩ := h.ex
    refine ⟨_, PSs.nox (Evl.pss_cut (ps_set (i := 1) sc_L_number.nd rfl (Or.inl rfl) (pe_op op_mulW (pe_cal C_L_one_of (hr.mono (by decide)) (pa_cons (pv 0) (pa_cons (pe_lst (pa_cons pe_int (pa_cons (pe_un un_neg pe_int) pa_nil))) pa_nil))) (pe_op op_add pe_int (pe_cal C_L_take (hr.mono (by decide)) (pa_cons (pv 0) (pa_cons pe_int pa_nil))))))
      (pss_cons (ps_for PassesOwn.never rfl (pi_range1 (by rfl) T.m_range (pa_cons (pe_cal C_L_take (hr.mono (by decide)) (pa_cons (pv 0) (pa_cons pe_int pa_nil))) pa_nil)) (pg_name (i := 2) sc_L_number.nd rfl (Or.inl rfl)) (pss_one (ps_set (i := 1) sc_L_number.nd rfl (Or.inl rfl) (pe_op op_mulW (pv 1) (pe_cal C_L_one_of (hr.mono (by decide)) (pa_cons (pv 0) (pa_cons (pe_lst (pa_cons pe_int (pa_cons pe_int (pa_cons pe_int (pa_cons pe_int (pa_cons pe_int (pa_cons pe_int (pa_cons pe_int pa_nil)))))))) pa_nil)))))))
      (pss_one (ps_ret (pv 1))))), ?_⟩
    refine ⟨fun σ' H' => ∃ r : Int, σ' = [some (.ref p), some (.int r), none] ∧ r ≠ 0 ∧ r.natAbs ≤ 12 ∧ Keep p H H' ∧ Sk p (n + 2) H', ?_, ?_⟩
    · refine ⟨_, rfl, 1, rfl, (by show 2 ≤ sizeLine; decide), fun b hb => one_of_new sk (by omega) hb (by show 1 ≤ 2; decide) (by show 2 ≤ 1000000; decide) fun v H1 hv k1 s1 => ?_⟩
      obtain ⟨z, rfl, hz⟩ : ∃ z : Int, v = .int z ∧ z.natAbs = 1 := by
        rcases List.mem_cons.mp hv with e | hv
        · exact ⟨1, e, rfl⟩
        rcases List.mem_cons.mp hv with e | hv
        · exact ⟨-1, e, rfl⟩
        · cases hv
      refine ⟨_, rfl, take_of s1 (by omega) (by decide) (by decide +kernel) fun r H2 r0 r1 k2 s2 _ => ⟨_, _, rfl, rfl, _, _, rfl, rfl, CMulW.of (lt3000s (by omega) (by omega)) (lt3000s (by omega) (by omega)), ?_⟩⟩
      have e1 : (z * (1 + r)).natAbs = (1 + r).natAbs := by rw [Int.natAbs_mul, hz, Nat.one_mul]
      exact ⟨_, rfl, by omega, by omega, k1.trans k2, s2⟩
    · rintro σ' H1 ⟨r, rfl, r0, r1, k1, s1⟩
      refine ⟨_, rfl, take_of s1 (by omega) (by decide) (by decide +kernel) fun t H2 t0 t1 k2 s2 _ => ⟨t, rfl, by omega, by omega, ?_⟩⟩
      refine for_range (lo := 0) (n := t.toNat) (fun i σ H' => ∃ (r : Int) (v : Option V), σ = [some (.ref p), some (.int r), v] ∧ r ≠ 0 ∧ r.natAbs ≤ 12 * 9 ^ i ∧ Keep p H H' ∧ Sk p (n + 3 + i) H') ⟨r, none, rfl, r0, by omega, k1.trans k2, s2⟩ ?_ ?_
      · rintro i σ H3 hi ⟨r, v, rfl, r0, r1, k3, s3⟩
        refine ⟨_, rfl, _, rfl, (by show 7 ≤ sizeLine; decide), fun b hb => one_of_new s3 (by omega) hb (by show 1 ≤ 7; decide) (by show 7 ≤ 1000000; decide) fun x H4 hv k4 s4 => ?_⟩
        obtain ⟨z, rfl, hz1, hz2⟩ : ∃ z : Int, x = .int z ∧ z ≠ 0 ∧ z.natAbs ≤ 9 := by
          have cases : x = .int 2 ∨ x = .int 3 ∨ x = .int 5 ∨ x = .int 7 ∨ x = .int 2 ∨ x = .int 4 ∨ x = .int 9 := by simpa using hv
          rcases cases with e | e | e | e | e | e | e <;> exact ⟨_, e, by decide, by decide⟩
        have p9 : 9 ^ i ≤ 9 ^ 4 := Nat.pow_le_pow_right (by decide) (by omega)
        have e4 : 9 ^ 4 = 6561 := by decide
        have h3 : (r * z).natAbs ≤ 12 * 9 ^ (i + 1) := by
          rw [Int.natAbs_mul, Nat.pow_succ, ← Nat.mul_assoc]
          exact Nat.mul_le_mul r1 hz2
        refine ⟨_, _, rfl, rfl, CMulW.of (lt3000s (by omega) (by omega)) (lt3000s (by omega) (by omega)), ?_⟩
        exact ⟨r * z, _, rfl, Int.mul_ne_zero r0 hz1, h3, k3.trans k4, s4⟩
      · rintro σ H3 ⟨r, v, rfl, r0, r1, k3, s3⟩
        have p9 : 9 ^ t.toNat ≤ 9 ^ 4 := Nat.pow_le_pow_right (by decide) (by omega)
        have e4 : 9 ^ 4 = 6561 := by decide
        exact ⟨_, rfl, q r H3 r0 (by show r.natAbs ≤ 78732; omega) k3 (s3.mono (by omega))⟩
end
end Sf

namespace Sf
open PySem PySem.Spec PyProof.Rows L2
def zsq (P : Int) (i : Nat) (r : Int) : List Int := ((List.range i).filter fun z : Nat => decide (((z : Int) * (z : Int)) % P = r)).map fun z : Nat => (z : Int)
theorem zsq_succ (P : Int) (i : Nat) (r : Int) : zsq P (i + 1) r = zsq P i r ++ (if ((i : Int) * (i : Int)) % P = r then [(i : Int)] else []) := by
  unfold zsq
  rw [List.range_succ, List.filter_append, List.map_append]
  congr 1
  by_cases h : ((i : Int) * (i : Int)) % P = r
  · rw [if_pos h, List.filter_cons, if_pos (decide_eq_true h)]; rfl
  · rw [if_neg h, List.filter_cons, if_neg (by simpa using h)]; rfl
theorem zsq_mem {P : Int} {i : Nat} {r z : Int} : z ∈ zsq P i r ↔ ∃ k : Nat, k < i ∧ z = k ∧ ((k : Int) * (k : Int)) % P = r := by
  unfold zsq
  rw [List.mem_map]
  constructor
  · rintro ⟨k, hk, rfl⟩
    rw [List.mem_filter, List.mem_range] at hk
    exact ⟨k, hk.1, rfl, of_decide_eq_true hk.2⟩
  · rintro ⟨k, h1, rfl, h2⟩
    exact ⟨k, by rw [List.mem_filter, List.mem_range]; exact ⟨h1, decide_eq_true h2⟩, rfl⟩
theorem zsq_len (P : Int) (i : Nat) (r : Int) : (zsq P i r).length ≤ i := by
  unfold zsq
  rw [List.length_map]
  exact Nat.le_trans (List.length_filter_le _ _) (by rw [List.length_range]; exact Nat.le_refl _)
/-- a dict from the rests to the lists of their roots -/
def RootsAt (H : Hp) (d : Addr) (P : Int) (i : Nat) : Prop := ∃ kvs : List (Key × V), H d = some (.dK kvs) ∧ kvs.length ≤ i ∧
  ∀ r : Int, (∀ v, valV kvs (Sum.inl r : Key) = some v → ∃ a, v = .ref a ∧ H a = some (.lst ((zsq P i r).map V.int))) ∧ (valV kvs (Sum.inl r : Key) = none → zsq P i r = [])
theorem roots_get {H : Hp} {P : Int} {i : Nat} {kvs : List (Key × V)} {l : Addr} {r : Int}
    (h : ∀ r : Int, (∀ v, valV kvs (Sum.inl r : Key) = some v → ∃ a, v = .ref a ∧ H a = some (.lst ((zsq P i r).map V.int))) ∧ (valV kvs (Sum.inl r : Key) = none → zsq P i r = [])) (hl : H l = none) :
    ∃ a', (valV kvs (Sum.inl r : Key)).getD (.ref l) = .ref a' ∧ (upd H l (.lst [])) a' = some (.lst ((zsq P i r).map V.int)) := by
  cases e : valV kvs (Sum.inl r : Key) with
  | none => exact ⟨l, rfl, by rw [(h r).2 e, upd_same]; rfl⟩
  | some v =>
    obtain ⟨a, rfl, ha⟩ := (h r).1 v e
    exact ⟨a, rfl, by rw [upd_ne (ne_of_none ha hl)]; exact ha⟩
def powAll (p : Int) : Int := if p = 2 then 32 else p * p
def Through (a b p : Int) : Prop := ∃ x y z : Nat, x < (powAll p).toNat ∧ y < (powAll p).toNat ∧ z < (powAll p).toNat ∧ (z : Int) * z % powAll p = (a * x * x + b * y * y) % powAll p ∧ ¬ ((x : Int) % p = 0 ∧ (y : Int) % p = 0 ∧ (z : Int) % p = 0)
section
variable {P : Program} {w : World} {K : PySem.W.Frag} {mg : Str → Option Value} {base : Heap} {f : Addr} {fd : FuncData}
structure ThroughP (vs : List V) (H : Hp) (Q : VK) : Prop where
  ex : ∃ a b p : Int, vs = [.int a, .int b, .int p] ∧ a.natAbs ≤ 1000000000 ∧ b.natAbs ≤ 1000000000 ∧ (p = 2 ∨ p = 3 ∨ p = 5 ∨ p = 7) ∧ ∀ (r : Bool) (H' : Hp), (r = true ↔ Through a b p) → Same H H' → Q (.bl r) H'
def spThrough : Sp := fun vs H Q _ => ThroughP vs H Q
theorem ok_through (F : FnD K "_law_through_all" "_law_through_all" s_L_through_all f fd) (T : Glob mg) : FnOk P w K mg base CX0 1 f fd ["_law_a", "_law_b", "_law_prime"] spThrough := by
  refine F.ok sc_L_through_all (fun vs H Q E h => ?_) (fun cdv A outer s H vs Q E hr h => ?_)
  · obtain ⟨a, b, p, rfl, _⟩ := h.ex; rfl
  · obtain ⟨a, b, p, rfl, a1, b1, hp, q⟩ := h.ex
    have hu := hu_of hr
    refine ⟨_, PSs.nox (Evl.pss_cut (ps_set (i := 3) sc_L_through_all.nd rfl (Or.inl rfl) (pe_ifExp (pt_cmp (pc_eqI (pv 2) pe_int)) pe_int (pe_op op_mulW (pv 2) (pv 2))))
      (pss_cons (ps_set (i := 4) sc_L_through_all.nd rfl (Or.inl rfl) pe_dnewK)
      (pss_cons (ps_for PassesOwn.never rfl (pi_range1 (by rfl) T.m_range (pa_cons (pv 3) pa_nil)) (pg_name (i := 5) sc_L_through_all.nd rfl (Or.inl rfl)) (pss_cons (ps_set (i := 6) sc_L_through_all.nd rfl (Or.inl rfl) (pe_op op_mod (pe_callTy call_int1 (by rfl) T.m_int (by decide +kernel) (pa_cons (pe_op op_mulW (pv 5) (pv 5)) pa_nil)) (pv 3)))
      (pss_one (ps_dput hu (pv 4) (pv 6) (pe_op op_cat (pe_dget2 hu (pv 4) (pv 6) (pe_lst pa_nil) ⟨rfl, rfl, rfl, rfl⟩) (pe_lst (pa_cons (pv 5) pa_nil))) rfl))))
      (pss_cons (ps_for PassesOwn.never rfl (pi_range1 (by rfl) T.m_range (pa_cons (pv 3) pa_nil)) (pg_name (i := 7) sc_L_through_all.nd rfl (Or.inl rfl)) (pss_one (ps_for PassesOwn.never rfl (pi_range1 (by rfl) T.m_range (pa_cons (pv 3) pa_nil)) (pg_name (i := 8) sc_L_through_all.nd rfl (Or.inl rfl)) (pss_one (ps_for PassesOwn.never rfl (pi_list (pe_dget2 hu (pv 4) (pe_op op_mod (pe_callTy call_int1 (by rfl) T.m_int (by decide +kernel) (pa_cons (pe_op op_add (pe_op op_mulW (pe_op op_mulW (pv 0) (pv 7)) (pv 7)) (pe_op op_mulW (pe_op op_mulW (pv 1) (pv 8)) (pv 8))) pa_nil)) (pv 3)) (pe_lst pa_nil) ⟨rfl, rfl, rfl, rfl⟩)) (pg_name (i := 5) sc_L_through_all.nd rfl (Or.inl rfl)) (pss_one (ps_if (PW.pt (pw_or (pt_cmp (pc_neI (pe_op op_mod (pv 7) (pv 2)) pe_int)) (pw_or (pt_cmp (pc_neI (pe_op op_mod (pv 8) (pv 2)) pe_int)) (pw_or1 (pt_cmp (pc_neI (pe_op op_mod (pv 5) (pv 2)) pe_int)))))) (pss_one (ps_ret pe_bl)) pss_nil)))))))
      (pss_one (ps_ret pe_bl)))))), ?_⟩
    have P1 : 2 ≤ powAll p ∧ powAll p ≤ 49 := by
      unfold powAll
      rcases hp with e | e | e | e <;> subst e <;> decide
    have p2 : 2 ≤ p ∧ p ≤ 7 := by omega
    refine ⟨fun σ' H' => σ' = [some (.int a), some (.int b), some (.int p), some (.int (powAll p)), none, none, none, none, none] ∧ H = H', ?_, ?_⟩
    · unfold powAll
      refine ⟨_, rfl, _, _, rfl, rfl, _, rfl, ifd (fun h => ?_) (fun h => ?_)⟩
      · rw [if_pos h]
        exact ⟨rfl, rfl⟩
      · rw [if_neg h]
        exact ⟨_, rfl, _, rfl, _, _, rfl, rfl, CMulW.of (lt3000s (by omega) (by omega)) (lt3000s (by omega) (by omega)), rfl, rfl⟩
    rintro σ' _ ⟨rfl, rfl⟩
    have hPe : powAll p = ((powAll p).toNat : Int) := by omega
    generalize hPg : (powAll p).toNat = N at hPe
    intro d hd
    refine ⟨_, rfl, powAll p, rfl, by omega, by omega, ?_⟩
    rw [hPg]
    refine for_range (lo := 0) (n := N) (fun i σ H' => ∃ vz vr : Option V, σ = [some (.int a), some (.int b), some (.int p), some (.int (powAll p)), some (.ref d), vz, vr, none, none] ∧ Same H H' ∧ RootsAt H' d (powAll p) i) ⟨none, none, rfl, same_upd hd, [], upd_same, by decide, fun r => ⟨fun v e => (by cases e), fun _ => rfl⟩⟩ ?_ ?_
    · rintro i σ H1 hi ⟨vz, vr, rfl, e1, kvs, hk, kl, hr⟩
      have ib : ((0 : Int) + (i : Nat)).natAbs < 2 ^ 3000 := lt3000s (by omega) (by omega)
      refine ⟨_, rfl, _, rfl, _, _, rfl, rfl, CMulW.of ib ib, .inl ⟨_, rfl, _, rfl, _, _, rfl, rfl, (by omega), ?_⟩⟩
      rw [Int.zero_add]
      refine ⟨_, rfl, d, rfl, .inl ⟨_, .inl hk⟩, _, rfl, (by show 0 ≤ sizeLine; decide), fun l hl => ?_⟩
      have ndl : d ≠ l := ne_of_none hk hl
      obtain ⟨a', ea, ha⟩ := roots_get (r := (i : Int) * i % powAll p) hr hl
      refine ⟨_, DGet.k (k := Sum.inl ((i : Int) * i % powAll p)) (by rw [upd_ne ndl]; exact hk), ?_⟩
      rw [ea]
      have hla : a' ≠ d := fun z => by
        rw [z, upd_ne ndl, hk] at ha
        cases ha
      refine ⟨_, rfl, (by show 1 ≤ sizeLine; decide), fun l2 hl2 => ?_⟩
      have nal2 : a' ≠ l2 := ne_of_none ha hl2
      refine ⟨a', l2, _, _, rfl, rfl, by rw [upd_ne nal2]; exact ha, upd_same, ?_, fun l3 hl3 => ?_⟩
      · have h1 := zsq_len (powAll p) i ((i : Int) * i % powAll p)
        refine Nat.le_trans (?_ : _ ≤ 50) (by decide)
        rw [List.length_map]
        show (zsq (powAll p) i ((i : Int) * i % powAll p)).length + 1 ≤ 50
        omega
      · have k3 : Same H1 (upd (upd (upd H1 l (.lst [])) l2 (.lst [.int (i : Int)])) l3 (.lst ((zsq (powAll p) i ((i : Int) * i % powAll p)).map V.int ++ [V.int (i : Int)]))) := ((same_upd hl).trans (same_upd hl2)).trans (same_upd hl3)
        refine ⟨_, rfl, _, rfl, d, _, rfl, DPut.k (k := Sum.inl ((i : Int) * i % powAll p)) (k3 _ _ hk) (small1000 (by omega)), ?_⟩
        refine ⟨_, _, rfl, ?_, putK kvs (Sum.inl ((i : Int) * i % powAll p) : Key) (.ref l3), upd_same, Nat.le_trans (length_putK _ _ _) (by omega), fun r => ?_⟩
        · intro b o e
          have h3 := e1 b o e
          rw [upd_ne (ne_of_none e hd)]
          exact k3 _ _ h3
        · have nl3 : l3 ≠ d := fun z => by
            rw [z] at hl3
            rw [upd_ne (ne_of_none (same_upd (H := H1) hl _ _ hk) hl2), upd_ne ndl, hk] at hl3
            cases hl3
          rw [valV_put, zsq_succ]
          by_cases er : r = (i : Int) * i % powAll p
          · subst er
            rw [if_pos rfl, if_pos rfl]
            refine ⟨fun v e => ?_, fun e => by cases e⟩
            cases e
            exact ⟨l3, rfl, by rw [upd_ne nl3, upd_same, List.map_append]; rfl⟩
          · rw [if_neg (fun z => er (Sum.inl.inj z)), if_neg (fun z => er z.symm), List.append_nil]
            refine ⟨fun v e => ?_, (hr r).2⟩
            obtain ⟨a2, e2, h2⟩ := (hr r).1 v e
            refine ⟨a2, e2, ?_⟩
            rw [upd_ne (fun z => by rw [z, hk] at h2; cases h2)]
            exact k3 _ _ h2
    · rintro σ H1 ⟨vz, vr, rfl, e1, kvs, hk, kl, hr⟩
      have Nb : N ≤ 49 := by omega
      have xb : ∀ (k : Nat), k < N → ((0 : Int) + k).natAbs ≤ 49 := fun k h => by omega
      refine ⟨_, rfl, powAll p, rfl, by omega, by omega, ?_⟩
      rw [hPg]
      refine for_range (lo := 0) (n := N) (fun i σ H' => ∃ vz vx vy : Option V, σ = [some (.int a), some (.int b), some (.int p), some (.int (powAll p)), some (.ref d), vz, vr, vx, vy] ∧ Same H1 H' ∧ ∀ x y z : Nat, x < i → y < N → z < N → (z : Int) * z % powAll p = (a * x * x + b * y * y) % powAll p → (x : Int) % p = 0 ∧ (y : Int) % p = 0 ∧ (z : Int) % p = 0) ⟨vz, none, none, rfl, Same.refl H1, fun x y z h => absurd h (Nat.not_lt_zero _)⟩ ?_ ?_
      · rintro x σ H2 hx ⟨vz, vx, vy, rfl, e2, no⟩
        rw [Int.zero_add]
        refine ⟨_, rfl, powAll p, rfl, by omega, by omega, ?_⟩
        rw [hPg]
        refine for_range (lo := 0) (n := N) (fun i σ H' => ∃ vz vy : Option V, σ = [some (.int a), some (.int b), some (.int p), some (.int (powAll p)), some (.ref d), vz, vr, some (.int (x : Int)), vy] ∧ Same H1 H' ∧ ∀ y z : Nat, y < i → z < N → (z : Int) * z % powAll p = (a * x * x + b * y * y) % powAll p → (x : Int) % p = 0 ∧ (y : Int) % p = 0 ∧ (z : Int) % p = 0) ⟨vz, vy, rfl, e2, fun y z h => absurd h (Nat.not_lt_zero _)⟩ ?_ ?_
        · rintro y σ H3 hy ⟨vz, vy, rfl, e3, no2⟩
          rw [Int.zero_add]
          have ax : (a * (x : Int)).natAbs ≤ 49000000000 := small_mul (A := 1000000000) (B := 49) (by omega) (by omega)
          have axx : (a * (x : Int) * x).natAbs ≤ 49000000000 * 49 := small_mul (A := 49000000000) (B := 49) (by omega) (by omega)
          have ay : (b * (y : Int)).natAbs ≤ 49000000000 := small_mul (A := 1000000000) (B := 49) (by omega) (by omega)
          have ayy : (b * (y : Int) * y).natAbs ≤ 49000000000 * 49 := small_mul (A := 49000000000) (B := 49) (by omega) (by omega)
          refine ⟨_, rfl, d, rfl, .inl ⟨_, .inl (e3 _ _ hk)⟩, _, rfl, _, rfl, _, _, rfl, rfl, CMulW.of (lt3000s (by omega) (by omega)) (lt3000s (by omega) (by omega)), _, rfl, _, _, rfl, rfl, CMulW.of (lt3000s (by omega) (by omega)) (lt3000s (by omega) (by omega)), _, rfl, _, rfl, _, _, rfl, rfl, CMulW.of (lt3000s (by omega) (by omega)) (lt3000s (by omega) (by omega)), _, rfl, _, _, rfl, rfl, CMulW.of (lt3000s (by omega) (by omega)) (lt3000s (by omega) (by omega)), _, _, rfl, rfl, .inl ⟨_, rfl, _, rfl, _, _, rfl, rfl, (by omega), (by show 0 ≤ sizeLine; decide), fun l hl => ?_⟩⟩
          have hk3 := e3 _ _ hk
          have ndl : d ≠ l := ne_of_none hk3 hl
          have hr3 : ∀ r : Int, (∀ v, valV kvs (Sum.inl r : Key) = some v → ∃ a, v = .ref a ∧ H3 a = some (.lst ((zsq (powAll p) N r).map V.int))) ∧ (valV kvs (Sum.inl r : Key) = none → zsq (powAll p) N r = []) := fun r => ⟨fun v e => by
            obtain ⟨a2, e2, h2⟩ := (hr r).1 v e
            exact ⟨a2, e2, e3 _ _ h2⟩, (hr r).2⟩
          obtain ⟨a', ea, ha⟩ := roots_get (r := (a * x * x + b * y * y) % powAll p) hr3 hl
          refine ⟨_, DGet.k (k := Sum.inl ((a * x * x + b * y * y) % powAll p)) (by rw [upd_ne ndl]; exact hk3), ?_⟩
          rw [ea]
          have hS : SqL K (upd H3 l (.lst [])) a' ((zsq (powAll p) N ((a * x * x + b * y * y) % powAll p)).map V.int) := SqL.of ha
          have e4 : Same H1 (upd H3 l (.lst [])) := e3.trans (same_upd hl)
          refine ⟨a', rfl, ⟨_, hS⟩, for_list (K := K) (a := a') (xs := (zsq (powAll p) N ((a * x * x + b * y * y) % powAll p)).map V.int) (fun k σ H' => H' = upd H3 l (.lst []) ∧ ∃ vz : Option V, σ = [some (.int a), some (.int b), some (.int p), some (.int (powAll p)), some (.ref d), vz, vr, some (.int (x : Int)), some (.int (y : Int))] ∧ ∀ z ∈ (zsq (powAll p) N ((a * x * x + b * y * y) % powAll p)).take k, (x : Int) % p = 0 ∧ (y : Int) % p = 0 ∧ z % p = 0) ⟨rfl, vz, rfl, fun z h => by cases h⟩ (fun k σ H' _ e => by rw [e.1]; exact hS) ?_ ?_⟩
          · rintro k w σ _ hw ⟨rfl, vz, rfl, no3⟩
            obtain ⟨z, hz, rfl⟩ : ∃ z, (zsq (powAll p) N ((a * x * x + b * y * y) % powAll p))[k]? = some z ∧ w = V.int z := by
              rw [List.getElem?_map] at hw
              cases e : (zsq (powAll p) N ((a * x * x + b * y * y) % powAll p))[k]? with
              | none => rw [e] at hw; cases hw
              | some z => rw [e] at hw; exact ⟨z, rfl, (Option.some.inj hw).symm⟩
            obtain ⟨kz, kz1, rfl, kz2⟩ := zsq_mem.mp (List.mem_of_getElem? hz)
            have hit : ¬ ((x : Int) % p = 0 ∧ (y : Int) % p = 0 ∧ (kz : Int) % p = 0) → Q (.bl true) (upd H3 l (.lst [])) := fun h => q true _ ⟨fun _ => ⟨x, y, kz, by rw [hPg]; exact hx, by rw [hPg]; exact hy, by rw [hPg]; exact kz1, kz2, h⟩, fun _ => rfl⟩ (e1.trans e4)
            refine ⟨_, rfl, _, rfl, _, _, rfl, rfl, (by omega), _, _, rfl, rfl, _, rfl, ifn (fun h1 => hit fun c => h1 c.1) (fun h1 => ?_)⟩
            refine ⟨_, rfl, _, rfl, _, _, rfl, rfl, (by omega), _, _, rfl, rfl, _, rfl, ifn (fun h2 => hit fun c => h2 c.2.1) (fun h2 => ?_)⟩
            refine ⟨_, rfl, _, rfl, _, _, rfl, rfl, (by omega), _, _, rfl, rfl, _, rfl, ifn (fun h3 => hit fun c => h3 c.2.2) (fun h3 => ?_)⟩
            refine ⟨rfl, _, rfl, fun z hz2 => ?_⟩
            rcases mem_take_succ hz hz2 with h4 | h4
            · exact no3 z h4
            · rw [h4]
              exact ⟨h1, h2, h3⟩
          · rintro σ _ ⟨rfl, vz, rfl, no3⟩
            refine ⟨_, _, rfl, e4, fun y' z hy' hz he => ?_⟩
            by_cases ey : y' = y
            · subst ey
              refine no3 z ?_
              rw [List.length_map, List.take_length]
              exact zsq_mem.mpr ⟨z, hz, rfl, he⟩
            · exact no2 y' z (by omega) hz he
        · rintro σ H3 ⟨vz, vy, rfl, e3, no2⟩
          refine ⟨_, _, _, rfl, e3, fun x' y z hx' hy hz he => ?_⟩
          by_cases ex : x' = x
          · subst ex
            exact no2 y z hy hz he
          · exact no x' y z (by omega) hy hz he
      · rintro σ H2 ⟨vz, vx, vy, rfl, e2, no⟩
        refine q false _ ⟨fun z => Bool.noConfusion z, fun ⟨x, y, z, hx, hy, hz, he, hn⟩ => ?_⟩ (e1.trans e2)
        rw [hPg] at hx hy hz
        exact absurd (no x y z hx hy hz he) hn
end
end Sf

namespace Sf
open PySem PySem.Spec PyProof.Rows L2
theorem strip_exists {n p : Int} (hn : n ≠ 0) (hp : 2 ≤ p) : ∃ (m : Nat) (u : Int), Strip n p m u := by
  generalize hN : n.natAbs = N
  induction N using Nat.strongRecOn generalizing n with
  | ind N ih =>
    by_cases h : n % p = 0
    · obtain ⟨l1, l2, l3⟩ := strip_less hn hp h
      obtain ⟨m, u, e, hu⟩ := ih _ (by omega) l2 rfl
      refine ⟨m + 1, u, ?_, hu⟩
      rw [Int.pow_succ, Int.mul_comm (p ^ m) p, Int.mul_assoc, ← e]
      exact l3
    · exact ⟨0, n, by rw [Int.pow_zero, Int.one_mul], h⟩
theorem odd_sq8 {w : Int} (h : w % 2 ≠ 0) : w * w % 8 = 1 := by
  have h1 : w % 8 = 1 ∨ w % 8 = 3 ∨ w % 8 = 5 ∨ w % 8 = 7 := by omega
  rw [Int.mul_emod]
  rcases h1 with e | e | e | e <;> rw [e] <;> decide
/-- the same unit, up to what the sign sees -/
def Alike (p u v : Int) : Prop := if p = 2 then u % 8 = v % 8 else restSign u p = restSign v p
theorem half_par {u v : Int} (h : u % 8 = v % 8) : ((u - 1) / 2) % 2 = ((v - 1) / 2) % 2 := by omega
theorem w_par {u v : Int} (h : u % 8 = v % 8) : ((u * u - 1) / 8) % 2 = ((v * v - 1) / 8) % 2 := by
  have e : u = v + 8 * ((u - v) / 8) := by omega
  generalize (u - v) / 8 = k at e
  have e2 : u * u = v * v + 16 * (v * k + 4 * (k * k)) := by rw [e]; grind
  omega
theorem par_mul (a b c d : Int) (h1 : a % 2 = c % 2) (h2 : b % 2 = d % 2) : (a * b) % 2 = (c * d) % 2 := by
  rw [Int.mul_emod, h1, h2, ← Int.mul_emod]
theorem sgn_congr {p : Int} {s t s' t' : Nat} {u v u' v' : Int} (hs : s % 2 = s' % 2) (ht : t % 2 = t' % 2) (hu : Alike p u u') (hv : Alike p v v') : sgnAt p s t u v = sgnAt p s' t' u' v' := by
  unfold sgnAt
  unfold Alike at hu hv
  by_cases h : p = 2
  · rw [if_pos h] at hu hv ⊢
    rw [if_pos h]
    have h1 := par_mul _ _ _ _ (half_par hu) (half_par hv)
    have h2 := par_mul (s : Int) ((v * v - 1) / 8) (s' : Int) ((v' * v' - 1) / 8) (by omega) (w_par hv)
    have h3 := par_mul (t : Int) ((u * u - 1) / 8) (t' : Int) ((u' * u' - 1) / 8) (by omega) (w_par hu)
    have e : ((u - 1) / 2 * ((v - 1) / 2) + s * ((v * v - 1) / 8) + t * ((u * u - 1) / 8)) % 2 = ((u' - 1) / 2 * ((v' - 1) / 2) + s' * ((v' * v' - 1) / 8) + t' * ((u' * u' - 1) / 8)) % 2 := by omega
    rw [e]
  · rw [if_neg h] at hu hv ⊢
    rw [if_neg h, hu, hv, hs, ht, Nat.mul_mod s t, hs, ht, ← Nat.mul_mod]
theorem rest_unit {w p : Int} (h : w % p ≠ 0) : restSign w p * restSign w p = 1 := by
  unfold restSign
  rw [if_neg h]
  split
  · split <;> decide
  · split <;> decide
theorem alike_sq {p u w : Int} (hp : PrP p) (he : p = 2 ∨ ∃ q : Nat, p = q ∧ 3 ≤ q ∧ euler q = true) (hw : w % p ≠ 0) : Alike p (u * (w * w)) u := by
  unfold Alike
  by_cases h : p = 2
  · rw [if_pos h, Int.mul_emod, odd_sq8 (by rw [← h]; exact hw), Int.mul_one, Int.emod_emod_of_dvd _ (Int.dvd_refl _)]
  · rw [if_neg h]
    obtain ⟨q, rfl, h3, e⟩ := he.resolve_left h
    rw [sign_mul h3 e hp, sign_mul h3 e hp, rest_unit hw, Int.mul_one]
theorem strip_sq {p n m k u u' : Int} {s s' : Nat} (hp : PrP p) (hk : k ≠ 0) (e : n = m * (k * k)) (h : Strip n p s u) (h' : Strip m p s' u') : ∃ w : Int, w % p ≠ 0 ∧ u = u' * (w * w) ∧ s % 2 = s' % 2 := by
  obtain ⟨c, w, hw⟩ := strip_exists hk hp.1
  refine ⟨w, hw.2, ?_⟩
  have hs : Strip n p (s' + 2 * c) (u' * (w * w)) := by
    constructor
    · rw [e, h'.1, hw.1, Int.pow_add, Nat.two_mul, Int.pow_add]
      grind
    · intro z
      have d := Int.dvd_of_emod_eq_zero z
      rcases prime_mul hp d with d | d
      · exact h'.2 (Int.emod_eq_zero_of_dvd d)
      · rcases prime_mul hp d with d | d <;> exact hw.2 (Int.emod_eq_zero_of_dvd d)
  obtain ⟨e1, e2⟩ := strip_unique hp h hs
  exact ⟨e2, by omega⟩
theorem hsign_bare {a b a' b' p r : Int} (hp : PrP p) (he : p = 2 ∨ ∃ q : Nat, p = q ∧ 3 ≤ q ∧ euler q = true) (ha : ∃ k, k ≠ 0 ∧ a = a' * (k * k)) (hb : ∃ k, k ≠ 0 ∧ b = b' * (k * k)) (a0 : a' ≠ 0) (b0 : b' ≠ 0) (h : HSign a b p r) : HSign a' b' p r := by
  have p2 := hp.1
  rcases h with ⟨h0, _⟩ | ⟨h0, s, t, u, v, h1, h2, h3⟩
  · omega
  · obtain ⟨s', u', g1⟩ := strip_exists a0 p2
    obtain ⟨t', v', g2⟩ := strip_exists b0 p2
    obtain ⟨k, k0, e⟩ := ha
    obtain ⟨j, j0, f⟩ := hb
    obtain ⟨w, w0, w1, w2⟩ := strip_sq hp k0 e h1 g1
    obtain ⟨x, x0, x1, x2⟩ := strip_sq hp j0 f h2 g2
    refine .inr ⟨h0, s', t', u', v', g1, g2, ?_⟩
    rw [h3]
    exact sgn_congr w2 x2 (by rw [w1]; exact alike_sq hp he w0) (by rw [x1]; exact alike_sq hp he x0)
theorem rest_mod {n p : Int} (h : p ≠ 2) : restSign (n % p) p = restSign n p := by
  unfold restSign
  rw [Int.emod_emod_of_dvd _ (Int.dvd_refl p), if_neg h, if_neg h, pow_mod]
/-! ### the triples, by rests -/
def sOf (p A : Int) : Nat := if A % p = 0 then 1 else 0
def uOf (p A : Int) : Int := if A % p = 0 then A / p else A
theorem strip_rest {p P M m u : Int} {s : Nat} (hp : 2 ≤ p) (hP : P = p * p * M) (hM : 0 < M) (h2 : p = 2 → M = 8) (h : Strip m p s u) (hm : m % (p * p) ≠ 0) : s = sOf p (m % P) ∧ Alike p u (uOf p (m % P)) := by
  obtain ⟨e, hu⟩ := h
  have dP : p ∣ P := by rw [hP, Int.mul_assoc]; exact Int.dvd_mul_right _ _
  have hmp : m % P % p = m % p := Int.emod_emod_of_dvd _ dP
  have hs : s = 0 ∨ s = 1 := by
    rcases s with _ | _ | s
    · exact .inl rfl
    · exact .inr rfl
    · exfalso
      refine hm (Int.emod_eq_zero_of_dvd ⟨p ^ s * u, ?_⟩)
      rw [e, Int.pow_succ, Int.pow_succ]
      grind
  rcases hs with rfl | rfl
  · rw [Int.pow_zero, Int.one_mul] at e
    subst e
    have c : ¬ m % P % p = 0 := by rw [hmp]; exact hu
    unfold sOf uOf Alike
    rw [if_neg c, if_neg c]
    refine ⟨rfl, ?_⟩
    by_cases h : p = 2
    · rw [if_pos h]
      subst h
      rw [h2 rfl] at hP
      subst hP
      omega
    · rw [if_neg h, ← rest_mod h, ← rest_mod (n := m % P) h, hmp]
  · rw [Int.pow_succ, Int.pow_zero, Int.one_mul] at e
    have hP' : P = p * (p * M) := by rw [hP, Int.mul_assoc]
    have pM : 0 < p * M := Int.mul_pos (by omega) hM
    have em : m % P = p * (u % (p * M)) := by
      rw [e, hP']
      exact Int.mul_emod_mul_of_pos u (p * M) (by omega)
    have c : m % P % p = 0 := by
      rw [em]
      exact Int.mul_emod_right _ _
    unfold sOf uOf Alike
    rw [if_pos c, if_pos c]
    refine ⟨rfl, ?_⟩
    have eu : m % P / p = u % (p * M) := by
      rw [em]
      exact Int.mul_ediv_cancel_left _ (by omega)
    rw [eu]
    by_cases h : p = 2
    · rw [if_pos h]
      subst h
      rw [h2 rfl]
      omega
    · rw [if_neg h, ← rest_mod h, ← rest_mod (n := u % (p * M)) h, Int.emod_emod_of_dvd _ (Int.dvd_mul_right _ _)]
def triN (P : Nat) (S : List (Nat × Bool)) (m1 m2 A B : Nat) : Bool := S.any fun x => S.any fun y => (if (x.2 || y.2) = true then m1 else m2).testBit ((A * x.1 + B * y.1) % P)
def okSq (P p : Nat) (S : List (Nat × Bool)) (m1 m2 : Nat) : Bool :=
  ((List.range P).all fun x => S.contains (x * x % P, x % p != 0)) && (S.all fun q => (List.range P).any fun x => (x * x % P, x % p != 0) == q) &&
  ((List.range P).all fun r => (m1.testBit r == (List.range P).any fun z => z * z % P == r) && (m2.testBit r == (List.range P).any fun z => z * z % P == r && z % p != 0))
def okTri (P p : Nat) (S : List (Nat × Bool)) (m1 m2 : Nat) : Bool :=
  (List.range P).all fun A => A % (p * p) == 0 || ((List.range P).all fun B => B % (p * p) == 0 || (decide (sgnAt p (sOf p A) (sOf p B) (uOf p A) (uOf p B) = 1) == triN P S m1 m2 A B))
def sq32 : List (Nat × Bool) := [(0, false), (1, true), (4, false), (9, true), (16, false), (17, true), (25, true)]
def sq9 : List (Nat × Bool) := [(0, false), (1, true), (4, true), (7, true)]
def sq25 : List (Nat × Bool) := [(0, false), (1, true), (4, true), (9, true), (16, true), (11, true), (24, true), (14, true), (6, true), (21, true), (19, true)]
theorem ok32 : okSq 32 2 sq32 33751571 33686018 = true := by decide +kernel
theorem tri32 : okTri 32 2 sq32 33751571 33686018 = true := by decide +kernel
theorem ok9 : okSq 9 3 sq9 147 146 = true := by decide +kernel
theorem tri9 : okTri 9 3 sq9 147 146 = true := by decide +kernel
theorem ok25 : okSq 25 5 sq25 19483219 19483218 = true := by decide +kernel
theorem tri25 : okTri 25 5 sq25 19483219 19483218 = true := by decide +kernel
theorem tri_iff {P p : Nat} {S : List (Nat × Bool)} {m1 m2 : Nat} (h : okSq P p S m1 m2 = true) {A B : Nat} (P0 : 0 < P) :
    triN P S m1 m2 A B = true ↔ ∃ x y z : Nat, x < P ∧ y < P ∧ z < P ∧ z * z % P = (A * (x * x) + B * (y * y)) % P ∧ ¬ (x % p = 0 ∧ y % p = 0 ∧ z % p = 0) := by
  unfold okSq at h
  rw [Bool.and_eq_true, Bool.and_eq_true, List.all_eq_true, List.all_eq_true, List.all_eq_true] at h
  obtain ⟨⟨h1, h2⟩, h3⟩ := h
  have hm : ∀ r, r < P → ∀ z1 : Bool, (if z1 = true then m1 else m2).testBit r = true ↔ ∃ z, z < P ∧ z * z % P = r ∧ (z1 = false → z % p ≠ 0) := fun r hr z1 => by
    have h4 := h3 r (List.mem_range.mpr hr)
    rw [Bool.and_eq_true, beq_iff_eq, beq_iff_eq] at h4
    cases z1 with
    | true =>
      rw [if_pos rfl, h4.1, List.any_eq_true]
      constructor
      · rintro ⟨z, hz, e⟩
        exact ⟨z, List.mem_range.mp hz, eq_of_beq e, fun c => Bool.noConfusion c⟩
      · rintro ⟨z, hz, e, _⟩
        exact ⟨z, List.mem_range.mpr hz, by rw [e]; exact beq_self_eq_true r⟩
    | false =>
      rw [if_neg Bool.false_ne_true, h4.2, List.any_eq_true]
      constructor
      · rintro ⟨z, hz, e⟩
        rw [Bool.and_eq_true] at e
        exact ⟨z, List.mem_range.mp hz, eq_of_beq e.1, fun _ => by simpa using e.2⟩
      · rintro ⟨z, hz, e, n⟩
        exact ⟨z, List.mem_range.mpr hz, by rw [Bool.and_eq_true]; exact ⟨by rw [e]; exact beq_self_eq_true r, by simpa using n rfl⟩⟩
  unfold triN
  rw [List.any_eq_true]
  constructor
  · rintro ⟨qx, hx, e⟩
    obtain ⟨qy, hy, e⟩ := List.any_eq_true.mp e
    obtain ⟨x, x1, x2⟩ := List.any_eq_true.mp (h2 qx hx)
    obtain ⟨y, y1, y2⟩ := List.any_eq_true.mp (h2 qy hy)
    have x3 := eq_of_beq x2
    have y3 := eq_of_beq y2
    obtain ⟨z, z1, z2, z3⟩ := (hm _ (Nat.mod_lt _ P0) _).mp e
    refine ⟨x, y, z, List.mem_range.mp x1, List.mem_range.mp y1, z1, ?_, fun ⟨c1, c2, c3⟩ => ?_⟩
    · rw [z2, ← x3, ← y3]
      show (A * (x * x % P) + B * (y * y % P)) % P = _
      rw [Nat.add_mod, Nat.mul_mod_mod, Nat.mul_mod_mod, ← Nat.add_mod]
    · refine z3 ?_ c3
      rw [← x3, ← y3]
      show (x % p != 0 || y % p != 0) = false
      rw [c1, c2]
      rfl
  · rintro ⟨x, y, z, x1, y1, z1, e, hn⟩
    have hx := h1 x (List.mem_range.mpr x1)
    have hy := h1 y (List.mem_range.mpr y1)
    refine ⟨_, List.contains_iff_mem.mp hx, List.any_eq_true.mpr ⟨_, List.contains_iff_mem.mp hy, ?_⟩⟩
    refine (hm _ (Nat.mod_lt _ P0) _).mpr ⟨z, z1, ?_, fun c c3 => hn ⟨?_, ?_, c3⟩⟩
    · rw [e]
      show _ = (A * (x * x % P) + B * (y * y % P)) % P
      rw [Nat.add_mod (A * (x * x % P)), Nat.mul_mod_mod, Nat.mul_mod_mod, ← Nat.add_mod]
    · have c' : (x % p != 0 || y % p != 0) = false := c
      rw [Bool.or_eq_false_iff] at c'
      simpa using c'.1
    · have c' : (x % p != 0 || y % p != 0) = false := c
      rw [Bool.or_eq_false_iff] at c'
      simpa using c'.2
theorem okTri_at {P p : Nat} {S : List (Nat × Bool)} {m1 m2 : Nat} (h : okTri P p S m1 m2 = true) {A B : Nat} (hA : A < P) (hB : B < P) (a : A % (p * p) ≠ 0) (b : B % (p * p) ≠ 0) :
    sgnAt p (sOf p A) (sOf p B) (uOf p A) (uOf p B) = 1 ↔ triN P S m1 m2 A B = true := by
  have h1 := List.all_eq_true.mp h A (List.mem_range.mpr hA)
  rw [Bool.or_eq_true] at h1
  have h2 := List.all_eq_true.mp (h1.resolve_left (by simpa using a)) B (List.mem_range.mpr hB)
  rw [Bool.or_eq_true] at h2
  have h3 := h2.resolve_left (by simpa using b)
  rw [beq_iff_eq] at h3
  rw [← h3, decide_eq_true_iff]
theorem through_of {p P M : Nat} {S : List (Nat × Bool)} {m1 m2 : Nat} (hs : okSq P p S m1 m2 = true) (ht : okTri P p S m1 m2 = true) (hP : P = p * p * M) (hM : 0 < M) (hp : 2 ≤ p) (h2 : p = 2 → M = 8) (hpow : powAll p = P)
    {a b r : Int} (ha : a % ((p : Int) * p) ≠ 0) (hb : b % ((p : Int) * p) ≠ 0) (h : HSign a b p r) : r = 1 ↔ Through a b p := by
  rcases h with ⟨h0, _⟩ | ⟨h0, s, t, u, v, h1, h3, h4⟩
  · omega
  have P0 : 0 < P := by rw [hP]; exact Nat.mul_pos (Nat.mul_pos (by omega) (by omega)) hM
  have hPi : (P : Int) = (p : Int) * p * M := by rw [hP, Int.natCast_mul, Int.natCast_mul]
  obtain ⟨g1, g2⟩ := strip_rest (p := p) (P := P) (M := M) (by omega) hPi (by omega) (by intro e; have := h2 (by omega); omega) h1 ha
  obtain ⟨k1, k2⟩ := strip_rest (p := p) (P := P) (M := M) (by omega) hPi (by omega) (by intro e; have := h2 (by omega); omega) h3 hb
  have e1 := sgn_congr (p := p) (s := s) (t := t) (u := u) (v := v) (by rw [g1]) (by rw [k1]) g2 k2
  obtain ⟨A, hA, eA⟩ := emod_cast (n := a) P0
  obtain ⟨B, hB, eB⟩ := emod_cast (n := b) P0
  have dd : ((p : Int) * p) ∣ (P : Int) := by rw [hPi]; exact Int.dvd_mul_right _ _
  have cast : ∀ {n : Int} {N : Nat}, n % (P : Int) = N → n % ((p : Int) * p) ≠ 0 → N % (p * p) ≠ 0 := fun {n N} e h z => h (by
    rw [← Int.emod_emod_of_dvd n dd, e, ← Int.natCast_mul, ← Int.natCast_emod, z]; rfl)
  rw [h4, e1, eA, eB, okTri_at ht hA hB (cast eA ha) (cast eB hb), tri_iff hs P0]
  unfold Through
  rw [hpow, Int.toNat_natCast]
  have key : ∀ x y z : Nat, ((z : Int) * z % (P : Int) = (a * x * x + b * y * y) % (P : Int) ∧ ¬ ((x : Int) % p = 0 ∧ (y : Int) % p = 0 ∧ (z : Int) % p = 0)) ↔ (z * z % P = (A * (x * x) + B * (y * y)) % P ∧ ¬ (x % p = 0 ∧ y % p = 0 ∧ z % p = 0)) := fun x y z => by
    have f1 : (z : Int) * z % (P : Int) = ((z * z % P : Nat) : Int) := by rw [Int.natCast_emod, Int.natCast_mul]
    have f2 : (a * x * x + b * y * y) % (P : Int) = (((A * (x * x) + B * (y * y)) % P : Nat) : Int) := by
      have mm : ∀ n q : Int, n * q % (P : Int) = n % (P : Int) * q % (P : Int) := fun n q => by
        rw [Int.mul_emod n q, Int.mul_emod (n % (P : Int)) q, Int.emod_emod_of_dvd _ (Int.dvd_refl _)]
      rw [Int.natCast_emod, Int.natCast_add, Int.natCast_mul, Int.natCast_mul, Int.natCast_mul, Int.natCast_mul, ← eA, ← eB, Int.mul_assoc, Int.mul_assoc, Int.add_emod, mm a, mm b, ← Int.add_emod]
    have f3 : ∀ n : Nat, ((n : Int) % (p : Int) = 0) ↔ n % p = 0 := fun n => by
      rw [← Int.natCast_emod]
      exact Int.natCast_eq_zero
    rw [f1, f2, f3, f3, f3, Int.natCast_inj]
  constructor
  · rintro ⟨x, y, z, x1, y1, z1, e, hn⟩
    exact ⟨x, y, z, x1, y1, z1, (key x y z).mpr ⟨e, hn⟩⟩
  · rintro ⟨x, y, z, x1, y1, z1, e⟩
    exact ⟨x, y, z, x1, y1, z1, (key x y z).mp e⟩
theorem through_iff {p a b r : Int} (hp : p = 2 ∨ p = 3 ∨ p = 5) (ha : a % (p * p) ≠ 0) (hb : b % (p * p) ≠ 0) (h : HSign a b p r) : r = 1 ↔ Through a b p := by
  rcases hp with rfl | rfl | rfl
  · exact through_of (p := 2) (P := 32) (M := 8) ok32 tri32 rfl (by decide) (by decide) (fun _ => rfl) rfl ha hb h
  · exact through_of (p := 3) (P := 9) (M := 1) ok9 tri9 rfl (by decide) (by decide) (fun z => by cases z) rfl ha hb h
  · exact through_of (p := 5) (P := 25) (M := 1) ok25 tri25 rfl (by decide) (by decide) (fun z => by cases z) rfl ha hb h
end Sf

namespace Sf
open PySem PySem.Spec PyProof.Rows L2
theorem prp_dec {n : Int} (d : Nat) (h : decide (2 ≤ n ∧ 2 ≤ (d : Int) ∧ n < (d : Int) * d ∧ ∀ k : Nat, k < d → 2 ≤ k → n % (k : Int) ≠ 0) = true) : PrP n := by
  have z := of_decide_eq_true h
  refine prp_of_trial z.1 z.2.1 (fun k a b => ?_) z.2.2.1
  have e : k = (k.toNat : Int) := by omega
  rw [e]
  exact z.2.2.2 k.toNat (by omega) (by omega)
theorem place_ok : ∀ p : Int, p ∈ [(0 : Int), 2, 3, 5, 7] → (p = 0 ∨ PrP p ∧ p ≤ 1000000000) ∧ (p = 0 ∨ p = 2 ∨ ∃ q : Nat, p = q ∧ 3 ≤ q ∧ q ≤ 1000 ∧ euler q = true) := by
  intro p hp
  have cases : p = 0 ∨ p = 2 ∨ p = 3 ∨ p = 5 ∨ p = 7 := by simpa using hp
  rcases cases with e | e | e | e | e <;> subst e
  · exact ⟨.inl rfl, .inl rfl⟩
  · exact ⟨.inr ⟨prp_dec 2 (by decide +kernel), by decide⟩, .inr (.inl rfl)⟩
  · exact ⟨.inr ⟨prp_dec 2 (by decide +kernel), by decide⟩, .inr (.inr ⟨3, rfl, by decide, by decide, by decide +kernel⟩)⟩
  · exact ⟨.inr ⟨prp_dec 3 (by decide +kernel), by decide⟩, .inr (.inr ⟨5, rfl, by decide, by decide, by decide +kernel⟩)⟩
  · exact ⟨.inr ⟨prp_dec 3 (by decide +kernel), by decide⟩, .inr (.inr ⟨7, rfl, by decide, by decide, by decide +kernel⟩)⟩
theorem hsign_at {p : Int} (p0 : p ≠ 0) (s t : Nat) {a b u v r : Int} (h : decide (a = p ^ s * u ∧ u % p ≠ 0 ∧ b = p ^ t * v ∧ v % p ≠ 0 ∧ r = sgnAt p s t u v) = true) : HSign a b p r := by
  obtain ⟨h1, h2, h3, h4, h5⟩ := of_decide_eq_true h
  exact .inr ⟨p0, s, t, u, v, ⟨h1, h2⟩, ⟨h3, h4⟩, h5⟩
section
variable {P : Program} {w : World} {K : PySem.W.Frag} {mg : Str → Option Value} {base : Heap} {f : Addr} {fd : FuncData}
def spLaw (K : PySem.W.Frag) : Sp := fun vs H Q _ => ∃ (a : Addr) (ns : List Int), vs = [.ref a] ∧ SqL K H a (ns.map V.int) ∧ ns.length ≤ 63 ∧ ∀ H', Q (.bl true) H'
set_option maxHeartbeats 16000000 in
theorem ok_law (F : FnD K "law" "law" s_L_law f fd) (T : Glob mg) (C_L_sack : Cal P w K mg base 1 "_law_sack" ["_law_script", "_law_turn"] (spSack K)) (C_L_one_of : Cal P w K mg base 2 "_law_one_of" ["_law_sack_here", "_law_items"] (spOneOf K))
    (C_L_number : Cal P w K mg base 3 "_law_number" ["_law_sack_here"] (spNum 10 78732)) (C_L_own_sign : Cal P w K mg base 2 "_law_own_sign" ["_law_a", "_law_b", "_law_place"] spOwn) (C_L_bare : Cal P w K mg base 1 "_law_bare" ["_law_number_here"] spBare)
    (C_L_through_all : Cal P w K mg base 1 "_law_through_all" ["_law_a", "_law_b", "_law_prime"] spThrough) (C_P_sign_at : Cal P w K mg base 5 "sign_at" ["a", "b", "place"] spSign) :
    FnOk P w K mg base CX0 6 f fd ["_law_script"] (spLaw K) := by
  refine F.ok sc_L_law (fun vs H Q E h => ?_) (fun cdv A outer s H vs Q E hr h => ?_)
  · obtain ⟨a, ns, rfl, _⟩ := h; rfl
  · obtain ⟨a, ns, rfl, hS, hl, q⟩ := h
    refine ⟨_, PSs.nox (pss_cons (ps_for PassesOwn.never rfl (pi_range1 (by rfl) T.m_range (pa_cons (pe_callB (call_max2 rfl) (by rfl) T.m_max (by decide +kernel) (pa_cons pe_int (pa_cons (pe_callB (call_min2 rfl) (by rfl) T.m_min (by decide +kernel) (pa_cons pe_int (pa_cons (pe_callB call_len_seq (by rfl) T.m_len (by decide +kernel) (pa_cons (pv 0) pa_nil)) pa_nil))) pa_nil))) pa_nil)) (pg_name (i := 1) sc_L_law.nd rfl (Or.inl rfl)) (pss_cons (ps_set (i := 2) sc_L_law.nd rfl (Or.inl rfl) (pe_cal C_L_sack (hr.mono (by decide)) (pa_cons (pv 0) (pa_cons (pv 1) pa_nil))))
      (pss_cons (ps_par (i := 3) (j := 4) (by rfl) sc_L_law.nd rfl rfl (by decide) rfl rfl (pa_cons (pe_cal C_L_number (hr.mono (by decide)) (pa_cons (pv 2) pa_nil)) (pa_cons (pe_cal C_L_number (hr.mono (by decide)) (pa_cons (pv 2) pa_nil)) pa_nil)) (by rfl))
      (pss_cons (ps_for PassesOwn.never rfl (pi_tup (pe_tup (pa_cons pe_int (pa_cons pe_int (pa_cons pe_int (pa_cons pe_int (pa_cons pe_int pa_nil))))))) (pg_name (i := 5) sc_L_law.nd rfl (Or.inl rfl)) (pss_one (ps_if (PW.pt (pw_or (pt_cmp (pc_neI (pe_cal C_P_sign_at (hr.mono (by decide)) (pa_cons (pv 3) (pa_cons (pv 4) (pa_cons (pv 5) pa_nil)))) (pe_cal C_L_own_sign (hr.mono (by decide)) (pa_cons (pv 3) (pa_cons (pv 4) (pa_cons (pv 5) pa_nil)))))) (pw_or1 (pt_cmp (pc_neI (pe_cal C_P_sign_at (hr.mono (by decide)) (pa_cons (pv 4) (pa_cons (pv 3) (pa_cons (pv 5) pa_nil)))) (pe_cal C_P_sign_at (hr.mono (by decide)) (pa_cons (pv 3) (pa_cons (pv 4) (pa_cons (pv 5) pa_nil))))))))) (pss_one (ps_ret pe_bl)) pss_nil)))
      (pss_cons (ps_set (i := 6) sc_L_law.nd rfl (Or.inl rfl) (pe_cal C_L_one_of (hr.mono (by decide)) (pa_cons (pv 2) (pa_cons (pe_lst (pa_cons pe_int (pa_cons pe_int (pa_cons pe_int (pa_cons pe_int pa_nil))))) pa_nil))))
      (pss_one (ps_if (pt_cmpR op_ne (pe_cmp (pc_eqI (pe_cal C_P_sign_at (hr.mono (by decide)) (pa_cons (pv 3) (pa_cons (pv 4) (pa_cons (pv 6) pa_nil)))) pe_int) rfl) (pe_cal C_L_through_all (hr.mono (by decide)) (pa_cons (pe_cal C_L_bare (hr.mono (by decide)) (pa_cons (pv 3) pa_nil)) (pa_cons (pe_cal C_L_bare (hr.mono (by decide)) (pa_cons (pv 4) pa_nil)) (pa_cons (pv 6) pa_nil)))) (nomark _)) (pss_one (ps_ret pe_bl)) pss_nil)))))))
      (pss_one (ps_ret (pe_cmpR (op_eqD hr.units) (pe_lst (pa_cons (pe_cal C_P_sign_at (hr.mono (by decide)) (pa_cons pe_int (pa_cons pe_int (pa_cons pe_int pa_nil)))) (pa_cons (pe_cal C_P_sign_at (hr.mono (by decide)) (pa_cons pe_int (pa_cons pe_int (pa_cons pe_int pa_nil)))) (pa_cons (pe_cal C_P_sign_at (hr.mono (by decide)) (pa_cons (pe_un un_neg pe_int) (pa_cons (pe_un un_neg pe_int) (pa_cons pe_int pa_nil)))) (pa_cons (pe_cal C_P_sign_at (hr.mono (by decide)) (pa_cons (pe_un un_neg pe_int) (pa_cons (pe_un un_neg pe_int) (pa_cons pe_int pa_nil)))) (pa_cons (pe_cal C_P_sign_at (hr.mono (by decide)) (pa_cons pe_int (pa_cons pe_int (pa_cons pe_int pa_nil)))) pa_nil)))))) (pe_lst (pa_cons pe_int (pa_cons (pe_un un_neg pe_int) (pa_cons (pe_un un_neg pe_int) (pa_cons (pe_un un_neg pe_int) (pa_cons (pe_un un_neg pe_int) pa_nil)))))) (nomark _))))), ?_⟩
    have hT : ∀ n : Nat, ∃ t : Nat, (if (if (n : Int) < 2 then (n : Int) else 2) > 1 then (if (n : Int) < 2 then (n : Int) else 2) else 1) = (t : Int) ∧ t ≤ 2 := fun n => by
      by_cases c : n < 2
      · by_cases c2 : n > 1
        · exact ⟨n, by rw [if_pos (by omega : (n : Int) < 2), if_pos (by omega)], by omega⟩
        · exact ⟨1, by rw [if_pos (by omega : (n : Int) < 2), if_neg (by omega)]; rfl, by omega⟩
      · exact ⟨2, by rw [if_neg (by omega : ¬ (n : Int) < 2), if_pos (by decide)]; rfl, by omega⟩
    obtain ⟨t, et, ht⟩ := hT (ns.map V.int).length
    refine ⟨_, rfl, a, _, rfl, .inl hS, _, _, rfl, _, _, rfl, (t : Int), ?_, by omega, by omega, ?_⟩
    · rw [← et]
    refine for_range (lo := 0) (n := t) (fun i σ H' => ∃ v1 v2 v3 v4 v5 v6, σ = [some (.ref a), v1, v2, v3, v4, v5, v6] ∧ Same H H') ⟨none, none, none, none, none, none, rfl, Same.refl H⟩ ?_ ?_
    · rintro i σ H0 hi ⟨v1, v2, v3, v4, v5, v6, rfl, hs0⟩
      refine ⟨_, rfl, _, rfl, a, ns, i, by rw [Int.zero_add]; rfl, hs0.seq hS, hl, by omega, fun p xs H1 e1 hpn hp1 hxs => ?_⟩
      have s1 : Sk p 0 H1 := ⟨xs, hp1, hxs⟩
      have k1 : Keep p H0 H1 := Keep.same e1
      refine ⟨_, rfl, ⟨p, 0, rfl, s1, by decide, fun x H2 x0 x1 k2 s2 => ⟨_, rfl, ⟨p, 10, rfl, s2, by decide, fun y H3 y0 y1 k3 s3 => ⟨_, _, rfl, ?_⟩⟩⟩⟩⟩
      have x1' : x.natAbs ≤ 78732 := x1
      have y1' : y.natAbs ≤ 78732 := y1
      have x9 : x.natAbs ≤ 1000000000 := by omega
      have y9 : y.natAbs ≤ 1000000000 := by omega
      refine ⟨(by show 5 ≤ sizeLine; decide), fun b hb => ?_⟩
      have hpl : ∀ H', Same (upd H3 b (.tup ([(0 : Int), 2, 3, 5, 7].map V.int))) H' → SqT K H' b ([(0 : Int), 2, 3, 5, 7].map V.int) := fun H' e => .inl (.inl (e _ _ upd_same))
      refine ⟨b, rfl, ⟨_, hpl _ (Same.refl _)⟩, for_tup (K := K) (a := b) (xs := [(0 : Int), 2, 3, 5, 7].map V.int) (fun j σ H' => ∃ v5, σ = [some (.ref a), some (.int (0 + (i : Int))), some (.ref p), some (.int x), some (.int y), v5, v6] ∧ Same (upd H3 b (.tup ([(0 : Int), 2, 3, 5, 7].map V.int))) H') ⟨v5, rfl, Same.refl _⟩ (fun j σ H' _ ⟨_, _, e⟩ => hpl _ e) ?_ ?_⟩
      · rintro j z σ H4 hj ⟨v5, rfl, e4⟩
        obtain ⟨pl, hz, rfl⟩ : ∃ z', z' ∈ [(0 : Int), 2, 3, 5, 7] ∧ z = V.int z' := by
          obtain ⟨z', h1, h2⟩ := List.mem_map.mp (List.mem_of_getElem? hj)
          exact ⟨z', h1, h2.symm⟩
        obtain ⟨c1, c2⟩ := place_ok pl hz
        have c3 : pl = 0 ∨ PrP pl := c1.elim .inl fun z => .inr z.1
        refine ⟨_, rfl, _, rfl, _, rfl, ⟨x, y, pl, rfl, x0, y0, x9, y9, c1, fun r1 H5 g1 e5 => ?_⟩⟩
        refine ⟨_, rfl, _, rfl, _, rfl, ⟨x, y, pl, rfl, x0, y0, x9, y9, c2, fun r2 H6 g2 e6 => ?_⟩⟩
        refine ⟨_, _, rfl, rfl, _, rfl, ifn (fun h => absurd (hsign_unique c3 g1 g2) h) (fun _ => ?_)⟩
        refine ⟨_, rfl, _, rfl, _, rfl, ⟨y, x, pl, rfl, y0, x0, y9, x9, c1, fun r3 H7 g3 e7 => ?_⟩⟩
        refine ⟨_, rfl, _, rfl, _, rfl, ⟨x, y, pl, rfl, x0, y0, x9, y9, c1, fun r4 H8 g4 e8 => ?_⟩⟩
        refine ⟨_, _, rfl, rfl, _, rfl, ifn (fun h => absurd (hsign_unique c3 (hsign_comm g3) g4) h) (fun _ => ?_)⟩
        exact ⟨_, rfl, (((e4.trans e5).trans e6).trans e7).trans e8⟩
      · rintro σ H4 ⟨v5, rfl, e4⟩
        have e34 : Same H3 H4 := (same_upd hb).trans e4
        have s4 : Sk p 20 H4 := s3.same e34
        refine ⟨_, rfl, (by show 4 ≤ sizeLine; decide), fun b2 hb2 => one_of_new s4 (by decide) hb2 (by show 1 ≤ 4; decide) (by show 4 ≤ 1000000; decide) fun v H5 hv k5 s5 => ?_⟩
        obtain ⟨pr, rfl, hpr⟩ : ∃ z : Int, v = .int z ∧ (z = 2 ∨ z = 3 ∨ z = 5) := by
          have cases : v = .int 2 ∨ v = .int 3 ∨ v = .int 5 ∨ v = .int 3 := by simpa using hv
          rcases cases with e | e | e | e <;> exact ⟨_, e, by decide⟩
        have hmem : pr ∈ [(0 : Int), 2, 3, 5, 7] := by
          rcases hpr with e | e | e <;> rw [e] <;> decide
        obtain ⟨c1, c2⟩ := place_ok pr hmem
        have p0 : pr ≠ 0 := by omega
        have c3 := (c1.resolve_left p0).1
        have c4 : pr = 2 ∨ ∃ q : Nat, pr = q ∧ 3 ≤ q ∧ euler q = true := by
          rcases c2.resolve_left p0 with e | ⟨q, e, a1, _, a2⟩
          · exact .inl e
          · exact .inr ⟨q, e, a1, a2⟩
        refine ⟨_, rfl, _, rfl, _, rfl, ⟨x, y, pr, rfl, x0, y0, x9, y9, c1, fun r1 H6 g1 e6 => ?_⟩⟩
        refine ⟨_, _, rfl, rfl, ?_⟩
        refine ⟨_, rfl, ⟨x, rfl, x0, x9, fun m H7 hm e7 => ⟨_, rfl, ⟨y, rfl, y0, y9, fun n H8 hn e8 => ⟨_, rfl, ⟨m, n, pr, rfl, Nat.le_trans hm.2.1 x9, Nat.le_trans hn.2.1 y9, hpr.elim .inl fun z => .inr (z.elim .inl fun z => .inr (.inl z)), fun r2 H9 g2 e9 => ?_⟩⟩⟩⟩⟩⟩
        obtain ⟨m0, _, ⟨k, hk⟩, m4⟩ := hm
        obtain ⟨n0, _, ⟨l, hl'⟩, n4⟩ := hn
        have k0 : k ≠ 0 := fun z => x0 (by rw [hk, z]; simp)
        have l0 : l ≠ 0 := fun z => y0 (by rw [hl', z]; simp)
        have pm : pr ∈ p2357 := by
          rcases hpr with e | e | e <;> rw [e] <;> decide
        have g3 := hsign_bare c3 c4 ⟨k, k0, hk⟩ ⟨l, l0, hl'⟩ m0 n0 g1
        have g4 := through_iff hpr (m4 _ pm) (n4 _ pm) g3
        have er : decide (r1 = 1) = r2 := by
          rw [Bool.eq_iff_iff, g2, ← g4, decide_eq_true_iff]
        subst er
        refine ⟨rfl, _, rfl, ?_⟩
        rw [decide_eq_true rfl]
        refine ⟨_, _, _, _, _, _, rfl, fun b' o e => ?_⟩
        have h0 := hs0 b' o e
        have nb : b' ≠ p := ne_of_none h0 hpn
        have k9 : Keep p H0 H9 := (((((((k1.trans k2).trans k3).trans (Keep.same e34)).trans k5).trans (Keep.same e6)).trans (Keep.same e7)).trans (Keep.same e8)).trans (Keep.same e9)
        exact k9 _ _ h0 nb
    · rintro σ H0 ⟨v1, v2, v3, v4, v5, v6, rfl, hs0⟩
      have pl3 := place_ok 3 (by decide)
      have pl7 := place_ok 7 (by decide)
      have pl2 := place_ok 2 (by decide)
      refine ⟨⟨3, 7, 3, rfl, by decide, by decide, by decide, by decide, pl3.1, fun r1 H1 g1 e1 => ?_⟩⟩
      refine ⟨⟨3, 7, 7, rfl, by decide, by decide, by decide, by decide, pl7.1, fun r2 H2 g2 e2 => ?_⟩⟩
      refine ⟨1, rfl, 1, rfl, ⟨-1, -1, 0, rfl, by decide, by decide, by decide, by decide, .inl rfl, fun r3 H3 g3 e3 => ?_⟩⟩
      refine ⟨1, rfl, 1, rfl, ⟨-1, -1, 2, rfl, by decide, by decide, by decide, by decide, pl2.1, fun r4 H4 g4 e4 => ?_⟩⟩
      refine ⟨⟨2, 5, 2, rfl, by decide, by decide, by decide, by decide, pl2.1, fun r5 H5 g5 e5 => ?_⟩⟩
      have q1 : r1 = 1 := hsign_unique (.inr (pl3.1.resolve_left (by decide)).1) g1 (hsign_at (by decide) 1 0 (u := 1) (v := 7) (by decide +kernel))
      have q2 : r2 = -1 := hsign_unique (.inr (pl7.1.resolve_left (by decide)).1) g2 (hsign_at (by decide) 0 1 (u := 3) (v := 1) (by decide +kernel))
      have q3 : r3 = -1 := hsign_unique (.inl rfl) g3 (.inl ⟨rfl, by decide⟩)
      have q4 : r4 = -1 := hsign_unique (.inr (pl2.1.resolve_left (by decide)).1) g4 (hsign_at (by decide) 0 0 (u := -1) (v := -1) (by decide +kernel))
      have q5 : r5 = -1 := hsign_unique (.inr (pl2.1.resolve_left (by decide)).1) g5 (hsign_at (by decide) 1 0 (u := 1) (v := 5) (by decide +kernel))
      subst q1 q2 q3 q4 q5
      refine ⟨(by show 5 ≤ sizeLine; decide), fun L1 hL1 => ?_⟩
      refine ⟨1, rfl, 1, rfl, 1, rfl, 1, rfl, (by show 5 ≤ sizeLine; decide), fun M1 hM1 => ?_⟩
      have n1 : L1 ≠ M1 := ne_of_none (H := upd H5 L1 _) upd_same hM1
      refine ⟨.list ([1, -1, -1, -1, -1].map PyData.int), .list ([1, -1, -1, -1, -1].map PyData.int), dp_list (ns := [1, -1, -1, -1, -1]) (SqL.of (by rw [upd_ne n1]; exact upd_same)), dp_list (ns := [1, -1, -1, -1, -1]) (SqL.of upd_same), shp_list _, shp_list _, ?_⟩
      rw [show PyData.eqv (.list ([1, -1, -1, -1, -1].map PyData.int)) (.list ([1, -1, -1, -1, -1].map PyData.int)) = true by decide +kernel]
      exact q _
end
end Sf

namespace Sf
open PySem PySem.Spec PyProof.Rows L2
def d_L_sack : He.DefD := ⟨("_law_sack", none), "_law_sack", "_law_sack", defArgs s_L_sack, defBody s_L_sack, defScope s_L_sack, [], []⟩
def d_L_take : He.DefD := ⟨("_law_take", none), "_law_take", "_law_take", defArgs s_L_take, defBody s_L_take, defScope s_L_take, [], []⟩
def d_L_one_of : He.DefD := ⟨("_law_one_of", none), "_law_one_of", "_law_one_of", defArgs s_L_one_of, defBody s_L_one_of, defScope s_L_one_of, [], []⟩
def d_L_number : He.DefD := ⟨("_law_number", none), "_law_number", "_law_number", defArgs s_L_number, defBody s_L_number, defScope s_L_number, [], []⟩
def d_L_parted : He.DefD := ⟨("_law_parted", none), "_law_parted", "_law_parted", defArgs s_L_parted, defBody s_L_parted, defScope s_L_parted, [], []⟩
def d_L_sign : He.DefD := ⟨("_law_sign", none), "_law_sign", "_law_sign", defArgs s_L_sign, defBody s_L_sign, defScope s_L_sign, [], []⟩
def d_L_own_sign : He.DefD := ⟨("_law_own_sign", none), "_law_own_sign", "_law_own_sign", defArgs s_L_own_sign, defBody s_L_own_sign, defScope s_L_own_sign, [], []⟩
def d_L_bare : He.DefD := ⟨("_law_bare", none), "_law_bare", "_law_bare", defArgs s_L_bare, defBody s_L_bare, defScope s_L_bare, [], []⟩
def d_L_through_all : He.DefD := ⟨("_law_through_all", none), "_law_through_all", "_law_through_all", defArgs s_L_through_all, defBody s_L_through_all, defScope s_L_through_all, [], []⟩
def d_P_is_integer : He.DefD := ⟨("is_integer", none), "is_integer", "is_integer", defArgs s_P_is_integer, defBody s_P_is_integer, defScope s_P_is_integer, [], []⟩
def d_P_check_number : He.DefD := ⟨("check_number", none), "check_number", "check_number", defArgs s_P_check_number, defBody s_P_check_number, defScope s_P_check_number, [], []⟩
def d_P_next_divisor : He.DefD := ⟨("next_divisor", none), "next_divisor", "next_divisor", defArgs s_P_next_divisor, defBody s_P_next_divisor, defScope s_P_next_divisor, [], []⟩
def d_P_is_prime : He.DefD := ⟨("is_prime", none), "is_prime", "is_prime", defArgs s_P_is_prime, defBody s_P_is_prime, defScope s_P_is_prime, [], []⟩
def d_P_check_place : He.DefD := ⟨("check_place", none), "check_place", "check_place", defArgs s_P_check_place, defBody s_P_check_place, defScope s_P_check_place, [], []⟩
def d_P_stripped : He.DefD := ⟨("stripped", none), "stripped", "stripped", defArgs s_P_stripped, defBody s_P_stripped, defScope s_P_stripped, [], []⟩
def d_P_quarter : He.DefD := ⟨("quarter", none), "quarter", "quarter", defArgs s_P_quarter, defBody s_P_quarter, defScope s_P_quarter, [], []⟩
def d_P_eighth : He.DefD := ⟨("eighth", none), "eighth", "eighth", defArgs s_P_eighth, defBody s_P_eighth, defScope s_P_eighth, [], []⟩
def d_P_sign_at_two : He.DefD := ⟨("sign_at_two", none), "sign_at_two", "sign_at_two", defArgs s_P_sign_at_two, defBody s_P_sign_at_two, defScope s_P_sign_at_two, [], []⟩
def d_P_power_modulo : He.DefD := ⟨("power_modulo", none), "power_modulo", "power_modulo", defArgs s_P_power_modulo, defBody s_P_power_modulo, defScope s_P_power_modulo, [], []⟩
def d_P_rest_sign : He.DefD := ⟨("rest_sign", none), "rest_sign", "rest_sign", defArgs s_P_rest_sign, defBody s_P_rest_sign, defScope s_P_rest_sign, [], []⟩
def d_P_sign_at_odd : He.DefD := ⟨("sign_at_odd", none), "sign_at_odd", "sign_at_odd", defArgs s_P_sign_at_odd, defBody s_P_sign_at_odd, defScope s_P_sign_at_odd, [], []⟩
def d_P_sign : He.DefD := ⟨("sign", none), "sign", "sign", defArgs s_P_sign, defBody s_P_sign, defScope s_P_sign, [], []⟩
def d_P_sign_at : He.DefD := ⟨("sign_at", none), "sign_at", "sign_at", defArgs s_P_sign_at, defBody s_P_sign_at, defScope s_P_sign_at, [], []⟩
def d_L_law : He.DefD := ⟨("law", none), "law", "law", defArgs s_L_law, defBody s_L_law, defScope s_L_law, [], []⟩
def fn : List He.DefD := [d_L_sack, d_L_take, d_L_one_of, d_L_number, d_L_parted, d_L_sign, d_L_own_sign, d_L_bare, d_L_through_all, d_P_is_integer, d_P_check_number, d_P_next_divisor, d_P_is_prime, d_P_check_place, d_P_stripped, d_P_quarter, d_P_eighth, d_P_sign_at_two, d_P_power_modulo, d_P_rest_sign, d_P_sign_at_odd, d_P_sign, d_P_sign_at, d_L_law]
def fa : List He.Fa := [.glo "_law_sack", .glo "_law_take", .glo "_law_one_of", .glo "_law_number", .glo "_law_parted", .glo "_law_sign", .glo "_law_own_sign", .glo "_law_bare", .glo "_law_through_all", .glo "is_integer", .glo "check_number", .glo "next_divisor", .glo "is_prime", .glo "check_place", .glo "stripped", .glo "quarter", .glo "eighth", .glo "sign_at_two", .glo "power_modulo", .glo "rest_sign", .glo "sign_at_odd", .glo "sign", .glo "sign_at", .glo "law", .free "isinstance", .free "int", .free "bool", .free "abs", .free "max", .free "len", .free "sum", .free "range", .free "min", .int "MAX_NUMBER" 1000000000]
abbrev R : PySem.W.OpenRow := PySem.W.OpenLaw.row PySem.Challenge.rw_signfours_k03_whole_signs_by_local_looks
abbrev hk : PySem.W.Hook := He.hookD 4 fa fn
def ob (s : PySem.W.SharedT) : He.AlD := He.obsDG 4 fa fn (HandSHeadRun.getT s)
theorem ob_eq (s : PySem.W.SharedT) : ob s = hk.obs s.abs := He.obsDG_eq (HandSHeadRun.getT_eq s)
def loose : List Str := (["is_integer", "InvalidNumber", "MAX_NUMBER", "is_prime", "check_number", "next_divisor", "stripped", "rest_sign", "power_modulo", "sign_at", "check_place", "sign", "sign_at_two", "quarter", "eighth", "sign_at_odd", "_law_sack", "_law_take", "_law_one_of", "_law_is_prime", "_law_sign", "_law_parted", "_law_own_sign", "_law_bare", "_law_through_all", "_law_number"] : List Str)
set_option maxHeartbeats 0 in
theorem run (w : World) : HandSHeadRun.RunEq R (PySem.W.view R.prog [31]) hk ob 6000 loose w := by
  intro os
  kernel_rfl
theorem facts {P : Program} {w : World} {K : PySem.W.Frag} {h : Heap} {mg : Str → Option Value} {f : Addr} (X : K.In h) (G : h.Ns mainGlobals mg) (hfa : mg ("law" : Str) = some (.ref f)) (c : He.SaysD fa fn K) :
    ∃ fd : FuncData, (∀ (s : Shared) (v : Value), BindsTo s fd ⟨[v], []⟩ [("_law_script", v)]) ∧ ∀ base : Heap, K.In base → base.Ns mainGlobals mg → FnOk P w K mg base CX0 6 f fd ["_law_script"] (spLaw K) := by
  obtain ⟨fd_L_sack, F_L_sack⟩ := c.def_ 0 (d := d_L_sack) rfl
  have g_L_sack := He.glo_ok X G (c.fact 0 (f := .glo "_law_sack") rfl)
  obtain ⟨fd_L_take, F_L_take⟩ := c.def_ 1 (d := d_L_take) rfl
  have g_L_take := He.glo_ok X G (c.fact 1 (f := .glo "_law_take") rfl)
  obtain ⟨fd_L_one_of, F_L_one_of⟩ := c.def_ 2 (d := d_L_one_of) rfl
  have g_L_one_of := He.glo_ok X G (c.fact 2 (f := .glo "_law_one_of") rfl)
  obtain ⟨fd_L_number, F_L_number⟩ := c.def_ 3 (d := d_L_number) rfl
  have g_L_number := He.glo_ok X G (c.fact 3 (f := .glo "_law_number") rfl)
  obtain ⟨fd_L_parted, F_L_parted⟩ := c.def_ 4 (d := d_L_parted) rfl
  have g_L_parted := He.glo_ok X G (c.fact 4 (f := .glo "_law_parted") rfl)
  obtain ⟨fd_L_sign, F_L_sign⟩ := c.def_ 5 (d := d_L_sign) rfl
  have g_L_sign := He.glo_ok X G (c.fact 5 (f := .glo "_law_sign") rfl)
  obtain ⟨fd_L_own_sign, F_L_own_sign⟩ := c.def_ 6 (d := d_L_own_sign) rfl
  have g_L_own_sign := He.glo_ok X G (c.fact 6 (f := .glo "_law_own_sign") rfl)
  obtain ⟨fd_L_bare, F_L_bare⟩ := c.def_ 7 (d := d_L_bare) rfl
  have g_L_bare := He.glo_ok X G (c.fact 7 (f := .glo "_law_bare") rfl)
  obtain ⟨fd_L_through_all, F_L_through_all⟩ := c.def_ 8 (d := d_L_through_all) rfl
  have g_L_through_all := He.glo_ok X G (c.fact 8 (f := .glo "_law_through_all") rfl)
  obtain ⟨fd_P_is_integer, F_P_is_integer⟩ := c.def_ 9 (d := d_P_is_integer) rfl
  have g_P_is_integer := He.glo_ok X G (c.fact 9 (f := .glo "is_integer") rfl)
  obtain ⟨fd_P_check_number, F_P_check_number⟩ := c.def_ 10 (d := d_P_check_number) rfl
  have g_P_check_number := He.glo_ok X G (c.fact 10 (f := .glo "check_number") rfl)
  obtain ⟨fd_P_next_divisor, F_P_next_divisor⟩ := c.def_ 11 (d := d_P_next_divisor) rfl
  have g_P_next_divisor := He.glo_ok X G (c.fact 11 (f := .glo "next_divisor") rfl)
  obtain ⟨fd_P_is_prime, F_P_is_prime⟩ := c.def_ 12 (d := d_P_is_prime) rfl
  have g_P_is_prime := He.glo_ok X G (c.fact 12 (f := .glo "is_prime") rfl)
  obtain ⟨fd_P_check_place, F_P_check_place⟩ := c.def_ 13 (d := d_P_check_place) rfl
  have g_P_check_place := He.glo_ok X G (c.fact 13 (f := .glo "check_place") rfl)
  obtain ⟨fd_P_stripped, F_P_stripped⟩ := c.def_ 14 (d := d_P_stripped) rfl
  have g_P_stripped := He.glo_ok X G (c.fact 14 (f := .glo "stripped") rfl)
  obtain ⟨fd_P_quarter, F_P_quarter⟩ := c.def_ 15 (d := d_P_quarter) rfl
  have g_P_quarter := He.glo_ok X G (c.fact 15 (f := .glo "quarter") rfl)
  obtain ⟨fd_P_eighth, F_P_eighth⟩ := c.def_ 16 (d := d_P_eighth) rfl
  have g_P_eighth := He.glo_ok X G (c.fact 16 (f := .glo "eighth") rfl)
  obtain ⟨fd_P_sign_at_two, F_P_sign_at_two⟩ := c.def_ 17 (d := d_P_sign_at_two) rfl
  have g_P_sign_at_two := He.glo_ok X G (c.fact 17 (f := .glo "sign_at_two") rfl)
  obtain ⟨fd_P_power_modulo, F_P_power_modulo⟩ := c.def_ 18 (d := d_P_power_modulo) rfl
  have g_P_power_modulo := He.glo_ok X G (c.fact 18 (f := .glo "power_modulo") rfl)
  obtain ⟨fd_P_rest_sign, F_P_rest_sign⟩ := c.def_ 19 (d := d_P_rest_sign) rfl
  have g_P_rest_sign := He.glo_ok X G (c.fact 19 (f := .glo "rest_sign") rfl)
  obtain ⟨fd_P_sign_at_odd, F_P_sign_at_odd⟩ := c.def_ 20 (d := d_P_sign_at_odd) rfl
  have g_P_sign_at_odd := He.glo_ok X G (c.fact 20 (f := .glo "sign_at_odd") rfl)
  obtain ⟨fd_P_sign, F_P_sign⟩ := c.def_ 21 (d := d_P_sign) rfl
  have g_P_sign := He.glo_ok X G (c.fact 21 (f := .glo "sign") rfl)
  obtain ⟨fd_P_sign_at, F_P_sign_at⟩ := c.def_ 22 (d := d_P_sign_at) rfl
  have g_P_sign_at := He.glo_ok X G (c.fact 22 (f := .glo "sign_at") rfl)
  obtain ⟨fd_L_law, F_L_law⟩ := c.def_ 23 (d := d_L_law) rfl
  have g_L_law := He.glo_ok X G (c.fact 23 (f := .glo "law") rfl)
  have e := hfa.symm.trans g_L_law
  cases e
  have T : Glob mg := ⟨He.free_ok X G (c.fact 24 (f := .free "isinstance") rfl), He.free_ok X G (c.fact 25 (f := .free "int") rfl), He.free_ok X G (c.fact 26 (f := .free "bool") rfl), He.free_ok X G (c.fact 27 (f := .free "abs") rfl), He.free_ok X G (c.fact 28 (f := .free "max") rfl), He.free_ok X G (c.fact 29 (f := .free "len") rfl), He.free_ok X G (c.fact 30 (f := .free "sum") rfl), He.free_ok X G (c.fact 31 (f := .free "range") rfl), He.free_ok X G (c.fact 32 (f := .free "min") rfl), He.int_ok X G (c.fact 33 (f := .int "MAX_NUMBER" 1000000000) rfl)⟩
  have b := FunD.bindsA (ps := ["_law_script"]) F_L_law fun _ _ _ _ _ _ us hl => match us, hl with | [_], _ => rfl
  refine ⟨fd_L_law, fun s v => b s [v] rfl, fun base _ _ => ?_⟩
  have C_L_sack : Cal P w K mg base 1 "_law_sack" ["_law_script", "_law_turn"] (spSack K) := ⟨_, fd_L_sack, ok_sack F_L_sack T, g_L_sack, F_L_sack.kp, F_L_sack.bindsN fun _ _ _ _ _ _ us hl => match us, hl with | [_, _], _ => rfl⟩
  have C_L_take : Cal P w K mg base 1 "_law_take" ["_law_sack_here", "_law_many"] spTake := ⟨_, fd_L_take, ok_take F_L_take T, g_L_take, F_L_take.kp, F_L_take.bindsN fun _ _ _ _ _ _ us hl => match us, hl with | [_, _], _ => rfl⟩
  have C_L_one_of : Cal P w K mg base 2 "_law_one_of" ["_law_sack_here", "_law_items"] (spOneOf K) := ⟨_, fd_L_one_of, ok_one_of F_L_one_of T C_L_take, g_L_one_of, F_L_one_of.kp, F_L_one_of.bindsN fun _ _ _ _ _ _ us hl => match us, hl with | [_, _], _ => rfl⟩
  have C_L_number : Cal P w K mg base 3 "_law_number" ["_law_sack_here"] (spNum 10 78732) := ⟨_, fd_L_number, ok_number F_L_number T C_L_take C_L_one_of, g_L_number, F_L_number.kp, F_L_number.bindsN fun _ _ _ _ _ _ us hl => match us, hl with | [_], _ => rfl⟩
  have C_L_parted : Cal P w K mg base 1 "_law_parted" ["_law_number_here", "_law_prime"] spParted := ⟨_, fd_L_parted, ok_parted F_L_parted T, g_L_parted, F_L_parted.kp, F_L_parted.bindsN fun _ _ _ _ _ _ us hl => match us, hl with | [_, _], _ => rfl⟩
  have C_L_sign : Cal P w K mg base 1 "_law_sign" ["_law_number_here", "_law_prime"] spLSign := ⟨_, fd_L_sign, ok_l_sign F_L_sign T, g_L_sign, F_L_sign.kp, F_L_sign.bindsN fun _ _ _ _ _ _ us hl => match us, hl with | [_, _], _ => rfl⟩
  have C_L_own_sign : Cal P w K mg base 2 "_law_own_sign" ["_law_a", "_law_b", "_law_place"] spOwn := ⟨_, fd_L_own_sign, ok_own_sign F_L_own_sign C_L_parted C_L_sign, g_L_own_sign, F_L_own_sign.kp, F_L_own_sign.bindsN fun _ _ _ _ _ _ us hl => match us, hl with | [_, _, _], _ => rfl⟩
  have C_L_bare : Cal P w K mg base 1 "_law_bare" ["_law_number_here"] spBare := ⟨_, fd_L_bare, ok_bare F_L_bare T, g_L_bare, F_L_bare.kp, F_L_bare.bindsN fun _ _ _ _ _ _ us hl => match us, hl with | [_], _ => rfl⟩
  have C_L_through_all : Cal P w K mg base 1 "_law_through_all" ["_law_a", "_law_b", "_law_prime"] spThrough := ⟨_, fd_L_through_all, ok_through F_L_through_all T, g_L_through_all, F_L_through_all.kp, F_L_through_all.bindsN fun _ _ _ _ _ _ us hl => match us, hl with | [_, _, _], _ => rfl⟩
  have C_P_is_integer : Cal P w K mg base 1 "is_integer" ["value"] (spIsInt K) := ⟨_, fd_P_is_integer, ok_is_integer F_P_is_integer T, g_P_is_integer, F_P_is_integer.kp, F_P_is_integer.bindsN fun _ _ _ _ _ _ us hl => match us, hl with | [_], _ => rfl⟩
  have C_P_check_number : Cal P w K mg base 2 "check_number" ["value"] spCheckNumber := ⟨_, fd_P_check_number, ok_check_number F_P_check_number T C_P_is_integer, g_P_check_number, F_P_check_number.kp, F_P_check_number.bindsN fun _ _ _ _ _ _ us hl => match us, hl with | [_], _ => rfl⟩
  have C_P_next_divisor : Cal P w K mg base 1 "next_divisor" ["divisor"] spNext := ⟨_, fd_P_next_divisor, ok_next F_P_next_divisor , g_P_next_divisor, F_P_next_divisor.kp, F_P_next_divisor.bindsN fun _ _ _ _ _ _ us hl => match us, hl with | [_], _ => rfl⟩
  have C_P_is_prime : Cal P w K mg base 2 "is_prime" ["value"] (spIsPrime K) := ⟨_, fd_P_is_prime, ok_is_prime F_P_is_prime T C_P_is_integer C_P_next_divisor, g_P_is_prime, F_P_is_prime.kp, F_P_is_prime.bindsN fun _ _ _ _ _ _ us hl => match us, hl with | [_], _ => rfl⟩
  have C_P_check_place : Cal P w K mg base 3 "check_place" ["value"] spCheckPlace := ⟨_, fd_P_check_place, ok_check_place F_P_check_place C_P_is_prime C_P_is_integer, g_P_check_place, F_P_check_place.kp, F_P_check_place.bindsN fun _ _ _ _ _ _ us hl => match us, hl with | [_], _ => rfl⟩
  have C_P_stripped : Cal P w K mg base 1 "stripped" ["number", "prime"] spStripped := ⟨_, fd_P_stripped, ok_stripped F_P_stripped , g_P_stripped, F_P_stripped.kp, F_P_stripped.bindsN fun _ _ _ _ _ _ us hl => match us, hl with | [_, _], _ => rfl⟩
  have C_P_quarter : Cal P w K mg base 1 "quarter" ["unit"] spQuarter := ⟨_, fd_P_quarter, ok_quarter F_P_quarter , g_P_quarter, F_P_quarter.kp, F_P_quarter.bindsN fun _ _ _ _ _ _ us hl => match us, hl with | [_], _ => rfl⟩
  have C_P_eighth : Cal P w K mg base 1 "eighth" ["unit"] spEighth := ⟨_, fd_P_eighth, ok_eighth F_P_eighth , g_P_eighth, F_P_eighth.kp, F_P_eighth.bindsN fun _ _ _ _ _ _ us hl => match us, hl with | [_], _ => rfl⟩
  have C_P_sign_at_two : Cal P w K mg base 2 "sign_at_two" ["a", "b"] (spSgn true) := ⟨_, fd_P_sign_at_two, ok_sign_at_two F_P_sign_at_two C_P_stripped C_P_quarter C_P_eighth, g_P_sign_at_two, F_P_sign_at_two.kp, F_P_sign_at_two.bindsN fun _ _ _ _ _ _ us hl => match us, hl with | [_, _], _ => rfl⟩
  have C_P_power_modulo : Cal P w K mg base 1 "power_modulo" ["number", "many", "modulus"] spPowMod := ⟨_, fd_P_power_modulo, ok_powmod F_P_power_modulo , g_P_power_modulo, F_P_power_modulo.kp, F_P_power_modulo.bindsN fun _ _ _ _ _ _ us hl => match us, hl with | [_, _, _], _ => rfl⟩
  have C_P_rest_sign : Cal P w K mg base 2 "rest_sign" ["number", "prime"] spRestSign := ⟨_, fd_P_rest_sign, ok_rest_sign F_P_rest_sign C_P_power_modulo, g_P_rest_sign, F_P_rest_sign.kp, F_P_rest_sign.bindsN fun _ _ _ _ _ _ us hl => match us, hl with | [_, _], _ => rfl⟩
  have C_P_sign_at_odd : Cal P w K mg base 3 "sign_at_odd" ["a", "b", "prime"] (spSgn false) := ⟨_, fd_P_sign_at_odd, ok_sign_at_odd F_P_sign_at_odd C_P_stripped C_P_rest_sign, g_P_sign_at_odd, F_P_sign_at_odd.kp, F_P_sign_at_odd.bindsN fun _ _ _ _ _ _ us hl => match us, hl with | [_, _, _], _ => rfl⟩
  have C_P_sign : Cal P w K mg base 4 "sign" ["a", "b", "place"] spSign := ⟨_, fd_P_sign, ok_sign F_P_sign C_P_sign_at_two C_P_sign_at_odd, g_P_sign, F_P_sign.kp, F_P_sign.bindsN fun _ _ _ _ _ _ us hl => match us, hl with | [_, _, _], _ => rfl⟩
  have C_P_sign_at : Cal P w K mg base 5 "sign_at" ["a", "b", "place"] spSign := ⟨_, fd_P_sign_at, ok_sign_at F_P_sign_at C_P_check_number C_P_check_place C_P_sign, g_P_sign_at, F_P_sign_at.kp, F_P_sign_at.bindsN fun _ _ _ _ _ _ us hl => match us, hl with | [_, _, _], _ => rfl⟩
  exact ok_law F_L_law T C_L_sack C_L_one_of C_L_number C_L_own_sign C_L_bare C_L_through_all C_P_sign_at
end Sf
open PySem PySem.W PySem.Calls PyProof.Rows
set_option maxHeartbeats 0 in
theorem PySem.Challenge.cw_signfours_k03_whole_signs_by_local_looks_holds : PySem.Challenge.rw_signfours_k03_whole_signs_by_local_looks.Holds := by
  w_on; o_law
  refine HandSHeadRun.head_any (r := OpenLaw.row PySem.Challenge.rw_signfours_k03_whole_signs_by_local_looks) (q := view (OpenLaw.row PySem.Challenge.rw_signfours_k03_whole_signs_by_local_looks).prog [31]) (H := Sf.hk) (ob := Sf.ob) (M := 6000) (loose := Sf.loose) (d := HandSHeadRun.topDef (OpenLaw.row PySem.Challenge.rw_signfours_k03_whole_signs_by_local_looks).prog 31) (kwd := []) Sf.ob_eq
    (by kernel_rfl) (fun s => by kernel_rfl) Sf.run (by kernel_rfl) (by kernel_rfl) (by kernel_rfl) (by rfl) (by first | assumption | decide +kernel) (by decide +kernel) ⟨rfl, rfl, rfl, rfl, rfl, by decide +kernel⟩ ?hw ?hc
  case hw => w_witness2
  case hc =>
    refine L2.walk_ofE (l := PySem.Challenge.rw_signfours_k03_whole_signs_by_local_looks) (n := 63) (k := 6) (x := "_law_script") (CX := L2.CX0) rfl (by decide) (by kernel_rfl) ⟨rfl, by decide, by decide⟩ ?F (fun _ _ _ _ z => z)
    intro w mg fa h Y G hmg0
    obtain ⟨K, KX, c⟩ := Y
    have hmg : mg ("law" : PySem.Str) = some (.ref fa) := by
      have e : (HandSHeadRun.topDef (OpenLaw.row PySem.Challenge.rw_signfours_k03_whole_signs_by_local_looks).prog 31).name = ("law" : PySem.Str) := by kernel_rfl
      rw [← e]
      exact hmg0
    obtain ⟨fd, hb, hF⟩ := Sf.facts (P := (PySem.Challenge.rw_signfours_k03_whole_signs_by_local_looks).prog) (w := w) KX G hmg c
    exact ⟨K, fd, Sf.spLaw K, KX, hb, fun H a ns hl _ hS => ⟨a, ns, rfl, hS, hl, fun _ => rfl⟩, hF⟩
