import PyProof.Rows.All
import Wide.All
import OpenK.AllK
import Wide.FinOn
import KE.KStateDown
import Lean
import HandS.Base
import HandS.Call
import HandS.List
import HandS.Comp
import HandS.Ends
import HandS.Evl
import HandS.Dict
import HandS.Iter
import HandS.Text
import HandS.More
import HandS.DictComp
import HandS.Words
import HandS.WordsList
import HandS.WordsExc
import HandS.WordsDict
import HandS.Defaults
import HandS.IsInst
import HandS.Small
import HandS.Wide
import HandS.Style
import HandS.SortInts
import HandS.Set
import HandS.SetFor
import HandS.Strs
import HandS.Star
import HandS.Head0
import HandS.Head1
import HandS.Head2
import HandS.Head3
import HandS.HeadEnd
import HandS.HeadHook1
import HandS.HeadHook2
import KE.KOpsOwn
import KE.GoesMore
import KE.KFmtOwn
import HandS.OwnEq
import HandS.Records
import HandS.Gcd
import HandS.TupAny
import HandS.Walk
import HandS.Zip
import PySem.Challenge.RW_signfours_k04_whole_places_even_in_numbe
set_option Elab.async false
set_option linter.all false
set_option maxRecDepth 100000
set_option maxHeartbeats 4000000
namespace Sf
open PySem PySem.Spec PyProof.Rows L2
/-- a def of the text that lets no exception out, ready to be called -/
structure Cal (P : Program) (w : World) (K : PySem.W.Frag) (mg : Str → Option Value) (base : Heap) (k : Nat) (x : Str) (ps : List Str) (sp : Sp) where
  f : Addr
  fd : FuncData
  ok : FnOk P w K mg base CX0 k f fd ps sp
  g : mg x = some (.ref f)
  kp : PySem.W.keepIn K (.ref f) = true
  b : Binds K fd ps []
section
variable {X : Cx} {k : Nat} {x : Str} {ps : List Str} {sp : Sp} {e : Expr} {es : List Expr} {t : TA} {p pos : Pos}
theorem pe_cal (C : Cal X.prog X.w X.K X.mg X.base k x ps sp) (hr : Room k X.A) (ha : PA X (e :: es) t) (hg : Gl X x := by rfl) (hdb : (x == ("__debug__" : Str)) = false := by decide)
    (he : starEach (e :: es) X.env = (false, eval e X.env) :: starEach es X.env := by rfl) (hpl : (backTo pos (starEach es X.env)).any (·.1) = false := by rfl) :
    PE X (.Call (.Name x p) (e :: es) [] pos) (tCall sp [] E0 t) :=
  pe_call C.ok hr hg C.g C.kp C.b .nil pass0 ha hdb he hpl
theorem pe_cal0 (C : Cal X.prog X.w X.K X.mg X.base k x ps sp) (hr : Room k X.A) (hg : Gl X x := by rfl) (hdb : (x == ("__debug__" : Str)) = false := by decide) :
    PE X (.Call (.Name x p) [] [] pos) (tCall sp [] E0 tNil) :=
  pe_call0 C.ok hr hg C.g C.kp C.b .nil pass0 hdb
/-- a power of any size that the machine's line takes -/
def CPowW (i j : Int) : Prop := 0 ≤ j ∧ (Builtin.Int.intBits i : Int) * j ≤ 2 ^ 27
theorem op_powW : OpR X (binaryOp .Pow) (rI CPowW fun i j => .int (i ^ j.toNat)) := opI fun _ _ _ _ _ _ _ hc q => pow_int hc.1 hc.2 q
/-- a dict that a call has just made, frozen from here on -/
theorem pe_frz {e : Expr} {te : TE} (h : PE X e te) : PE X e (fun σ H Q => te σ H fun x H1 => ∃ d u, x = .ref d ∧ H1 d = some u ∧ Mut (some u) ∧ ∀ od, Q x (upd H1 d (.frz od u))) := by
  refine ⟨fun pins s σ H Q I hw => ?_⟩
  refine thn (h.run pins s σ _ _ I hw) fun v s1 ⟨y, H1, I1, r, d, u, e1, hd, mu, q⟩ => ?_
  obtain ⟨od, I2⟩ := I1.lock hd mu
  exact ⟨y, _, I2, r, q od⟩
end
section
variable {X : Cx} {e : Expr}
/-- an expression, with a word behind it: what follows is shown once -/
def tMid (t : TE) : TE := fun σ H Q => ∃ Mid : V → Hp → Prop, t σ H Mid ∧ ∀ v H', Mid v H' → Q v H'
theorem pe_cut {t : TE} (h : PE X e t) : PE X e (tMid t) :=
  ⟨fun pins s σ H Q I ⟨Mid, hm, hu⟩ => thn (h.run pins s σ H Mid I hm) fun u s1 ⟨x, H1, I1, r, q⟩ => ⟨x, H1, I1, r, hu x H1 q⟩⟩
def tMidT (t : TT) : TT := fun σ H Q => ∃ Mid : Bool → Hp → Prop, t σ H Mid ∧ ∀ v H', Mid v H' → Q v H'
theorem pt_mid {t : TT} (h : PT X e t) : PT X e (tMidT t) :=
  ⟨fun pins s σ H Q I ⟨Mid, hm, hu⟩ => thn (h.run pins s σ H Mid I hm) fun b s1 ⟨H1, I1, q⟩ => ⟨H1, I1, hu b H1 q⟩⟩
end
theorem same_upd {H : Hp} {p : Addr} {o : HO} (h : H p = none) : Same H (upd H p o) := fun b x e => by
  rw [upd_ne (ne_of_none e h)]
  exact e
theorem CMulW.of {i j : Int} (hi : i.natAbs < 2 ^ 3000) (hj : j.natAbs < 2 ^ 3000) : CMulW i j := wide_mul hi hj (by decide) (by decide) (by decide)
theorem CDivW.of {i j : Int} (h0 : 0 < j) (hj : j.natAbs < 2 ^ 3000) : CDivW i j := wide_div h0 hj (by decide) (by decide)
theorem two3000 : (10 : Nat) ^ 600 < 2 ^ 3000 := by decide +kernel
end Sf
namespace Sf
open PySem PySem.Spec PyProof.Rows L2
/-- an if whose test is a decision -/
theorem ifd {p : Prop} [Decidable p] {A B : Prop} (h1 : p → A) (h2 : ¬ p → B) : if decide p = true then A else B := by
  by_cases h : p
  · rw [if_pos (decide_eq_true h)]; exact h1 h
  · rw [if_neg (by simpa using h)]; exact h2 h
theorem ifn {p : Prop} [Decidable p] {A B : Prop} (h1 : ¬ p → A) (h2 : p → B) : if (!decide p) = true then A else B := by
  by_cases h : p
  · rw [if_neg (by simpa using h)]; exact h2 h
  · rw [if_pos (by simpa using h)]; exact h1 h
theorem ifb {b : Bool} {A B : Prop} (h1 : b = true → A) (h2 : b = false → B) : if b = true then A else B := by
  cases b with
  | true => rw [if_pos rfl]; exact h1 rfl
  | false => rw [if_neg Bool.false_ne_true]; exact h2 rfl
end Sf
namespace Sf
open PySem PySem.Spec PyProof.Rows L2
/-! the head's facts and one more Bool -/
abbrev AlO : Type := He.AlD × Bool
/-- what is looked at: the module's names, what they name, so on; a code object's own things are left out -/
def refsN (o : Obj) : List Addr := match o.data with
  | .dict es _ => es.toList.flatMap fun e => He.refV e.val
  | .func fd => He.refV fd.code ++ He.refV fd.defaults
  | .cls cd => cd.ns :: cd.mro.flatMap He.refV
  | _ => []
def stepN (g : Addr → Option Obj) (as : List Addr) : List Addr := as.flatMap fun a => match g a with
  | some o => refsN o
  | none => []
def asN (g : Addr → Option Obj) : Nat → List Addr → List Addr
  | 0, as => as
  | n + 1, as => as ++ asN g n (stepN g as)
def obsO (n : Nat) (fa : List He.Fa) (fn : List He.DefD) (ex : PySem.W.Frag → Bool) (g : Addr → Option Obj) : AlO := (He.obsD fa fn (He.frG g (asN g n [mainGlobals])), ex (He.frG g (asN g n [mainGlobals])))
def hookO (n : Nat) (fa : List He.Fa) (fn : List He.DefD) (ex : PySem.W.Frag → Bool) : PySem.W.Hook where
  α := AlO
  obs := fun s => obsO n fa fn ex s.heap.get?
  val := fun _ => (He.valD fn, true)
  says := fun _ h => ∃ K : PySem.W.Frag, K.In h ∧ He.SaysD fa fn K ∧ ex K = true
  of := fun _ _ e => ⟨_, He.frG_in, congrArg (fun z : AlO => z.1) e, congrArg (fun z : AlO => z.2) e⟩
  keeps := fun _ _ _ ⟨K, hK, c⟩ k => ⟨K, PySem.W.Frag.In.keeps hK k, c⟩
theorem obsO_eq {n : Nat} {fa : List He.Fa} {fn : List He.DefD} {ex : PySem.W.Frag → Bool} {g : Addr → Option Obj} {s : Shared} (h : ∀ a, g a = s.heap.get? a) : obsO n fa fn ex g = (hookO n fa fn ex).obs s := by
  have e : g = s.heap.get? := funext h
  rw [e] <;> rfl
def ownB (K : PySem.W.Frag) (x : Str) : Bool := PySem.W.selfFirst K (He.ga K x) && (decide (PySem.W.subIn K (.type "int") (.ref (He.ga K x)) = some false) && (He.eqO (PySem.W.findIn K (.ref (He.ga K x)) "__ne__") (some (some (.builtin "object.__ne__"))) &&
  (decide (PySem.W.mroIn K (He.ga K x) (.type "object") = some true) && (He.eqO (PySem.W.findIn K (.ref (He.ga K x)) "__class__") (some (some (.builtin "object.__class__"))) && (He.eqO (PySem.W.specialIn K (.builtin "object.__class__") "__get__") (some (some (.builtin "getset_descriptor.__get__"))) &&
  (decide (PySem.W.takesIn K (.builtin "object.__class__") = some true) && (decide (PySem.W.kitOne K (.ref (He.ga K x)) (.ref (He.ga K x)) = some true) && decide (PySem.W.kitOne K (.type "int") (.ref (He.ga K x)) = some false))))))))
/-- a module's name that holds a built-in function -/
def gblB (K : PySem.W.Frag) (x : Str) (id : String) : Bool := He.eqO (PySem.W.nsIn K mainGlobals x) (some (some (.builtin id)))
theorem gblB_ok {K : PySem.W.Frag} {h : Heap} {mg : Str → Option Value} (X : K.In h) (G : h.Ns mainGlobals mg) {x : Str} {id : String} (c : gblB K x id = true) : mg x = some (.builtin id) := PySem.W.mg_of X G (He.eqO_ok c)
end Sf

namespace Sf
open PySem PySem.Spec PyProof.Rows L2
def top (i : Nat) : Stmt := PySem.Challenge.pw_signfours_k04_whole_places_even_in_numbe.main.body.getD i (.Pass ⟨0, 0, 0, 0⟩)
abbrev s_P_is_integer : Stmt := top 1
theorem sc_P_is_integer : FnScope ["value"] ["value"] (defScope s_P_is_integer) := ⟨rfl, rfl, rfl, by decide +kernel, rfl, by decide +kernel, by decide +kernel⟩
abbrev s_P_InvalidNumber___init__ : Stmt := inClass (top 3) 0
theorem sc_P_InvalidNumber___init__ : FnScope ["self", "given"] ["self", "given"] (defScope s_P_InvalidNumber___init__) := ⟨rfl, rfl, rfl, by decide +kernel, rfl, by decide +kernel, by decide +kernel⟩
abbrev s_P_is_prime : Stmt := top 6
theorem sc_P_is_prime : FnScope ["value", "divisor"] ["value"] (defScope s_P_is_prime) := ⟨rfl, rfl, rfl, by decide +kernel, rfl, by decide +kernel, by decide +kernel⟩
abbrev s_P_factors : Stmt := top 7
theorem sc_P_factors : FnScope ["number"] ["number"] (defScope s_P_factors) := ⟨rfl, rfl, rfl, by decide +kernel, rfl, by decide +kernel, by decide +kernel⟩
abbrev s_P_prime_powers : Stmt := top 8
theorem sc_P_prime_powers : FnScope ["number", "rest", "found", "divisor"] ["number"] (defScope s_P_prime_powers) := ⟨rfl, rfl, rfl, by decide +kernel, rfl, by decide +kernel, by decide +kernel⟩
abbrev s_P_square_free : Stmt := top 9
theorem sc_P_square_free : FnScope ["number"] ["number"] (defScope s_P_square_free) := ⟨rfl, rfl, rfl, by decide +kernel, rfl, by decide +kernel, by decide +kernel⟩
abbrev s_P_free_part : Stmt := top 10
theorem sc_P_free_part : FnScope ["number", "free", "prime", "many"] ["number"] (defScope s_P_free_part) := ⟨rfl, rfl, rfl, by decide +kernel, rfl, by decide +kernel, by decide +kernel⟩
abbrev s_P_check_number : Stmt := top 11
theorem sc_P_check_number : FnScope ["value"] ["value"] (defScope s_P_check_number) := ⟨rfl, rfl, rfl, by decide +kernel, rfl, by decide +kernel, by decide +kernel⟩
abbrev s_P_next_divisor : Stmt := top 12
theorem sc_P_next_divisor : FnScope ["divisor"] ["divisor"] (defScope s_P_next_divisor) := ⟨rfl, rfl, rfl, by decide +kernel, rfl, by decide +kernel, by decide +kernel⟩
abbrev s_P_stripped : Stmt := top 13
theorem sc_P_stripped : FnScope ["number", "prime", "many"] ["number", "prime"] (defScope s_P_stripped) := ⟨rfl, rfl, rfl, by decide +kernel, rfl, by decide +kernel, by decide +kernel⟩
abbrev s_P_rest_sign : Stmt := top 14
theorem sc_P_rest_sign : FnScope ["number", "prime"] ["number", "prime"] (defScope s_P_rest_sign) := ⟨rfl, rfl, rfl, by decide +kernel, rfl, by decide +kernel, by decide +kernel⟩
abbrev s_P_power_modulo : Stmt := top 15
theorem sc_P_power_modulo : FnScope ["number", "many", "modulus", "made", "square"] ["number", "many", "modulus"] (defScope s_P_power_modulo) := ⟨rfl, rfl, rfl, by decide +kernel, rfl, by decide +kernel, by decide +kernel⟩
abbrev s_P_sign_at : Stmt := top 17
theorem sc_P_sign_at : FnScope ["a", "b", "place"] ["a", "b", "place"] (defScope s_P_sign_at) := ⟨rfl, rfl, rfl, by decide +kernel, rfl, by decide +kernel, by decide +kernel⟩
abbrev s_P_signed_places : Stmt := top 18
theorem sc_P_signed_places : FnScope ["a", "b", "divisors", "place"] ["a", "b"] (defScope s_P_signed_places) := ⟨rfl, rfl, rfl, by decide +kernel, rfl, by decide +kernel, by decide +kernel⟩
abbrev s_P_check_place : Stmt := top 19
theorem sc_P_check_place : FnScope ["value"] ["value"] (defScope s_P_check_place) := ⟨rfl, rfl, rfl, by decide +kernel, rfl, by decide +kernel, by decide +kernel⟩
abbrev s_P_sign : Stmt := top 20
theorem sc_P_sign : FnScope ["a", "b", "place"] ["a", "b", "place"] (defScope s_P_sign) := ⟨rfl, rfl, rfl, by decide +kernel, rfl, by decide +kernel, by decide +kernel⟩
abbrev s_P_sign_at_two : Stmt := top 21
theorem sc_P_sign_at_two : FnScope ["a", "b", "s", "one", "t", "other", "told"] ["a", "b"] (defScope s_P_sign_at_two) := ⟨rfl, rfl, rfl, by decide +kernel, rfl, by decide +kernel, by decide +kernel⟩
abbrev s_P_quarter : Stmt := top 22
theorem sc_P_quarter : FnScope ["unit"] ["unit"] (defScope s_P_quarter) := ⟨rfl, rfl, rfl, by decide +kernel, rfl, by decide +kernel, by decide +kernel⟩
abbrev s_P_eighth : Stmt := top 23
theorem sc_P_eighth : FnScope ["unit"] ["unit"] (defScope s_P_eighth) := ⟨rfl, rfl, rfl, by decide +kernel, rfl, by decide +kernel, by decide +kernel⟩
abbrev s_P_sign_at_odd : Stmt := top 24
theorem sc_P_sign_at_odd : FnScope ["a", "b", "prime", "s", "one", "t", "other", "told"] ["a", "b", "prime"] (defScope s_P_sign_at_odd) := ⟨rfl, rfl, rfl, by decide +kernel, rfl, by decide +kernel, by decide +kernel⟩
abbrev s_L_sack : Stmt := top 26
theorem sc_L_sack : FnScope ["_law_script", "_law_turn", "_law_cell", "_law_great"] ["_law_script", "_law_turn"] (defScope s_L_sack) := ⟨rfl, rfl, rfl, by decide +kernel, rfl, by decide +kernel, by decide +kernel⟩
abbrev s_L_take : Stmt := top 27
theorem sc_L_take : FnScope ["_law_sack_here", "_law_many", "_law_found", "_law_one", "_law_two"] ["_law_sack_here", "_law_many"] (defScope s_L_take) := ⟨rfl, rfl, rfl, by decide +kernel, rfl, by decide +kernel, by decide +kernel⟩
abbrev s_L_one_of : Stmt := top 28
theorem sc_L_one_of : FnScope ["_law_sack_here", "_law_items"] ["_law_sack_here", "_law_items"] (defScope s_L_one_of) := ⟨rfl, rfl, rfl, by decide +kernel, rfl, by decide +kernel, by decide +kernel⟩
abbrev s_L_is_prime : Stmt := top 29
theorem sc_L_is_prime : FnScope ["_law_number", "_law_one"] ["_law_number"] (defScope s_L_is_prime) := ⟨rfl, rfl, rfl, by decide +kernel, rfl, by decide +kernel, by decide +kernel⟩
abbrev s_L_sign : Stmt := top 30
theorem sc_L_sign : FnScope ["_law_number", "_law_prime", "_law_rest", "_law_one"] ["_law_number", "_law_prime"] (defScope s_L_sign) := ⟨rfl, rfl, rfl, by decide +kernel, rfl, by decide +kernel, by decide +kernel⟩
abbrev s_L_parted : Stmt := top 31
theorem sc_L_parted : FnScope ["_law_number", "_law_prime", "_law_many", "_law_left", "_law_turn"] ["_law_number", "_law_prime"] (defScope s_L_parted) := ⟨rfl, rfl, rfl, by decide +kernel, rfl, by decide +kernel, by decide +kernel⟩
abbrev s_L_own_sign : Stmt := top 32
theorem sc_L_own_sign : FnScope ["_law_a", "_law_b", "_law_place", "_law_s", "_law_left", "_law_t", "_law_right", "_law_odd", "_law_found"] ["_law_a", "_law_b", "_law_place"] (defScope s_L_own_sign) := ⟨rfl, rfl, rfl, by decide +kernel, rfl, by decide +kernel, by decide +kernel⟩
abbrev s_L_made : Stmt := top 33
theorem sc_L_made : FnScope ["_law_sack_here", "_law_most", "_law_found", "_law_parts", "_law_turn", "_law_prime"] ["_law_sack_here", "_law_most"] (defScope s_L_made) := ⟨rfl, rfl, rfl, by decide +kernel, rfl, by decide +kernel, by decide +kernel⟩
abbrev s_L_due : Stmt := top 34
theorem sc_L_due : FnScope ["_law_a", "_law_b", "_law_primes", "_law_near", "_law_place"] ["_law_a", "_law_b", "_law_primes"] (defScope s_L_due) := ⟨rfl, rfl, rfl, by decide +kernel, rfl, by decide +kernel, by decide +kernel⟩
abbrev s_L_pair_right : Stmt := top 35
theorem sc_L_pair_right : FnScope ["_law_a", "_law_b", "_law_primes", "_law_told"] ["_law_a", "_law_b", "_law_primes"] (defScope s_L_pair_right) := ⟨rfl, rfl, rfl, by decide +kernel, rfl, by decide +kernel, by decide +kernel⟩
abbrev s_L_products_right : Stmt := top 36
theorem sc_L_products_right : FnScope ["_law_a", "_law_b", "_law_c", "_law_primes", "_law_place"] ["_law_a", "_law_b", "_law_c", "_law_primes"] (defScope s_L_products_right) := ⟨rfl, rfl, rfl, by decide +kernel, rfl, by decide +kernel, by decide +kernel⟩
abbrev s_L_law : Stmt := top 37
theorem sc_L_law : FnScope ["_law_script", "_law_turn", "_law_sack_here", "_law_a", "_law_first", "_law_b", "_law_second", "_law_c", "_law_third", "_law_root", "_law_told"] ["_law_script"] (defScope s_L_law) := ⟨rfl, rfl, rfl, by decide +kernel, rfl, by decide +kernel, by decide +kernel⟩
end Sf

namespace Sf
open PySem PySem.Spec PyProof.Rows L2
def d_L_sack : He.DefD := ⟨("_law_sack", none), "_law_sack", "_law_sack", defArgs s_L_sack, defBody s_L_sack, defScope s_L_sack, [], []⟩
def d_L_take : He.DefD := ⟨("_law_take", none), "_law_take", "_law_take", defArgs s_L_take, defBody s_L_take, defScope s_L_take, [], []⟩
def d_L_one_of : He.DefD := ⟨("_law_one_of", none), "_law_one_of", "_law_one_of", defArgs s_L_one_of, defBody s_L_one_of, defScope s_L_one_of, [], []⟩
def d_L_made : He.DefD := ⟨("_law_made", none), "_law_made", "_law_made", defArgs s_L_made, defBody s_L_made, defScope s_L_made, [], []⟩
def d_P_is_integer : He.DefD := ⟨("is_integer", none), "is_integer", "is_integer", defArgs s_P_is_integer, defBody s_P_is_integer, defScope s_P_is_integer, [], []⟩
def d_P_check_number : He.DefD := ⟨("check_number", none), "check_number", "check_number", defArgs s_P_check_number, defBody s_P_check_number, defScope s_P_check_number, [], []⟩
def d_P_stripped : He.DefD := ⟨("stripped", none), "stripped", "stripped", defArgs s_P_stripped, defBody s_P_stripped, defScope s_P_stripped, [], []⟩
def d_P_next_divisor : He.DefD := ⟨("next_divisor", none), "next_divisor", "next_divisor", defArgs s_P_next_divisor, defBody s_P_next_divisor, defScope s_P_next_divisor, [], []⟩
def d_P_prime_powers : He.DefD := ⟨("prime_powers", none), "prime_powers", "prime_powers", defArgs s_P_prime_powers, defBody s_P_prime_powers, defScope s_P_prime_powers, [], []⟩
def d_P_factors : He.DefD := ⟨("factors", none), "factors", "factors", defArgs s_P_factors, defBody s_P_factors, defScope s_P_factors, [], []⟩
def d_P_quarter : He.DefD := ⟨("quarter", none), "quarter", "quarter", defArgs s_P_quarter, defBody s_P_quarter, defScope s_P_quarter, [], []⟩
def d_P_eighth : He.DefD := ⟨("eighth", none), "eighth", "eighth", defArgs s_P_eighth, defBody s_P_eighth, defScope s_P_eighth, [], []⟩
def d_P_sign_at_two : He.DefD := ⟨("sign_at_two", none), "sign_at_two", "sign_at_two", defArgs s_P_sign_at_two, defBody s_P_sign_at_two, defScope s_P_sign_at_two, [], []⟩
def d_P_power_modulo : He.DefD := ⟨("power_modulo", none), "power_modulo", "power_modulo", defArgs s_P_power_modulo, defBody s_P_power_modulo, defScope s_P_power_modulo, [], []⟩
def d_P_rest_sign : He.DefD := ⟨("rest_sign", none), "rest_sign", "rest_sign", defArgs s_P_rest_sign, defBody s_P_rest_sign, defScope s_P_rest_sign, [], []⟩
def d_P_sign_at_odd : He.DefD := ⟨("sign_at_odd", none), "sign_at_odd", "sign_at_odd", defArgs s_P_sign_at_odd, defBody s_P_sign_at_odd, defScope s_P_sign_at_odd, [], []⟩
def d_P_sign : He.DefD := ⟨("sign", none), "sign", "sign", defArgs s_P_sign, defBody s_P_sign, defScope s_P_sign, [], []⟩
def d_P_signed_places : He.DefD := ⟨("signed_places", none), "signed_places", "signed_places", defArgs s_P_signed_places, defBody s_P_signed_places, defScope s_P_signed_places, [], []⟩
def d_L_parted : He.DefD := ⟨("_law_parted", none), "_law_parted", "_law_parted", defArgs s_L_parted, defBody s_L_parted, defScope s_L_parted, [], []⟩
def d_L_sign : He.DefD := ⟨("_law_sign", none), "_law_sign", "_law_sign", defArgs s_L_sign, defBody s_L_sign, defScope s_L_sign, [], []⟩
def d_L_own_sign : He.DefD := ⟨("_law_own_sign", none), "_law_own_sign", "_law_own_sign", defArgs s_L_own_sign, defBody s_L_own_sign, defScope s_L_own_sign, [], []⟩
def d_L_due : He.DefD := ⟨("_law_due", none), "_law_due", "_law_due", defArgs s_L_due, defBody s_L_due, defScope s_L_due, [], []⟩
def d_P_free_part : He.DefD := ⟨("free_part", none), "free_part", "free_part", defArgs s_P_free_part, defBody s_P_free_part, defScope s_P_free_part, [], []⟩
def d_P_square_free : He.DefD := ⟨("square_free", none), "square_free", "square_free", defArgs s_P_square_free, defBody s_P_square_free, defScope s_P_square_free, [], []⟩
def d_L_pair_right : He.DefD := ⟨("_law_pair_right", none), "_law_pair_right", "_law_pair_right", defArgs s_L_pair_right, defBody s_L_pair_right, defScope s_L_pair_right, [], []⟩
def d_P_is_prime : He.DefD := ⟨("is_prime", none), "is_prime", "is_prime", defArgs s_P_is_prime, defBody s_P_is_prime, defScope s_P_is_prime, [], []⟩
def d_P_check_place : He.DefD := ⟨("check_place", none), "check_place", "check_place", defArgs s_P_check_place, defBody s_P_check_place, defScope s_P_check_place, [], []⟩
def d_P_sign_at : He.DefD := ⟨("sign_at", none), "sign_at", "sign_at", defArgs s_P_sign_at, defBody s_P_sign_at, defScope s_P_sign_at, [], []⟩
def d_L_products_right : He.DefD := ⟨("_law_products_right", none), "_law_products_right", "_law_products_right", defArgs s_L_products_right, defBody s_L_products_right, defScope s_L_products_right, [], []⟩
def d_L_law : He.DefD := ⟨("law", none), "law", "law", defArgs s_L_law, defBody s_L_law, defScope s_L_law, [], []⟩
def fn : List He.DefD := [d_L_sack, d_L_take, d_L_one_of, d_L_made, d_P_is_integer, d_P_check_number, d_P_stripped, d_P_next_divisor, d_P_prime_powers, d_P_factors, d_P_quarter, d_P_eighth, d_P_sign_at_two, d_P_power_modulo, d_P_rest_sign, d_P_sign_at_odd, d_P_sign, d_P_signed_places, d_L_parted, d_L_sign, d_L_own_sign, d_L_due, d_P_free_part, d_P_square_free, d_L_pair_right, d_P_is_prime, d_P_check_place, d_P_sign_at, d_L_products_right, d_L_law]
def fa : List He.Fa := ([.glo "_law_sack", .glo "_law_take", .glo "_law_one_of", .glo "_law_made", .glo "is_integer", .glo "check_number", .glo "stripped", .glo "next_divisor", .glo "prime_powers", .glo "factors", .glo "quarter", .glo "eighth", .glo "sign_at_two", .glo "power_modulo", .glo "rest_sign", .glo "sign_at_odd", .glo "sign", .glo "signed_places", .glo "_law_parted", .glo "_law_sign", .glo "_law_own_sign", .glo "_law_due", .glo "free_part", .glo "square_free", .glo "_law_pair_right", .glo "is_prime", .glo "check_place", .glo "sign_at", .glo "_law_products_right", .glo "law"] : List He.Fa) ++ ([.free "isinstance", .free "int", .free "bool", .free "abs", .free "sorted", .free "tuple", .free "set", .free "max", .free "len", .free "sum", .free "range", .free "dict", .free "min", .int "MAX_NUMBER" 1000000000] : List He.Fa)
def ex (K : PySem.W.Frag) : Bool := true
abbrev R : PySem.W.OpenRow := PySem.W.OpenLaw.row PySem.Challenge.rw_signfours_k04_whole_places_even_in_numbe
abbrev hk : PySem.W.Hook := hookO 4 fa fn ex
def ob (s : PySem.W.SharedT) : AlO := obsO 4 fa fn ex (HandSHeadRun.getT s)
theorem ob_eq (s : PySem.W.SharedT) : ob s = hk.obs s.abs := obsO_eq (HandSHeadRun.getT_eq s)
def loose : List Str := (["is_integer", "InvalidNumber", "MAX_NUMBER", "is_prime", "factors", "prime_powers", "square_free", "free_part", "check_number", "next_divisor", "stripped", "rest_sign", "power_modulo", "sign_at", "signed_places", "check_place", "sign", "sign_at_two", "quarter", "eighth", "sign_at_odd", "_law_sack", "_law_take", "_law_one_of", "_law_is_prime", "_law_sign", "_law_parted", "_law_own_sign", "_law_made", "_law_due"] : List Str) ++ (["_law_pair_right", "_law_products_right"] : List Str)
set_option maxHeartbeats 0 in
theorem run (w : World) : HandSHeadRun.RunEq R (PySem.W.view R.prog [37]) hk ob 20000 loose w := by
  intro os
  kernel_rfl
end Sf

namespace Sf
open PySem PySem.Spec PyProof.Rows L2
abbrev FnD (K : PySem.W.Frag) (x qual : Str) (st : Stmt) (f : Addr) (fd : FuncData) : Prop := FunD K x qual (defArgs st) (defBody st) (defScope st) [] [] f fd
/-- a def with defaults -/
abbrev FnDD (K : PySem.W.Frag) (x qual : Str) (st : Stmt) (dvs : List V) (f : Addr) (fd : FuncData) : Prop := FunD K x qual (defArgs st) (defBody st) (defScope st) dvs [] f fd
theorem lt3000 {a : Int} (h0 : 0 ≤ a) (h : a < 10 ^ 400) : a.natAbs < 2 ^ 3000 := by
  have h1 : (10 : Int) ^ 400 < 2 ^ 3000 := by decide +kernel
  have h2 : ((a.natAbs : Nat) : Int) < ((2 ^ 3000 : Nat) : Int) := by
    rw [Int.natAbs_of_nonneg h0]
    exact Int.lt_trans h h1
  exact Int.ofNat_lt.mp h2
theorem lt3000s {a : Int} (h0 : -1000000000000000000000000000000 < a) (h : a < 1000000000000000000000000000000) : a.natAbs < 2 ^ 3000 := Nat.lt_trans (by omega : a.natAbs < 1000000000000000000000000000000) (by decide +kernel)
theorem inV_two (x a b : Int) : inV (.int x) [.int a, .int b] = decide (x = a ∨ x = b) := by
  show ((a == x) || ((b == x) || false)) = _
  rw [Bool.or_false, Bool.eq_iff_iff]
  simp only [Bool.or_eq_true, beq_iff_eq, decide_eq_true_eq]
  constructor
  · rintro (h | h)
    · exact .inl h.symm
    · exact .inr h.symm
  · rintro (h | h)
    · exact .inl h.symm
    · exact .inr h.symm
theorem inV_ints (x : Int) (l : List Int) : inV (.int x) (l.map V.int) = decide (x ∈ l) := by
  unfold inV
  rw [List.any_map, Bool.eq_iff_iff, List.any_eq_true]
  simp only [decide_eq_true_eq]
  constructor
  · rintro ⟨y, hy, e⟩
    have e2 : (y == x) = true := e
    rw [← beq_iff_eq.mp e2]
    exact hy
  · intro h
    refine ⟨x, h, ?_⟩
    show (x == x) = true
    exact beq_self_eq_true x
theorem all_flat (l : List Int) : (l.map V.int).all flatV = true := by
  rw [List.all_map, List.all_eq_true]
  intro x _
  rfl
end Sf

namespace Sf
open PySem PySem.Spec PyProof.Rows L2
section
variable {P : Program} {w : World} {K : PySem.W.Frag} {mg : Str → Option Value} {base : Heap} {f : Addr} {fd : FuncData}
def spNext : Sp := fun vs H Q _ => ∃ d : Int, vs = [.int d] ∧ Q (.int (if d = 2 then 3 else d + 2)) H
theorem ok_next (F : FnD K "next_divisor" "next_divisor" s_P_next_divisor f fd) : FnOk P w K mg base CX0 1 f fd ["divisor"] spNext := by
  refine F.ok sc_P_next_divisor (fun vs H Q E h => ?_) (fun cdv A outer s H vs Q E hr h => ?_)
  · obtain ⟨d, rfl, _⟩ := h; rfl
  · obtain ⟨d, rfl, q⟩ := h
    refine ⟨_, PSs.nox (pss_one (ps_ret (pe_ifExp (pt_cmp (pc_eqI (pv 0) pe_int)) pe_int (pe_op op_add (pv 0) pe_int)))), ?_⟩
    refine ⟨_, rfl, _, _, rfl, rfl, _, rfl, ifd (fun h => ?_) (fun h => ?_)⟩
    · rw [if_pos h] at q
      exact q
    · rw [if_neg h] at q
      exact ⟨_, rfl, _, _, rfl, rfl, q⟩
end
end Sf

namespace Sf
open PySem PySem.Spec PyProof.Rows L2
section
variable {P : Program} {w : World} {K : PySem.W.Frag} {mg : Str → Option Value} {base : Heap} {f : Addr} {fd : FuncData}
/-- what is left of a number other than 0, and how often p was taken out -/
def Strip (n p : Int) (m : Nat) (u : Int) : Prop := n = p ^ m * u ∧ u % p ≠ 0
def spStripped : Sp := fun vs H Q _ => ∃ n p : Int, vs = [.int n, .int p] ∧ n ≠ 0 ∧ 2 ≤ p ∧ p.natAbs < 2 ^ 3000 ∧
  ∀ (m : Nat) (u : Int) (a : Addr), Strip n p m u → H a = none → Q (.ref a) (upd H a (.tup [.int m, .int u]))
theorem strip_less {u p : Int} (hu : u ≠ 0) (hp : 2 ≤ p) (h : u % p = 0) : (u / p).natAbs < u.natAbs ∧ u / p ≠ 0 ∧ u = p * (u / p) := by
  have e : u = p * (u / p) := by
    have := Int.emod_add_mul_ediv u p
    omega
  have h2 : u / p ≠ 0 := fun z => by
    rw [z] at e
    omega
  refine ⟨?_, h2, e⟩
  have e2 : u.natAbs = p.natAbs * (u / p).natAbs := by
    conv => lhs; rw [e]
    exact Int.natAbs_mul _ _
  have h3 : 0 < (u / p).natAbs := by omega
  have h4 : 2 ≤ p.natAbs := by omega
  have h5 : 2 * (u / p).natAbs ≤ p.natAbs * (u / p).natAbs := Nat.mul_le_mul_right _ h4
  omega
theorem ok_stripped (F : FnD K "stripped" "stripped" s_P_stripped f fd) : FnOk P w K mg base CX0 1 f fd ["number", "prime"] spStripped := by
  refine F.ok sc_P_stripped (fun vs H Q E h => ?_) (fun cdv A outer s H vs Q E hr h => ?_)
  · obtain ⟨n, p, rfl, _⟩ := h; rfl
  · obtain ⟨n, p, rfl, hn, hp, hb, q⟩ := h
    refine ⟨_, PSs.nox (pss_cons (ps_set (i := 2) sc_P_stripped.nd rfl (Or.inl rfl) pe_int)
      (pss_cons (ps_while PassesOwn.never (pt_cmp (pc_eqI (pe_op op_mod (pv 0) (pv 1)) pe_int)) (pss_cons (ps_set (i := 2) sc_P_stripped.nd rfl (Or.inl rfl) (pe_op op_add (pv 2) pe_int))
      (pss_one (ps_set (i := 0) sc_P_stripped.nd rfl (Or.inl rfl) (pe_op op_fdivW (pv 0) (pv 1))))))
      (pss_one (ps_ret (pe_tup (pa_cons (pv 2) (pa_cons (pv 0) pa_nil))))))), ?_⟩
    refine ⟨fun c σ H' => H' = H ∧ ∃ (m : Nat) (u : Int), σ = [some (.int u), some (.int p), some (.int m)] ∧ n = p ^ m * u ∧ u ≠ 0 ∧ c = u.natAbs, ⟨_, rfl, 0, n, rfl, by simp, hn, rfl⟩, ?_⟩
    rintro c σ _ ⟨rfl, m, u, rfl, e, hu, rfl⟩
    refine ⟨_, rfl, _, rfl, _, _, rfl, rfl, (by omega), _, _, rfl, rfl, _, rfl, ifd (fun h => ⟨_, fun _ _ z => z, ?_⟩) (fun h => ?_)⟩
    · have hl := strip_less hu hp h
      refine ⟨_, rfl, _, _, rfl, rfl, _, rfl, _, rfl, _, _, rfl, rfl, CDivW.of (by omega) hb, ?_⟩
      refine ⟨_, hl.1, rfl, m + 1, u / p, rfl, ?_, hl.2.1, rfl⟩
      rw [e, Int.pow_succ, Int.mul_assoc, ← hl.2.2]
    · refine ⟨_, rfl, _, rfl, (by show 2 ≤ sizeLine; decide), fun a ha => ?_⟩
      exact q m u a ⟨e, h⟩ ha
end
end Sf

namespace Sf
open PySem PySem.Spec PyProof.Rows L2
section
variable {P : Program} {w : World} {K : PySem.W.Frag} {mg : Str → Option Value} {base : Heap} {f : Addr} {fd : FuncData}
theorem pow_mod (a m : Int) (k : Nat) : (a % m) ^ k % m = a ^ k % m := by
  induction k with
  | zero => rw [Int.pow_zero, Int.pow_zero]
  | succ k ih => rw [Int.pow_succ, Int.pow_succ, Int.mul_emod, ih, Int.emod_emod_of_dvd _ (Int.dvd_refl _), ← Int.mul_emod]
/-- a power, reduced -/
def spPowMod : Sp := fun vs H Q _ => ∃ n k m : Int, vs = [.int n, .int k, .int m] ∧ 0 ≤ k ∧ 1 ≤ m ∧ m.natAbs < 2 ^ 1000 ∧ Q (.int (n ^ k.toNat % m)) H
theorem mod_lt3000 {a m : Int} (h1 : 1 ≤ m) (hb : m.natAbs < 2 ^ 1000) : (a % m).natAbs < 2 ^ 3000 := by
  have h2 := Int.emod_nonneg a (by omega : m ≠ 0)
  have h3 := Int.emod_lt_of_pos a (by omega : 0 < m)
  have h4 : (a % m).natAbs < 2 ^ 1000 := by omega
  exact Nat.lt_trans h4 (by decide +kernel)
theorem pow_half (a : Int) (k : Int) (hk : 0 < k) : a ^ k.toNat = (a * a) ^ (k / 2).toNat * a ^ (k % 2).toNat := by
  have e : k.toNat = (k / 2).toNat + (k / 2).toNat + (k % 2).toNat := by omega
  rw [e, Int.pow_add, Int.pow_add, Int.mul_pow]
theorem ok_powmod (F : FnD K "power_modulo" "power_modulo" s_P_power_modulo f fd) : FnOk P w K mg base CX0 1 f fd ["number", "many", "modulus"] spPowMod := by
  refine F.ok sc_P_power_modulo (fun vs H Q E h => ?_) (fun cdv A outer s H vs Q E hr h => ?_)
  · obtain ⟨n, k, m, rfl, _⟩ := h; rfl
  · obtain ⟨n, k, m, rfl, hk, hm, hb, q⟩ := h
    refine ⟨_, PSs.nox (pss_cons (ps_set (i := 3) sc_P_power_modulo.nd rfl (Or.inl rfl) (pe_op op_mod pe_int (pv 2)))
      (pss_cons (ps_set (i := 4) sc_P_power_modulo.nd rfl (Or.inl rfl) (pe_op op_mod (pv 0) (pv 2)))
      (pss_cons (ps_while PassesOwn.never (pt_cmp (pc_gt (pv 1) pe_int)) (pss_cons (ps_if (pt_cmp (pc_eqI (pe_op op_mod (pv 1) pe_int) pe_int)) (pss_one (ps_set (i := 3) sc_P_power_modulo.nd rfl (Or.inl rfl) (pe_op op_mod (pe_op op_mulW (pv 3) (pv 4)) (pv 2)))) pss_nil)
      (pss_cons (ps_set (i := 4) sc_P_power_modulo.nd rfl (Or.inl rfl) (pe_op op_mod (pe_op op_mulW (pv 4) (pv 4)) (pv 2)))
      (pss_one (ps_set (i := 1) sc_P_power_modulo.nd rfl (Or.inl rfl) (pe_op op_fdivW (pv 1) pe_int))))))
      (pss_one (ps_ret (pv 3)))))), ?_⟩
    have hm0 : (0 : Int) < m := by omega
    refine ⟨_, rfl, _, _, rfl, rfl, hm0, _, rfl, _, rfl, _, _, rfl, rfl, hm0, ?_⟩
    refine ⟨fun c σ H' => H' = H ∧ ∃ k' made sq : Int, σ = [some (.int n), some (.int k'), some (.int m), some (.int made), some (.int sq)] ∧ 0 ≤ k' ∧ (made * sq ^ k'.toNat) % m = n ^ k.toNat % m ∧ made % m = made ∧ made.natAbs < 2 ^ 3000 ∧ sq.natAbs < 2 ^ 3000 ∧ c = k'.toNat,
      ⟨_, rfl, k, 1 % m, n % m, rfl, hk, ?_, Int.emod_emod_of_dvd _ (Int.dvd_refl _), mod_lt3000 hm hb, mod_lt3000 hm hb, rfl⟩, ?_⟩
    · rw [Int.mul_emod, Int.emod_emod_of_dvd _ (Int.dvd_refl _), ← Int.mul_emod, Int.one_mul]
      exact pow_mod _ _ _
    rintro c σ _ ⟨rfl, k', made, sq, rfl, hk', e, em, b1, b2, rfl⟩
    refine ⟨_, rfl, _, _, rfl, rfl, _, rfl, ifd (fun h => ⟨_, fun _ _ z => z, ?_⟩) (fun h => ?_)⟩
    · have hh := pow_half sq k' h
      have hsq : ((sq * sq) ^ (k' / 2).toNat) % m = ((sq * sq % m) ^ (k' / 2).toNat) % m := (pow_mod _ _ _).symm
      refine ⟨_, rfl, _, _, rfl, rfl, (by show (0 : Int) < 2; decide), _, _, rfl, rfl, _, rfl, ifd (fun h2 => ?_) (fun h2 => ?_)⟩
      · refine ⟨_, rfl, _, rfl, _, _, rfl, rfl, CMulW.of b1 b2, _, rfl, _, _, rfl, rfl, hm0, ?_⟩
        refine ⟨_, rfl, _, rfl, _, _, rfl, rfl, CMulW.of b2 b2, _, rfl, _, _, rfl, rfl, hm0, ?_⟩
        refine ⟨_, rfl, _, _, rfl, rfl, CDivW.of (by decide) (by decide +kernel), ?_⟩
        refine ⟨_, ?_, rfl, k' / 2, _, _, rfl, by omega, ?_, Int.emod_emod_of_dvd _ (Int.dvd_refl _), mod_lt3000 hm hb, mod_lt3000 hm hb, rfl⟩
        · omega
        · rw [← e, hh, h2]
          show made * sq % m * (sq * sq % m) ^ (k' / 2).toNat % m = made * ((sq * sq) ^ (k' / 2).toNat * sq ^ 1) % m
          rw [Int.mul_emod, ← hsq, Int.emod_emod_of_dvd _ (Int.dvd_refl _), ← Int.mul_emod, Int.pow_one]
          congr 1
          rw [Int.mul_assoc, Int.mul_comm sq]
      · refine ⟨_, rfl, _, rfl, _, _, rfl, rfl, CMulW.of b2 b2, _, rfl, _, _, rfl, rfl, hm0, ?_⟩
        refine ⟨_, rfl, _, _, rfl, rfl, CDivW.of (by decide) (by decide +kernel), ?_⟩
        refine ⟨_, ?_, rfl, k' / 2, _, _, rfl, by omega, ?_, em, b1, mod_lt3000 hm hb, rfl⟩
        · omega
        · have h3 : k' % 2 = 0 := by omega
          rw [← e, hh, h3]
          show made * (sq * sq % m) ^ (k' / 2).toNat % m = made * ((sq * sq) ^ (k' / 2).toNat * sq ^ 0) % m
          rw [Int.mul_emod, ← hsq, ← Int.mul_emod, Int.pow_zero, Int.mul_one]
    · have h3 : k' = 0 := by omega
      subst h3
      have e2 : made = n ^ k.toNat % m := by
        rw [← e]
        show made = made * sq ^ 0 % m
        rw [Int.pow_zero, Int.mul_one, em]
      refine ⟨_, rfl, ?_⟩
      rw [e2]
      exact q
end
end Sf

namespace Sf
/-! primes by trial -/
def PrP (n : Int) : Prop := 2 ≤ n ∧ ∀ k : Int, 2 ≤ k → k < n → n % k ≠ 0
theorem prp_of_trial {n d : Int} (hn : 2 ≤ n) (hd : 2 ≤ d) (h : ∀ k : Int, 2 ≤ k → k < d → n % k ≠ 0) (hl : n < d * d) : PrP n := by
  refine ⟨hn, fun k h2 hk hz => ?_⟩
  by_cases hkd : k < d
  · exact h k h2 hkd hz
  · have e : n = k * (n / k) := by
      have := Int.emod_add_mul_ediv n k
      omega
    have hm0 : 0 < n / k := by
      rcases Int.lt_or_le 0 (n / k) with z | z
      · exact z
      · have : k * (n / k) ≤ 0 := Int.mul_nonpos_of_nonneg_of_nonpos (by omega) z
        omega
    have hm1 : n / k ≠ 1 := fun z => by
      rw [z] at e
      omega
    have h3 : d * (n / k) ≤ k * (n / k) := Int.mul_le_mul_of_nonneg_right (by omega) (by omega)
    have h4 : d * (n / k) < d * d := by omega
    have h5 : n / k < d := Int.lt_of_mul_lt_mul_left h4 (by omega)
    refine h (n / k) (by omega) h5 ?_
    rw [e]
    exact Int.emod_eq_zero_of_dvd ⟨k, by rw [Int.mul_ediv_cancel_left _ (by omega : k ≠ 0)]; exact Int.mul_comm _ _⟩
/-- no divisor below d; d is 2 or odd -/
def NoDiv (n d : Int) : Prop := 2 ≤ d ∧ (d = 2 ∨ d % 2 = 1) ∧ ∀ k : Int, 2 ≤ k → k < d → n % k ≠ 0
theorem nodiv2 (n : Int) : NoDiv n 2 := ⟨by omega, .inl rfl, fun k h1 h2 => by omega⟩
theorem mod_of_dvd {n a b : Int} (h : n % b = 0) (hb : b % a = 0) : n % a = 0 := by
  have h1 : b ∣ n := Int.dvd_of_emod_eq_zero h
  have h2 : a ∣ b := Int.dvd_of_emod_eq_zero hb
  exact Int.emod_eq_zero_of_dvd (Int.dvd_trans h2 h1)
theorem nodiv_next {n d : Int} (h : NoDiv n d) (hd : n % d ≠ 0) : NoDiv n (if d = 2 then 3 else d + 2) := by
  obtain ⟨h1, h2, h3⟩ := h
  by_cases e : d = 2
  · rw [if_pos e]
    refine ⟨by omega, .inr rfl, fun k a b => ?_⟩
    have : k = d := by omega
    rw [this]
    exact hd
  · rw [if_neg e]
    refine ⟨by omega, .inr (by omega), fun k a b => ?_⟩
    by_cases c : k < d
    · exact h3 k a c
    · by_cases c2 : k = d
      · rw [c2]
        exact hd
      · intro z
        exact h3 2 (by omega) (by omega) (mod_of_dvd z (by omega))
theorem nodiv_prime {n d : Int} (h : NoDiv n d) (hd : n % d = 0) : PrP d := by
  refine ⟨h.1, fun k a b z => ?_⟩
  exact h.2.2 k a b (mod_of_dvd hd z)
theorem nodiv_of {n u d : Int} (h : NoDiv n d) (hu : n % u = 0) : NoDiv u d := ⟨h.1, h.2.1, fun k a b z => h.2.2 k a b (mod_of_dvd hu z)⟩
theorem nodiv_lt {n d : Int} (h : NoDiv n d) (hn : 2 ≤ n) : d ≤ n := by
  rcases Int.lt_or_le n d with z | z
  · exact absurd Int.emod_self (h.2.2 n hn z)
  · exact z
/-! factors -/
def prodF : List (Int × Nat) → Int
  | [] => 1
  | q :: l => q.1 ^ q.2 * prodF l
theorem prodF_append : ∀ l m : List (Int × Nat), prodF (l ++ m) = prodF l * prodF m
  | [], m => by
    show prodF m = 1 * prodF m
    rw [Int.one_mul]
  | q :: l, m => by
    show q.1 ^ q.2 * prodF (l ++ m) = q.1 ^ q.2 * prodF l * prodF m
    rw [prodF_append l m, Int.mul_assoc]
def Sorted (l : List (Int × Nat)) : Prop := l.Pairwise fun a b => a.1 < b.1
def Primes (l : List (Int × Nat)) : Prop := ∀ q ∈ l, PrP q.1 ∧ 1 ≤ q.2
def FactOf (n : Int) (l : List (Int × Nat)) : Prop := prodF l = n ∧ Sorted l ∧ Primes l
theorem pow_pos_int {p : Int} (h : 0 < p) (e : Nat) : 0 < p ^ e := Int.pow_pos h
theorem pow_ge {p : Int} (h : 2 ≤ p) : ∀ {e : Nat}, 1 ≤ e → 2 ≤ p ^ e
  | 0, h0 => by omega
  | e + 1, _ => by
    rw [Int.pow_succ]
    have h1 : 0 < p ^ e := pow_pos_int (by omega) e
    have h2 : 1 * 2 ≤ p ^ e * p := Int.mul_le_mul (by omega) h (by omega) (by omega)
    omega
theorem prodF_len : ∀ {l : List (Int × Nat)}, Primes l → (2 : Int) ^ l.length ≤ prodF l
  | [], _ => Int.le_refl _
  | q :: l, h => by
    have ih := prodF_len (l := l) fun r hr => h r (List.mem_cons_of_mem _ hr)
    obtain ⟨hp, he⟩ := h q List.mem_cons_self
    have h1 : 2 ≤ q.1 ^ q.2 := pow_ge hp.1 he
    show (2 : Int) ^ (l.length + 1) ≤ q.1 ^ q.2 * prodF l
    rw [Int.pow_succ, Int.mul_comm]
    have h0 : (0 : Int) < 2 ^ l.length := pow_pos_int (by omega) _
    exact Int.mul_le_mul h1 ih (by omega) (by omega)
theorem len_of_prod {l : List (Int × Nat)} (h : Primes l) (hb : prodF l ≤ 1000000000) : l.length < 30 := by
  have h1 := prodF_len h
  rcases Nat.lt_or_ge l.length 30 with z | z
  · exact z
  · have e : l.length = 30 + (l.length - 30) := by omega
    have h3 : (2 : Int) ^ 30 = 1073741824 := by decide
    have h4 : (0 : Int) < 2 ^ (l.length - 30) := pow_pos_int (by omega) _
    rw [e, Int.pow_add, h3] at h1
    omega
end Sf

namespace Sf
open PySem PySem.Spec PyProof.Rows L2
/-- what the module's names hold -/
structure Glob (mg : Str → Option Value) : Prop where
  m_isinstance : mg "isinstance" = none
  m_int : mg "int" = none
  m_bool : mg "bool" = none
  m_abs : mg "abs" = none
  m_sorted : mg "sorted" = none
  m_tuple : mg "tuple" = none
  m_set : mg "set" = none
  m_max : mg "max" = none
  m_len : mg "len" = none
  m_sum : mg "sum" = none
  m_range : mg "range" = none
  m_dict : mg "dict" = none
  m_min : mg "min" = none
  m_MAX_NUMBER : ∃ t, mg "MAX_NUMBER" = some (.int 1000000000 t)
/-- what isinstance(x, int) and not isinstance(x, bool) comes to -/
def IntB (K : PySem.W.Frag) (H : Hp) (x : V) (b : Bool) : Prop := ∃ (t : String) (bi bb : Bool), TyX K H x (.type t) ∧ kitB t "int" = some bi ∧ kitB t "bool" = some bb ∧ b = (bi && !bb)
theorem IntB.int {K : PySem.W.Frag} {H : Hp} (i : Int) : IntB K H (.int i) true := ⟨"int", true, false, .base (.int i), by decide +kernel, by decide +kernel, rfl⟩
theorem IntB.bl {K : PySem.W.Frag} {H : Hp} (i : Bool) : IntB K H (.bl i) false := ⟨"bool", true, true, .base (.bl i), by decide +kernel, by decide +kernel, rfl⟩
theorem IntB.non {K : PySem.W.Frag} {H : Hp} : IntB K H .non false := ⟨"NoneType", false, false, .base .non, by decide +kernel, by decide +kernel, rfl⟩
theorem IntB.str {K : PySem.W.Frag} {H : Hp} (x : Str) : IntB K H (.str x) false := ⟨"str", false, false, .base (.str x), by decide +kernel, by decide +kernel, rfl⟩
theorem IntB.lst {K : PySem.W.Frag} {H : Hp} {a : Addr} {xs : List V} (h : H a = some (.lst xs)) : IntB K H (.ref a) false := ⟨"list", false, false, .base (.lst h), by decide +kernel, by decide +kernel, rfl⟩
theorem IntB.tup {K : PySem.W.Frag} {H : Hp} {a : Addr} {xs : List V} (h : H a = some (.tup xs)) : IntB K H (.ref a) false := ⟨"tuple", false, false, .base (.tup h), by decide +kernel, by decide +kernel, rfl⟩
theorem IntB.dK {K : PySem.W.Frag} {H : Hp} {a : Addr} {xs : List (Key × V)} (h : H a = some (.dK xs)) : IntB K H (.ref a) false := ⟨"dict", false, false, .base (.dK h), by decide +kernel, by decide +kernel, rfl⟩
end Sf

namespace Sf
open PySem PySem.Spec PyProof.Rows L2
section
variable {P : Program} {w : World} {K : PySem.W.Frag} {mg : Str → Option Value} {base : Heap} {f : Addr} {fd : FuncData}
def spIsInt (K : PySem.W.Frag) : Sp := fun vs H Q _ => ∃ (x : V) (b : Bool), vs = [x] ∧ IntB K H x b ∧ Q (.bl b) H
theorem ok_is_integer (F : FnD K "is_integer" "is_integer" s_P_is_integer f fd) (T : Glob mg) : FnOk P w K mg base CX0 1 f fd ["value"] (spIsInt K) := by
  refine F.ok sc_P_is_integer (fun vs H Q E h => ?_) (fun cdv A outer s H vs Q E hr h => ?_)
  · obtain ⟨x, b, rfl, _⟩ := h; rfl
  · obtain ⟨x, b, rfl, ⟨t, bi, bb, ty, h1, h2, rfl⟩, q⟩ := h
    refine ⟨_, PSs.nox (pss_one (ps_ret (pe_and (pe_callB call_isi (by rfl) T.m_isinstance (by decide +kernel) (pa_cons (pv 0) (pa_cons (pe_bltn (v := .ty "int") (u := .type "int") (by rfl) T.m_int (by decide +kernel) rfl) pa_nil))) (pe_one (pe_not (pe_callB call_isi (by rfl) T.m_isinstance (by decide +kernel) (pa_cons (pv 0) (pa_cons (pe_bltn (v := .ty "bool") (u := .type "bool") (by rfl) T.m_bool (by decide +kernel) rfl) pa_nil)))))))), ?_⟩
    refine ⟨_, rfl, _, _, _, _, _, rfl, .ty "int", ty, kit_ty h1, _, rfl, ifb (fun e => ?_) (fun e => ?_)⟩
    · refine ⟨_, rfl, _, _, _, _, _, rfl, .ty "bool", ty, kit_ty h2, _, rfl, ?_⟩
      rw [e] at q
      exact q
    · rw [e] at q
      exact q
end
end Sf

namespace Sf
open PySem PySem.Spec PyProof.Rows L2
section
variable {P : Program} {w : World} {K : PySem.W.Frag} {mg : Str → Option Value} {base : Heap} {f : Addr} {fd : FuncData}
def spCheckNumber : Sp := fun vs H Q _ => ∃ n : Int, vs = [.int n] ∧ n ≠ 0 ∧ -1000000000 ≤ n ∧ n ≤ 1000000000 ∧ Q .non H
theorem ok_check_number (F : FnD K "check_number" "check_number" s_P_check_number f fd) (T : Glob mg) (C_P_is_integer : Cal P w K mg base 1 "is_integer" ["value"] (spIsInt K)) : FnOk P w K mg base CX0 2 f fd ["value"] spCheckNumber := by
  refine F.ok sc_P_check_number (fun vs H Q E h => ?_) (fun cdv A outer s H vs Q E hr h => ?_)
  · obtain ⟨n, rfl, _⟩ := h; rfl
  · obtain ⟨n, rfl, h0, h1, h2, q⟩ := h
    obtain ⟨tM, hc_MAX_NUMBER⟩ := T.m_MAX_NUMBER
    refine ⟨_, PSs.nox (pss_one (ps_if (PW.pt (pw_or (pt_not (pt_val (pe_cal C_P_is_integer (hr.mono (by decide)) (pa_cons (pv 0) pa_nil)))) (pw_or (pt_cmp (pc_eqI (pv 0) pe_int)) (pw_or1 (pt_cmp (pc_gt (pe_callB call_abs (by rfl) T.m_abs (by decide +kernel) (pa_cons (pv 0) pa_nil)) (pe_glob (v := .int 1000000000) rfl hc_MAX_NUMBER ⟨_, rfl⟩))))))) (pss_one ps_never) pss_nil)), ?_⟩
    refine ⟨_, rfl, .int n, true, rfl, .int n, _, rfl, iteF ?_⟩
    refine ⟨_, rfl, _, _, rfl, rfl, _, rfl, ifd (fun e => absurd e h0) (fun _ => ?_)⟩
    refine ⟨_, rfl, n, rfl, _, _, rfl, rfl, _, rfl, ifd (fun e => ?_) (fun e => ?_)⟩
    · exfalso
      split at e <;> omega
    · exact q
end
end Sf

namespace Sf
open PySem PySem.Spec PyProof.Rows L2
section
variable {P : Program} {w : World} {K : PySem.W.Frag} {mg : Str → Option Value} {base : Heap} {f : Addr} {fd : FuncData}
def spIsPrime (K : PySem.W.Frag) : Sp := fun vs H Q _ => ∃ (x : V) (b : Bool), vs = [x] ∧ IntB K H x b ∧ (b = true → ∃ n, x = .int n) ∧ ∀ r : Bool, (r = true ↔ ∃ n, x = .int n ∧ PrP n ∧ n ≤ 1000000000) → Q (.bl r) H
theorem ok_is_prime (F : FnD K "is_prime" "is_prime" s_P_is_prime f fd) (T : Glob mg) (C_P_is_integer : Cal P w K mg base 1 "is_integer" ["value"] (spIsInt K)) (C_P_next_divisor : Cal P w K mg base 1 "next_divisor" ["divisor"] spNext) :
    FnOk P w K mg base CX0 2 f fd ["value"] (spIsPrime K) := by
  refine F.ok sc_P_is_prime (fun vs H Q E h => ?_) (fun cdv A outer s H vs Q E hr h => ?_)
  · obtain ⟨x, b, rfl, _⟩ := h; rfl
  · obtain ⟨x, b, rfl, hx, hi, q⟩ := h
    obtain ⟨tM, hc_MAX_NUMBER⟩ := T.m_MAX_NUMBER
    refine ⟨_, PSs.nox (pss_cons (ps_if (PW.pt (pw_or (pt_not (pt_val (pe_cal C_P_is_integer (hr.mono (by decide)) (pa_cons (pv 0) pa_nil)))) (pw_or (pt_cmp (pc_lt (pv 0) pe_int)) (pw_or1 (pt_cmp (pc_gt (pv 0) (pe_glob (v := .int 1000000000) rfl hc_MAX_NUMBER ⟨_, rfl⟩))))))) (pss_one (ps_ret pe_bl)) pss_nil)
      (pss_cons (ps_set (i := 1) sc_P_is_prime.nd rfl (Or.inl rfl) pe_int)
      (pss_cons (ps_while PassesOwn.never (pt_cmp (pc_le (pe_op op_mulW (pv 1) (pv 1)) (pv 0))) (pss_cons (ps_if (pt_cmp (pc_eqI (pe_op op_mod (pv 0) (pv 1)) pe_int)) (pss_one (ps_ret pe_bl)) pss_nil)
      (pss_one (ps_set (i := 1) sc_P_is_prime.nd rfl (Or.inl rfl) (pe_cal C_P_next_divisor (hr.mono (by decide)) (pa_cons (pv 1) pa_nil))))))
      (pss_one (ps_ret pe_bl))))), ?_⟩
    refine ⟨_, rfl, x, b, rfl, hx, _, rfl, ?_⟩
    cases b with
    | false =>
      refine iteT (q false ⟨fun z => Bool.noConfusion z, fun ⟨n, e, _⟩ => ?_⟩)
      subst e
      obtain ⟨t, bi, bb, ty, k1, k2, k3⟩ := hx
      cases ty with
      | base ty => cases ty with
        | int _ =>
          have e1 : kitB "int" "int" = some true := by decide +kernel
          have e2 : kitB "int" "bool" = some false := by decide +kernel
          rw [e1] at k1
          rw [e2] at k2
          cases k1
          cases k2
          cases k3
    | true =>
      obtain ⟨n, rfl⟩ := hi rfl
      have qf : ¬ (PrP n ∧ n ≤ 1000000000) → Q (.bl false) H := fun hn => q false ⟨fun z => Bool.noConfusion z, fun ⟨m, e, h⟩ => by
        cases e
        exact absurd h hn⟩
      refine iteF ⟨_, rfl, _, _, rfl, rfl, _, rfl, ifd (fun e => qf fun z => ?_) (fun e => ⟨_, rfl, _, _, rfl, rfl, _, rfl, ifd (fun e2 => qf fun z => ?_) (fun e2 => ?_)⟩)⟩
      · have := z.1.1
        omega
      · have := z.2
        omega
      · refine ⟨fun c σ H' => H' = H ∧ ∃ d : Int, σ = [some (.int n), some (.int d)] ∧ NoDiv n d ∧ d ≤ n + 2 ∧ c = (n + 2 - d).toNat, ⟨_, rfl, 2, rfl, nodiv2 n, by omega, rfl⟩, ?_⟩
        rintro c σ _ ⟨rfl, d, rfl, hd, hdn, rfl⟩
        have hd2 := hd.1
        have hdb : d.natAbs < 2 ^ 3000 := Nat.lt_trans (by omega : d.natAbs < 2 ^ 31) (by decide +kernel)
        refine ⟨_, rfl, _, rfl, _, _, rfl, rfl, CMulW.of hdb hdb, _, rfl, _, _, rfl, rfl, _, rfl, ifd (fun h => ⟨_, fun _ _ z => z, ?_⟩) (fun h => ?_)⟩
        · refine ⟨_, rfl, _, rfl, _, _, rfl, rfl, (by omega), _, _, rfl, rfl, _, rfl, ifd (fun h2 => ?_) (fun h2 => ?_)⟩
          · refine qf fun z => ?_
            have h3 : d < n := by
              have : d * 2 ≤ d * d := Int.mul_le_mul_of_nonneg_left hd2 (by omega)
              omega
            exact z.1.2 d hd2 h3 h2
          · refine ⟨_, rfl, d, rfl, ?_⟩
            have hlt : d ≤ n := by
              have : d * 1 ≤ d * d := Int.mul_le_mul_of_nonneg_left (by omega) (by omega)
              omega
            have hnx := nodiv_next hd h2
            refine ⟨_, ?_, rfl, _, rfl, hnx, ?_, rfl⟩
            · split <;> omega
            · split <;> omega
        · refine q true ⟨fun _ => ⟨n, rfl, prp_of_trial (by omega) hd2 hd.2.2 (by omega), by omega⟩, fun _ => rfl⟩
end
end Sf

namespace Sf
open PySem PySem.Spec PyProof.Rows L2
section
variable {P : Program} {w : World} {K : PySem.W.Frag} {mg : Str → Option Value} {base : Heap} {f : Addr} {fd : FuncData}
/-- the residue sign by a power -/
def restSign (n p : Int) : Int := if n % p = 0 then 0 else if p = 2 then (if n % 8 = 1 ∨ n % 8 = 7 then 1 else -1) else if n ^ ((p - 1) / 2).toNat % p = 1 then 1 else -1
def spRestSign : Sp := fun vs H Q _ => ∃ n p : Int, vs = [.int n, .int p] ∧ 2 ≤ p ∧ p.natAbs < 2 ^ 1000 ∧ ∀ H', Same H H' → Q (.int (restSign n p)) H'
theorem ok_rest_sign (F : FnD K "rest_sign" "rest_sign" s_P_rest_sign f fd) (C_P_power_modulo : Cal P w K mg base 1 "power_modulo" ["number", "many", "modulus"] spPowMod) : FnOk P w K mg base CX0 2 f fd ["number", "prime"] spRestSign := by
  refine F.ok sc_P_rest_sign (fun vs H Q E h => ?_) (fun cdv A outer s H vs Q E hr h => ?_)
  · obtain ⟨n, p, rfl, _⟩ := h; rfl
  · obtain ⟨n, p, rfl, hp, hb, q⟩ := h
    refine ⟨_, PSs.nox (pss_cons (ps_if (pt_cmp (pc_eqI (pe_op op_mod (pv 0) (pv 1)) pe_int)) (pss_one (ps_ret pe_int)) pss_nil)
      (pss_cons (ps_if (pt_cmp (pc_eqI (pv 1) pe_int)) (pss_one (ps_ret (pe_ifExp (pt_cmpR op_in_seq (pe_op op_mod (pv 0) pe_int) (pe_tup (pa_cons pe_int (pa_cons pe_int pa_nil))) (by rfl)) pe_int (pe_un un_neg pe_int)))) pss_nil)
      (pss_one (ps_ret (pe_ifExp (pt_cmp (pc_eqI (pe_cal C_P_power_modulo (hr.mono (by decide)) (pa_cons (pv 0) (pa_cons (pe_op op_fdivW (pe_op op_sub (pv 1) pe_int) pe_int) (pa_cons (pv 1) pa_nil)))) pe_int)) pe_int (pe_un un_neg pe_int)))))), ?_⟩
    unfold restSign at q
    refine ⟨_, rfl, _, rfl, _, _, rfl, rfl, (by omega), _, _, rfl, rfl, _, rfl, ifd (fun h => ?_) (fun h => ?_)⟩
    · rw [if_pos h] at q
      exact q H (Same.refl H)
    · rw [if_neg h] at q
      refine ⟨_, rfl, _, _, rfl, rfl, _, rfl, ifd (fun h2 => ?_) (fun h2 => ?_)⟩
      · rw [if_pos h2] at q
        refine ⟨_, rfl, _, _, rfl, rfl, (by show (0 : Int) < 8; decide), (by show 2 ≤ sizeLine; decide), fun a ha => ?_⟩
        refine ⟨a, _, rfl, .inr (.inl (.inl upd_same)), rfl, rfl, _, rfl, ?_⟩
        rw [inV_two]
        refine ifd (fun e => ?_) (fun e => ?_)
        · rw [if_pos e] at q
          exact q _ (same_upd ha)
        · rw [if_neg e] at q
          exact ⟨_, rfl, q _ (same_upd ha)⟩
      · rw [if_neg h2] at q
        refine ⟨_, rfl, _, rfl, _, _, rfl, rfl, _, _, rfl, rfl, CDivW.of (by decide) (by decide +kernel), _, rfl, n, (p - 1) / 2, p, rfl, by omega, by omega, hb, _, _, rfl, rfl, _, rfl, ifd (fun h3 => ?_) (fun h3 => ?_)⟩
        · rw [if_pos h3] at q
          exact q H (Same.refl H)
        · rw [if_neg h3] at q
          exact ⟨_, rfl, q H (Same.refl H)⟩
end
end Sf

namespace Sf
open PySem PySem.Spec PyProof.Rows L2
/-- the sack of draws: three numbers, so many draws made -/
def SackO (n : Nat) (xs : List V) : Prop := ∃ a b c : Int, xs = [.int a, .int b, .int c] ∧ 0 ≤ a ∧ a < 10 ^ 400 ∧ 0 ≤ b ∧ b < 1000000000000000000000000 ∧ 0 ≤ c ∧ c ≤ n
theorem sq_upd {K : PySem.W.Frag} {H : Hp} {a p : Addr} {xs : List V} {o : HO} (h : SqL K H a xs) (n : a ≠ p) : SqL K (upd H p o) a xs := by
  rcases h with (h | ⟨u, h⟩) | h
  · exact .inl (.inl (by rw [upd_ne n]; exact h))
  · exact .inl (.inr ⟨u, by rw [upd_ne n]; exact h⟩)
  · exact .inr h
end Sf

namespace Sf
open PySem PySem.Spec PyProof.Rows L2
section
variable {P : Program} {w : World} {K : PySem.W.Frag} {mg : Str → Option Value} {base : Heap} {f : Addr} {fd : FuncData}
structure TakeP (vs : List V) (H : Hp) (Q : VK) : Prop where
  ex : ∃ (p : Addr) (xs : List V) (n : Nat) (m : Int), vs = [.ref p, .int m] ∧ H p = some (.lst xs) ∧ SackO n xs ∧ n ≤ 1000000 ∧ 1 ≤ m ∧ m < 10 ^ 80 ∧
  ∀ (r : Int) (ys : List V), 0 ≤ r → r < m → SackO (n + 1) ys → Q (.int r) (upd H p (.lst ys))
def spTake : Sp := fun vs H Q _ => TakeP vs H Q
theorem ok_take (F : FnD K "_law_take" "_law_take" s_L_take f fd) (T : Glob mg) : FnOk P w K mg base CX0 1 f fd ["_law_sack_here", "_law_many"] spTake := by
  refine F.ok sc_L_take (fun vs H Q E h => ?_) (fun cdv A outer s H vs Q E hr h => ?_)
  · obtain ⟨p, xs, n, m, rfl, _⟩ := h.ex; rfl
  · obtain ⟨p, _, n, m, rfl, hp, ⟨a, b, c, rfl, a0, a1, b0, b1, c0, c1⟩, hn, hm, hm1, q⟩ := h.ex
    have m0 : (0 : Int) < m := by omega
    have mb : m.natAbs < 2 ^ 3000 := lt3000 (by omega) (Int.lt_trans hm1 (by decide +kernel))
    have hS : SqL K H p [.int a, .int b, .int c] := SqL.of hp
    refine ⟨_, PSs.nox (pss_cons (ps_if (pt_cmp (pc_gt (pe_ix ix_list (pv 0) pe_int (fun _ _ => rfl)) pe_int)) (pss_cons (ps_set (i := 2) sc_L_take.nd rfl (Or.inl rfl) (pe_op op_mod (pe_callTy call_int1 (by rfl) T.m_int (by decide +kernel) (pa_cons (pe_ix ix_list (pv 0) pe_int (fun _ _ => rfl)) pa_nil)) (pv 1)))
      (pss_cons (ps_asg (pe_op op_fdivW (pe_callTy call_int1 (by rfl) T.m_int (by decide +kernel) (pa_cons (pe_ix ix_list (pv 0) pe_int (fun _ _ => rfl)) pa_nil)) (pv 1)) (pg_sub (pv 0) pe_int set_list))
      (pss_one (ps_ret (pv 2))))) pss_nil)
      (pss_cons (ps_asg (pe_op op_add (pe_ix ix_list (pv 0) pe_int (fun _ _ => rfl)) pe_int) (pg_sub (pv 0) pe_int set_list))
      (pss_cons (ps_set (i := 3) sc_L_take.nd rfl (Or.inl rfl) (pe_op op_mod (pe_callTy call_int1 (by rfl) T.m_int (by decide +kernel) (pa_cons (pe_op op_add (pe_ix ix_list (pv 0) pe_int (fun _ _ => rfl)) (pe_op op_mulW pe_int (pe_ix ix_list (pv 0) pe_int (fun _ _ => rfl)))) pa_nil)) pe_int))
      (pss_cons (ps_set (i := 4) sc_L_take.nd rfl (Or.inl rfl) (pe_op op_mod (pe_callTy call_int1 (by rfl) T.m_int (by decide +kernel) (pa_cons (pe_op op_add (pe_op op_add (pe_op op_mulW (pv 3) (pv 3)) (pe_op op_mulW pe_int (pe_ix ix_list (pv 0) pe_int (fun _ _ => rfl)))) pe_int) pa_nil)) pe_int))
      (pss_one (ps_ret (pe_op op_mod (pe_callTy call_int1 (by rfl) T.m_int (by decide +kernel) (pa_cons (pe_op op_fdivW (pe_op op_mulW (pv 4) (pe_op op_add (pe_op op_mod (pv 3) pe_int) pe_int)) pe_int) pa_nil)) (pv 1)))))))), ?_⟩
    refine ⟨_, rfl, p, _, 0, .int a, rfl, rfl, hS, rfl, _, _, rfl, rfl, _, rfl, ifd (fun h => ?_) (fun h => ?_)⟩
    · refine ⟨_, rfl, p, _, 0, .int a, rfl, rfl, hS, rfl, .inl ⟨_, rfl, _, rfl, _, _, rfl, rfl, m0, ?_⟩⟩
      refine ⟨_, rfl, p, _, 0, .int a, rfl, rfl, hS, rfl, .inl ⟨_, rfl, _, rfl, _, _, rfl, rfl, CDivW.of m0 mb, ?_⟩⟩
      refine ⟨_, rfl, p, _, 0, 0, rfl, rfl, hp, rfl, ?_⟩
      refine ⟨_, rfl, q (a % m) _ (Int.emod_nonneg _ (by omega)) (Int.emod_lt_of_pos _ m0) ⟨a / m, b, c, rfl, Int.ediv_nonneg a0 (by omega), ?_, b0, b1, c0, by omega⟩⟩
      exact Int.lt_of_le_of_lt (Int.ediv_le_self m a0) a1
    · refine ⟨_, rfl, p, _, 2, .int c, rfl, rfl, hS, rfl, _, _, rfl, rfl, ?_⟩
      refine ⟨_, rfl, p, _, 2, 2, rfl, rfl, hp, rfl, ?_⟩
      have hS2 : SqL K (upd H p (.lst [.int a, .int b, .int (c + 1)])) p [.int a, .int b, .int (c + 1)] := SqL.of upd_same
      refine ⟨_, rfl, p, _, 1, .int b, rfl, rfl, hS2, rfl, _, rfl, p, _, 2, .int (c + 1), rfl, rfl, hS2, rfl, _, _, rfl, rfl, CMulW.of (lt3000s (by decide) (by decide)) (lt3000s (by omega) (by omega)), _, _, rfl, rfl, .inl ⟨_, rfl, _, _, rfl, rfl, (by show (0 : Int) < 2305843009213693951; decide), ?_⟩⟩
      refine ⟨_, rfl, _, rfl, _, _, rfl, rfl, CMulW.of (lt3000s (by omega) (by omega)) (lt3000s (by omega) (by omega)), _, rfl, p, _, 2, .int (c + 1), rfl, rfl, hS2, rfl, _, _, rfl, rfl, CMulW.of (lt3000s (by decide) (by decide)) (lt3000s (by omega) (by omega)), _, _, rfl, rfl, _, _, rfl, rfl, .inl ⟨_, rfl, _, _, rfl, rfl, (by show (0 : Int) < 1152921504606846883; decide), ?_⟩⟩
      refine ⟨_, rfl, _, rfl, _, _, rfl, rfl, (by show (0 : Int) < 1021; decide), _, _, rfl, rfl, _, _, rfl, rfl, CMulW.of (lt3000s (by omega) (by omega)) (lt3000s (by omega) (by omega)), _, _, rfl, rfl, CDivW.of (by decide) (lt3000s (by decide) (by decide)), .inl ⟨_, rfl, _, rfl, _, _, rfl, rfl, m0, ?_⟩⟩
      refine q _ _ (Int.emod_nonneg _ (by omega)) (Int.emod_lt_of_pos _ m0) ⟨a, b, c + 1, rfl, a0, a1, b0, b1, by omega, by omega⟩
end
end Sf

namespace Sf
open PySem PySem.Spec PyProof.Rows L2
theorem cut_first (xs : List V) : cutV xs none (some 1) = xs.take 1 := by
  unfold cutV
  rw [show HT.sIx xs.length xs.length (some 1) = min 1 xs.length from HT.sIx_nat xs.length xs.length 1, HT.sIx_none]
  cases xs with
  | nil => rfl
  | cons x r =>
    rw [show min 1 (x :: r).length = 1 by
      rw [List.length_cons]
      omega]
    rfl
theorem same_ne {H H' : Hp} {p q : Addr} {o u : HO} (s : Same H H') (h : H p = some o) (n : H q = none) : p ≠ q := ne_of_none h n
section
variable {P : Program} {w : World} {K : PySem.W.Frag} {mg : Str → Option Value} {base : Heap} {f : Addr} {fd : FuncData}
def spSack (K : PySem.W.Frag) : Sp := fun vs H Q _ => ∃ (a : Addr) (ns : List Int) (t : Nat), vs = [.ref a, .int t] ∧ SqL K H a (ns.map V.int) ∧ ns.length ≤ 63 ∧ t ≤ 10 ∧
  ∀ (p : Addr) (xs : List V) (H' : Hp), Same H H' → H p = none → H' p = some (.lst xs) → SackO 0 xs → Q (.ref p) H'
theorem ok_sack (F : FnD K "_law_sack" "_law_sack" s_L_sack f fd) (T : Glob mg) : FnOk P w K mg base CX0 1 f fd ["_law_script", "_law_turn"] (spSack K) := by
  refine F.ok sc_L_sack (fun vs H Q E h => ?_) (fun cdv A outer s H vs Q E hr h => ?_)
  · obtain ⟨a, ns, t, rfl, _⟩ := h; rfl
  · obtain ⟨a, ns, t, rfl, hS, hl, ht, q⟩ := h
    refine ⟨_, PSs.nox (Evl.pss_cut (ps_set (i := 2) sc_L_sack.nd rfl (Or.inl rfl) (pe_ifExp (pt_cmp (pc_lt (pv 1) (pe_callB call_len_seq (by rfl) T.m_len (by decide +kernel) (pa_cons (pv 0) pa_nil)))) (pe_callTy call_int1 (by rfl) T.m_int (by decide +kernel) (pa_cons (pe_ix ix_list (pv 0) (pv 1) (fun _ _ => rfl)) pa_nil)) (pe_op op_add (pe_op op_add (pe_op op_mulW pe_int (pv 1)) pe_int) (pe_op op_mod (pe_callTy call_int1 (by rfl) T.m_int (by decide +kernel) (pa_cons (pe_callB (cr_sum rfl) (by rfl) T.m_sum (by decide +kernel) (pa_cons (pe_slice sl_list (pv 0) po_none (po_some pe_int)) pa_nil)) pa_nil)) pe_int))))
      (pss_cons (ps_set (i := 3) sc_L_sack.nd rfl (Or.inl rfl) (pe_op op_mod (pe_callB call_abs (by rfl) T.m_abs (by decide +kernel) (pa_cons (pv 2) pa_nil)) (pe_op op_powW (pe_op op_powW pe_int pe_int) pe_int)))
      (pss_one (ps_ret (pe_lst (pa_cons (pe_callB (call_max2 rfl) (by rfl) T.m_max (by decide +kernel) (pa_cons pe_int (pa_cons (pe_op op_sub (pv 3) (pe_op op_powW pe_int pe_int)) pa_nil))) (pa_cons (pe_op op_add (pe_op op_add (pe_op op_add (pe_op op_mulW (pe_op op_mod (pv 3) pe_int) pe_int) (pe_op op_mulW pe_int (pv 1))) (pe_op op_mulW pe_int (pe_callTy call_int1 (by rfl) T.m_int (by decide +kernel) (pa_cons (pe_cmp (pc_lt (pv 2) pe_int) rfl) pa_nil)))) pe_int) (pa_cons pe_int pa_nil)))))))), ?_⟩
    refine ⟨fun σ' H' => ∃ c : Int, σ' = [some (.ref a), some (.int t), some (.int c), none] ∧ Same H H', ?_, ?_⟩
    · refine ⟨_, rfl, _, rfl, a, _, rfl, .inl hS, _, _, rfl, rfl, _, rfl, ifd (fun h => ?_) (fun h => ?_)⟩
      · have hi : t < ns.length := by
          rw [List.length_map] at h
          omega
        refine ⟨_, rfl, _, rfl, a, _, t, .int ns[t], rfl, rfl, hS, atI_nat (by rw [List.getElem?_map, List.getElem?_eq_getElem hi]; rfl), .inl ⟨_, rfl, ?_⟩⟩
        exact ⟨_, rfl, Same.refl H⟩
      · refine ⟨_, rfl, _, _, rfl, rfl, CMulW.of (lt3000s (by decide) (by decide)) (lt3000s (by omega) (by omega)), _, _, rfl, rfl, _, rfl, _, rfl, a, _, rfl, hS, fun p hp => ?_⟩
        refine ⟨p, ns.take 1, rfl, SqL.of ?_, .inl ⟨_, rfl, _, _, rfl, rfl, (by show (0 : Int) < 1000003; decide), _, _, rfl, rfl, ?_⟩⟩
        · rw [upd_same, cut_first, List.map_take]
        · exact ⟨_, rfl, same_upd hp⟩
    · rintro σ' H' ⟨c, rfl, hs⟩
      refine ⟨_, rfl, c, rfl, 10, 58, rfl, rfl, ⟨by decide, by decide +kernel⟩, 10 ^ 58, 5, rfl, rfl, ⟨by decide, by decide +kernel⟩, _, _, rfl, rfl, (by show (0 : Int) < (10 ^ 58) ^ (5 : Int).toNat; decide +kernel), ?_⟩
      have g0 := Int.emod_nonneg (if c < 0 then -c else c) (by decide +kernel : ((10 : Int) ^ 58) ^ (5 : Int).toNat ≠ 0)
      have g1 := Int.emod_lt_of_pos (if c < 0 then -c else c) (by decide +kernel : (0 : Int) < ((10 : Int) ^ 58) ^ (5 : Int).toNat)
      have e290 : ((10 : Int) ^ 58) ^ (5 : Int).toNat = 10 ^ 290 := by decide +kernel
      rw [e290] at g0 g1
      have gb := lt3000 g0 (Int.lt_trans g1 (by decide +kernel))
      refine ⟨_, rfl, 10, 16, rfl, rfl, ⟨by decide, by decide +kernel⟩, _, _, rfl, rfl, _, _, rfl, ?_⟩
      refine ⟨_, rfl, _, _, rfl, rfl, (by show (0 : Int) < 1000000000061; decide), _, _, rfl, rfl, CMulW.of (lt3000s (by omega) (by omega)) (lt3000s (by decide) (by decide)), _, rfl, _, _, rfl, rfl, CMulW.of (lt3000s (by decide) (by decide)) (lt3000s (by omega) (by omega)), _, _, rfl, rfl, ?_⟩
      refine ⟨_, rfl, _, _, rfl, rfl, .inr ⟨_, rfl, _, _, rfl, rfl, CMulW.of (lt3000s (by decide) (by decide)) (lt3000s (by split <;> decide) (by split <;> decide)), _, _, rfl, rfl, _, _, rfl, rfl, (by show 3 ≤ sizeLine; decide), fun p hp => ?_⟩⟩
      have e16 : (10 : Int) ^ (16 : Int).toNat = 10000000000000000 := by decide +kernel
      have eb : ∀ b : Bool, 0 ≤ (if b = true then (1 : Int) else 0) ∧ (if b = true then (1 : Int) else 0) ≤ 1 := fun b => by cases b <;> decide
      have hb := eb (decide (c < 0))
      refine q p _ _ (hs.trans (same_upd hp)) (hs.free hp) upd_same ⟨_, _, _, rfl, ?_, ?_, ?_, ?_, by decide, by decide⟩
      · rw [e16]
        split <;> omega
      · rw [e16, e290]
        have : (0 : Int) < 10 ^ 290 := by decide +kernel
        have h1 : ∀ z N : Int, 0 ≤ z → z < N → 0 < N → (if z - 10000000000000000 > 0 then z - 10000000000000000 else 0) < N := fun z N a b c => by split <;> omega
        exact Int.lt_trans (h1 _ _ g0 g1 this) (by decide +kernel)
      · omega
      · omega
end
end Sf

namespace Sf
open PySem PySem.Spec PyProof.Rows L2
section
variable {P : Program} {w : World} {K : PySem.W.Frag} {mg : Str → Option Value} {base : Heap} {f : Addr} {fd : FuncData}
structure OneOfP (K : PySem.W.Frag) (vs : List V) (H : Hp) (Q : VK) : Prop where
  ex : ∃ (p b : Addr) (xs items : List V) (n : Nat), vs = [.ref p, .ref b] ∧ H p = some (.lst xs) ∧ SackO n xs ∧ n ≤ 1000000 ∧ b ≠ p ∧ SqL K H b items ∧ 1 ≤ items.length ∧ items.length ≤ 1000000 ∧
  ∀ (v : V) (ys : List V), v ∈ items → SackO (n + 1) ys → Q v (upd H p (.lst ys))
def spOneOf (K : PySem.W.Frag) : Sp := fun vs H Q _ => OneOfP K vs H Q
theorem ok_one_of (F : FnD K "_law_one_of" "_law_one_of" s_L_one_of f fd) (T : Glob mg) (C_L_take : Cal P w K mg base 1 "_law_take" ["_law_sack_here", "_law_many"] spTake) : FnOk P w K mg base CX0 2 f fd ["_law_sack_here", "_law_items"] (spOneOf K) := by
  refine F.ok sc_L_one_of (fun vs H Q E h => ?_) (fun cdv A outer s H vs Q E hr h => ?_)
  · obtain ⟨p, b, xs, items, n, rfl, _⟩ := h.ex; rfl
  · obtain ⟨p, b, xs, items, n, rfl, hp, hx, hn, hne, hS, hl0, hl1, q⟩ := h.ex
    refine ⟨_, PSs.nox (pss_one (ps_ret (pe_ix ix_list (pv 1) (pe_cal C_L_take (hr.mono (by decide)) (pa_cons (pv 0) (pa_cons (pe_callB call_len_seq (by rfl) T.m_len (by decide +kernel) (pa_cons (pv 1) pa_nil)) pa_nil))) (fun _ _ => rfl)))), ?_⟩
    refine ⟨_, rfl, _, rfl, _, rfl, b, _, rfl, .inl hS, ⟨p, xs, n, _, rfl, hp, hx, hn, by omega, ?_, fun r ys h0 h1 hy => ?_⟩⟩
    · exact Int.lt_trans (by omega : (items.length : Int) < 1000001) (by decide +kernel)
    · have hi : r.toNat < items.length := by omega
      have er : ((r.toNat : Nat) : Int) = r := by omega
      refine ⟨b, items, r, items[r.toNat], rfl, rfl, sq_upd hS hne, ?_, q _ ys (List.getElem_mem hi) hy⟩
      have z := atI_nat (List.getElem?_eq_getElem hi)
      rw [er] at z
      exact z
end
end Sf

namespace Sf
open PySem PySem.Spec PyProof.Rows L2
/-- the rests of squares, and the sign by them -/
def sqs (p : Int) : List Int := (List.range (p - 1).toNat).map fun i => ((1 : Int) + (i : Nat)) * (1 + (i : Nat)) % p
theorem sqs_at {p : Int} {i : Nat} (h : i < (p - 1).toNat) : (sqs p)[i]? = some (((1 : Int) + (i : Nat)) * (1 + (i : Nat)) % p) := by
  unfold sqs
  rw [List.getElem?_map, List.getElem?_range h]
  rfl
def lawSign (n p : Int) : Int := if n % p = 0 then 0 else if p = 2 then (if n % 8 = 1 ∨ n % 8 = 7 then 1 else -1) else if n % p ∈ sqs p then 1 else -1
end Sf

namespace Sf
open PySem PySem.Spec PyProof.Rows L2
section
variable {P : Program} {w : World} {K : PySem.W.Frag} {mg : Str → Option Value} {base : Heap} {f : Addr} {fd : FuncData}
def spLSign : Sp := fun vs H Q _ => ∃ n p : Int, vs = [.int n, .int p] ∧ 2 ≤ p ∧ p ≤ 100000 ∧ ∀ H', Same H H' → Q (.int (lawSign n p)) H'
theorem ok_l_sign (F : FnD K "_law_sign" "_law_sign" s_L_sign f fd) (T : Glob mg) : FnOk P w K mg base CX0 1 f fd ["_law_number", "_law_prime"] spLSign := by
  refine F.ok sc_L_sign (fun vs H Q E h => ?_) (fun cdv A outer s H vs Q E hr h => ?_)
  · obtain ⟨n, p, rfl, _⟩ := h; rfl
  · obtain ⟨n, p, rfl, hp, hb, q⟩ := h
    refine ⟨_, PSs.nox (pss_cons (ps_set (i := 2) sc_L_sign.nd rfl (Or.inl rfl) (pe_op op_mod (pe_callTy call_int1 (by rfl) T.m_int (by decide +kernel) (pa_cons (pv 0) pa_nil)) (pv 1)))
      (pss_cons (ps_if (pt_cmp (pc_eqI (pv 2) pe_int)) (pss_one (ps_ret pe_int)) pss_nil)
      (pss_cons (ps_if (pt_cmp (pc_eqI (pv 1) pe_int)) (pss_one (ps_ret (pe_ifExp (pt_cmpR op_in_seq (pe_op op_mod (pe_callTy call_int1 (by rfl) T.m_int (by decide +kernel) (pa_cons (pv 0) pa_nil)) pe_int) (pe_tup (pa_cons pe_int (pa_cons pe_int pa_nil))) (by rfl)) pe_int (pe_un un_neg pe_int)))) pss_nil)
      (pss_one (ps_ret (pe_ifExp (pt_cmpR op_in_seq (pv 2) (pe_lc rfl sc_L_sign.nd (own := [("_law_one", 3)]) (pi_range2 (by rfl) T.m_range (pa_cons pe_int (pa_cons (pv 1) pa_nil))) (blkOk_by (N := ["_law_number", "_law_prime", "_law_rest", "_law_one"]) (sc := defScope s_L_sign) (by decide +kernel)) (fun _ _ _ _ _ => pg_name (i := 3) sc_L_sign.nd rfl (Or.inl rfl)) (fun _ _ _ _ _ => pts_nil) (fun _ _ _ _ _ => (pe_op op_mod (pe_callTy call_int1 (by rfl) T.m_int (by decide +kernel) (pa_cons (pe_op op_mulW (pv 3) (pv 3)) pa_nil)) (pv 1)))) (by rfl)) pe_int (pe_un un_neg pe_int))))))), ?_⟩
    unfold lawSign at q
    refine ⟨_, rfl, .inl ⟨_, rfl, _, rfl, _, _, rfl, rfl, (by omega), ?_⟩⟩
    refine ⟨_, rfl, _, _, rfl, rfl, _, rfl, ifd (fun h => ?_) (fun h => ?_)⟩
    · rw [if_pos h] at q
      exact q H (Same.refl H)
    · rw [if_neg h] at q
      refine ⟨_, rfl, _, _, rfl, rfl, _, rfl, ifd (fun h2 => ?_) (fun h2 => ?_)⟩
      · rw [if_pos h2] at q
        refine ⟨_, rfl, .inl ⟨_, rfl, _, _, rfl, rfl, (by show (0 : Int) < 8; decide), (by show 2 ≤ sizeLine; decide), fun a ha => ?_⟩⟩
        refine ⟨a, _, rfl, .inr (.inl (.inl upd_same)), rfl, rfl, _, rfl, ?_⟩
        rw [inV_two]
        refine ifd (fun e => ?_) (fun e => ?_)
        · rw [if_pos e] at q
          exact q _ (same_upd ha)
        · rw [if_neg e] at q
          exact ⟨_, rfl, q _ (same_upd ha)⟩
      · rw [if_neg h2] at q
        refine ⟨_, rfl, _, rfl, 1, p, rfl, ⟨by decide, by decide, by omega, by omega⟩, fun D hD => lc_range (lo := 1) (n := (p - 1).toNat) (fun i H' => Same H H' ∧ H' D = some (.lst (((sqs p).take i).map V.int))) ⟨same_upd hD, by rw [upd_same]; rfl⟩ (fun i H' hi hP => ?_) (fun H' hP => ?_)⟩
        · obtain ⟨hs, hd⟩ := hP
          have ib : ((1 : Int) + (i : Nat)).natAbs < 2 ^ 3000 := lt3000s (by omega) (by omega)
          refine ⟨rfl, ?_⟩
          refine ⟨_, rfl, _, rfl, _, _, rfl, rfl, CMulW.of ib ib, .inl ⟨_, rfl, _, rfl, _, _, rfl, rfl, (by omega), _, hd, ?_, ?_, ?_⟩⟩
          · rw [List.length_map]
            exact Nat.lt_of_le_of_lt (List.length_take_le _ _) (Nat.lt_of_lt_of_le (by omega : i < 1000000) (by decide))
          · intro b o e
            rw [upd_ne (ne_of_none e hD)]
            exact hs b o e
          · rw [upd_same, List.take_add_one, sqs_at hi, List.map_append]
            rfl
        · obtain ⟨hs, hd⟩ := hP
          have et : (sqs p).take (p - 1).toNat = sqs p := List.take_of_length_le (by unfold sqs; rw [List.length_map, List.length_range]; exact Nat.le_refl _)
          rw [et] at hd
          refine ⟨D, _, rfl, .inl (SqL.of hd), rfl, all_flat _, _, rfl, ?_⟩
          rw [inV_ints]
          refine ifd (fun e => ?_) (fun e => ?_)
          · rw [if_pos e] at q
            exact q _ hs
          · rw [if_neg e] at q
            exact ⟨_, rfl, q _ hs⟩
end
end Sf

namespace Sf
/-! the state of trial division: what was found, what is left -/
structure Trial (N : Int) (l : List (Int × Nat)) (r d : Int) : Prop where
  prod : prodF l * r = N
  pos : 1 ≤ r
  le : r ≤ N
  srt : Sorted l
  prm : Primes l
  low : ∀ q ∈ l, q.1 < d
  nod : NoDiv r d
theorem trial_start {N : Int} (h : 1 ≤ N) : Trial N [] N 2 := ⟨by show 1 * N = N; omega, h, Int.le_refl _, List.Pairwise.nil, (fun _ h => by cases h), (fun _ h => by cases h), nodiv2 N⟩
theorem sorted_snoc {l : List (Int × Nat)} {p : Int} {e : Nat} (h : Sorted l) (hl : ∀ q ∈ l, q.1 < p) : Sorted (l ++ [(p, e)]) := by
  unfold Sorted at *
  rw [List.pairwise_append]
  refine ⟨h, List.pairwise_singleton _ _, fun a ha b hb => ?_⟩
  rw [List.mem_singleton] at hb
  rw [hb]
  exact hl a ha
theorem primes_snoc {l : List (Int × Nat)} {p : Int} {e : Nat} (h : Primes l) (hp : PrP p) (he : 1 ≤ e) : Primes (l ++ [(p, e)]) := fun q hq => by
  rcases List.mem_append.mp hq with z | z
  · exact h q z
  · rw [List.mem_singleton] at z
    rw [z]
    exact ⟨hp, he⟩
theorem prodF_one (p : Int) (e : Nat) : prodF [(p, e)] = p ^ e := by
  show p ^ e * 1 = p ^ e
  rw [Int.mul_one]
theorem next_gt {d : Int} (h : 2 ≤ d) : d < (if d = 2 then 3 else d + 2) := by split <;> omega
theorem trial_pass {N r d : Int} {l : List (Int × Nat)} (h : Trial N l r d) (hd : r % d ≠ 0) : Trial N l r (if d = 2 then 3 else d + 2) :=
  ⟨h.prod, h.pos, h.le, h.srt, h.prm, fun q hq => Int.lt_trans (h.low q hq) (next_gt h.nod.1), nodiv_next h.nod hd⟩
theorem trial_take {N r d u : Int} {m : Nat} {l : List (Int × Nat)} (h : Trial N l r d) (hd : r % d = 0) (e : r = d ^ m * u) (hu : u % d ≠ 0) : Trial N (l ++ [(d, m)]) u (if d = 2 then 3 else d + 2) ∧ 1 ≤ m ∧ u ≤ r := by
  have hd2 := h.nod.1
  have hr := h.pos
  have hm : 1 ≤ m := by
    rcases Nat.eq_zero_or_pos m with z | z
    · subst z
      rw [Int.pow_zero, Int.one_mul] at e
      rw [e] at hd
      exact absurd hd hu
    · exact z
  have hdm : 0 < d ^ m := pow_pos_int (by omega) m
  have hu0 : 1 ≤ u := by
    rcases Int.lt_or_le 0 u with z | z
    · omega
    · have := Int.mul_nonpos_of_nonneg_of_nonpos (Int.le_of_lt hdm) z
      omega
  have hur : u ≤ r := by
    have : 1 * u ≤ d ^ m * u := Int.mul_le_mul_of_nonneg_right (by omega) (by omega)
    omega
  have hdu : r % u = 0 := Int.emod_eq_zero_of_dvd ⟨d ^ m, by rw [e]; exact Int.mul_comm _ _⟩
  refine ⟨⟨?_, hu0, Int.le_trans hur h.le, sorted_snoc h.srt h.low, primes_snoc h.prm (nodiv_prime h.nod hd) hm, fun q hq => ?_, nodiv_next (nodiv_of h.nod hdu) hu⟩, hm, hur⟩
  · rw [prodF_append, prodF_one, Int.mul_assoc, ← e]
    exact h.prod
  · have hn := next_gt hd2
    rcases List.mem_append.mp hq with z | z
    · exact Int.lt_trans (h.low q z) hn
    · rw [List.mem_singleton] at z
      rw [z]
      exact hn
theorem trial_end1 {N d : Int} {l : List (Int × Nat)} (h : Trial N l 1 d) : FactOf N l := ⟨by have := h.prod; rw [Int.mul_one] at this; exact this, h.srt, h.prm⟩
theorem trial_end {N r d : Int} {l : List (Int × Nat)} (h : Trial N l r d) (hr : 1 < r) (hd : r < d * d) : FactOf N (l ++ [(r, 1)]) ∧ ∀ q ∈ l, q.1 < r := by
  have h2 := nodiv_lt h.nod (by omega)
  have hl : ∀ q ∈ l, q.1 < r := fun q hq => Int.lt_of_lt_of_le (h.low q hq) h2
  have hp : PrP r := prp_of_trial (by omega) h.nod.1 h.nod.2.2 hd
  refine ⟨⟨?_, sorted_snoc h.srt hl, primes_snoc h.prm hp (by omega)⟩, hl⟩
  rw [prodF_append, prodF_one, Int.pow_succ, Int.pow_zero, Int.one_mul]
  exact h.prod
theorem prodF_pos {l : List (Int × Nat)} (h : Primes l) : 1 ≤ prodF l := by
  have h1 := prodF_len h
  have h2 : (0 : Int) < 2 ^ l.length := pow_pos_int (by omega) _
  omega
theorem trial_len {N r d : Int} {l : List (Int × Nat)} (h : Trial N l r d) (hN : N ≤ 1000000000) : l.length < 30 := by
  refine len_of_prod h.prm ?_
  have h1 := prodF_pos h.prm
  have h2 := h.prod
  have h3 := h.pos
  have h4 : prodF l * 1 ≤ prodF l * r := Int.mul_le_mul_of_nonneg_left h3 (by omega)
  omega
theorem fact_len {N : Int} {l : List (Int × Nat)} (h : FactOf N l) (hN : N ≤ 1000000000) : l.length < 30 := len_of_prod h.2.2 (by rw [h.1]; exact hN)
/-- the product of the primes with an odd power -/
def oddF : List (Int × Nat) → Int
  | [] => 1
  | q :: l => (if q.2 % 2 = 1 then q.1 else 1) * oddF l
theorem oddF_append : ∀ l m : List (Int × Nat), oddF (l ++ m) = oddF l * oddF m
  | [], m => by
    show oddF m = 1 * oddF m
    rw [Int.one_mul]
  | q :: l, m => by
    show (if q.2 % 2 = 1 then q.1 else 1) * oddF (l ++ m) = (if q.2 % 2 = 1 then q.1 else 1) * oddF l * oddF m
    rw [oddF_append l m, Int.mul_assoc]
theorem pow_split (p : Int) (e : Nat) : p ^ e = (if e % 2 = 1 then p else 1) * (p ^ (e / 2) * p ^ (e / 2)) := by
  have e1 : e = e % 2 + (e / 2 + e / 2) := by omega
  conv => lhs; rw [e1]
  rw [Int.pow_add, Int.pow_add]
  congr 1
  split
  · rename_i h
    rw [h, Int.pow_succ, Int.pow_zero, Int.one_mul]
  · rename_i h
    rw [show e % 2 = 0 by omega, Int.pow_zero]
theorem oddF_bound {l : List (Int × Nat)} : Primes l → 1 ≤ oddF l ∧ oddF l ≤ prodF l := by
  induction l with
  | nil => intro _; exact ⟨Int.le_refl _, Int.le_refl _⟩
  | cons q l ih =>
    intro h
    have ih := ih fun r hr => h r (List.mem_cons_of_mem _ hr)
    obtain ⟨hp, he⟩ := h q List.mem_cons_self
    have hp2 := hp.1
    have h1 : 1 ≤ (if q.2 % 2 = 1 then q.1 else 1) := by split <;> omega
    have h2 : (if q.2 % 2 = 1 then q.1 else 1) ≤ q.1 ^ q.2 := by
      rw [pow_split q.1 q.2]
      have h3 : 0 < q.1 ^ (q.2 / 2) := pow_pos_int (by omega) _
      have h4 : 0 < q.1 ^ (q.2 / 2) * q.1 ^ (q.2 / 2) := Int.mul_pos h3 h3
      have h5 : (if q.2 % 2 = 1 then q.1 else 1) * 1 ≤ (if q.2 % 2 = 1 then q.1 else 1) * (q.1 ^ (q.2 / 2) * q.1 ^ (q.2 / 2)) := Int.mul_le_mul_of_nonneg_left h4 (by omega)
      omega
    show 1 ≤ (if q.2 % 2 = 1 then q.1 else 1) * oddF l ∧ (if q.2 % 2 = 1 then q.1 else 1) * oddF l ≤ q.1 ^ q.2 * prodF l
    refine ⟨?_, Int.mul_le_mul h2 ih.2 (by omega) (by omega)⟩
    have := Int.mul_pos (show 0 < (if q.2 % 2 = 1 then q.1 else 1) by omega) (show 0 < oddF l by omega)
    omega
theorem prodF_take {l : List (Int × Nat)} (h : Primes l) (i : Nat) : prodF (l.take i) ≤ prodF l := by
  have e : prodF l = prodF (l.take i) * prodF (l.drop i) := by rw [← prodF_append, List.take_append_drop]
  have h1 : 1 ≤ prodF (l.take i) := prodF_pos fun q hq => h q (List.mem_of_mem_take hq)
  have h2 : 1 ≤ prodF (l.drop i) := prodF_pos fun q hq => h q (List.mem_of_mem_drop hq)
  have h3 : prodF (l.take i) * 1 ≤ prodF (l.take i) * prodF (l.drop i) := Int.mul_le_mul_of_nonneg_left h2 (by omega)
  omega
theorem self_le_pow {p : Int} (h : 2 ≤ p) : ∀ {e : Nat}, 1 ≤ e → p ≤ p ^ e
  | 0, h0 => by omega
  | e + 1, _ => by
    rw [Int.pow_succ]
    have h1 : 0 < p ^ e := pow_pos_int (by omega) e
    have h2 : 1 * p ≤ p ^ e * p := Int.mul_le_mul_of_nonneg_right (by omega) (by omega)
    omega
theorem prodF_mem : ∀ {l : List (Int × Nat)}, Primes l → ∀ q ∈ l, q.1 ≤ prodF l
  | [], _, q, hq => by cases hq
  | r :: l, h, q, hq => by
    have h1 : 1 ≤ prodF l := prodF_pos fun q hq => h q (List.mem_cons_of_mem _ hq)
    obtain ⟨hp, he⟩ := h r List.mem_cons_self
    have hp2 := hp.1
    have h2 := self_le_pow hp2 he
    show q.1 ≤ r.1 ^ r.2 * prodF l
    rcases List.mem_cons.mp hq with z | z
    · subst z
      have h3 : q.1 ^ q.2 * 1 ≤ q.1 ^ q.2 * prodF l := Int.mul_le_mul_of_nonneg_left h1 (by omega)
      omega
    · have h3 := prodF_mem (l := l) (fun q hq => h q (List.mem_cons_of_mem _ hq)) q z
      have h4 : 1 * prodF l ≤ r.1 ^ r.2 * prodF l := Int.mul_le_mul_of_nonneg_right (by omega) (by omega)
      omega
theorem nat_lt_pow {p : Int} (h : 2 ≤ p) : ∀ e : Nat, (e : Int) < p ^ e
  | 0 => by rw [Int.pow_zero]; decide
  | e + 1 => by
    have ih := nat_lt_pow h e
    rw [Int.pow_succ]
    have h1 : 0 < p ^ e := pow_pos_int (by omega) e
    have h2 : p ^ e * 2 ≤ p ^ e * p := Int.mul_le_mul_of_nonneg_left h (by omega)
    omega
theorem prodF_mem2 : ∀ {l : List (Int × Nat)}, Primes l → ∀ q ∈ l, (q.2 : Int) < prodF l
  | [], _, q, hq => by cases hq
  | r :: l, h, q, hq => by
    have h1 : 1 ≤ prodF l := prodF_pos fun q hq => h q (List.mem_cons_of_mem _ hq)
    obtain ⟨hp, he⟩ := h r List.mem_cons_self
    have hp2 := hp.1
    have h2 := self_le_pow hp2 he
    show (q.2 : Int) < r.1 ^ r.2 * prodF l
    rcases List.mem_cons.mp hq with z | z
    · subst z
      have h3 : q.1 ^ q.2 * 1 ≤ q.1 ^ q.2 * prodF l := Int.mul_le_mul_of_nonneg_left h1 (by omega)
      have h4 := nat_lt_pow hp2 q.2
      omega
    · have h3 := prodF_mem2 (l := l) (fun q hq => h q (List.mem_cons_of_mem _ hq)) q z
      have h4 : 1 * prodF l ≤ r.1 ^ r.2 * prodF l := Int.mul_le_mul_of_nonneg_right (by omega) (by omega)
      omega
end Sf

namespace Sf
open PySem PySem.Spec PyProof.Rows L2
/-- the pairs of a dict of factors -/
def kvsF (l : List (Int × Nat)) : List (Key × V) := l.map fun q => ((Sum.inl q.1 : Key), V.int q.2)
theorem kvsF_none : ∀ {l : List (Int × Nat)} {p : Int}, (∀ q ∈ l, q.1 < p) → valV (kvsF l) (Sum.inl p : Key) = none
  | [], _, _ => rfl
  | q :: l, p, h => by
    show valV (((Sum.inl q.1 : Key), V.int q.2) :: kvsF l) (Sum.inl p : Key) = none
    rw [valV_neg]
    · exact kvsF_none fun r hr => h r (List.mem_cons_of_mem _ hr)
    · intro e
      have e1 : q.1 = p := Sum.inl.inj e
      have := h q List.mem_cons_self
      omega
theorem kvsF_snoc (l : List (Int × Nat)) (p : Int) (e : Nat) : kvsF (l ++ [(p, e)]) = kvsF l ++ [((Sum.inl p : Key), V.int e)] := by
  unfold kvsF
  rw [List.map_append]
  rfl
theorem kvsF_len (l : List (Int × Nat)) : (kvsF l).length = l.length := List.length_map ..
section
variable {P : Program} {w : World} {K : PySem.W.Frag} {mg : Str → Option Value} {base : Heap} {f : Addr} {fd : FuncData}
def absI (n : Int) : Int := if n < 0 then -n else n
def spFactors : Sp := fun vs H Q _ => ∃ n : Int, vs = [.int n] ∧ n ≠ 0 ∧ -1000000000 ≤ n ∧ n ≤ 1000000000 ∧
  ∀ (l : List (Int × Nat)) (d : Addr) (H' : Hp), FactOf (absI n) l → Same H H' → H d = none → H' d = some (.dK (kvsF l)) → Q (.ref d) H'
theorem ok_prime_powers (F : FnD K "prime_powers" "prime_powers" s_P_prime_powers f fd) (T : Glob mg)
    (C_P_stripped : Cal P w K mg base 1 "stripped" ["number", "prime"] spStripped) (C_P_next_divisor : Cal P w K mg base 1 "next_divisor" ["divisor"] spNext) :
    FnOk P w K mg base CX0 2 f fd ["number"] spFactors := by
  refine F.ok sc_P_prime_powers (fun vs H Q E h => ?_) (fun cdv A outer s H vs Q E hr h => ?_)
  · obtain ⟨n, rfl, _⟩ := h; rfl
  · obtain ⟨n, rfl, hn, h1, h2, q⟩ := h
    have hu := hu_of hr
    have hN1 : 1 ≤ absI n := by unfold absI; split <;> omega
    have hN2 : absI n ≤ 1000000000 := by unfold absI; split <;> omega
    refine ⟨_, PSs.nox (pss_cons (ps_set (i := 1) sc_P_prime_powers.nd rfl (Or.inl rfl) (pe_callB call_abs (by rfl) T.m_abs (by decide +kernel) (pa_cons (pv 0) pa_nil)))
      (pss_cons (ps_set (i := 2) sc_P_prime_powers.nd rfl (Or.inl rfl) pe_dnewK)
      (pss_cons (ps_set (i := 3) sc_P_prime_powers.nd rfl (Or.inl rfl) pe_int)
      (pss_cons (ps_while PassesOwn.never (pt_cmp (pc_le (pe_op op_mulW (pv 3) (pv 3)) (pv 1))) (pss_cons (ps_if (pt_cmp (pc_eqI (pe_op op_mod (pv 1) (pv 3)) pe_int)) (pss_one (ps_asg (pe_cal C_P_stripped (hr.mono (by decide)) (pa_cons (pv 1) (pa_cons (pv 3) pa_nil))) (pg_tup (by rfl) (pgs_cons (pg_sub (pv 2) (pv 3) (set_dict hu)) (pgs_cons (pg_name (i := 1) sc_P_prime_powers.nd rfl (Or.inl rfl)) pgs_nil))))) pss_nil)
      (pss_one (ps_set (i := 3) sc_P_prime_powers.nd rfl (Or.inl rfl) (pe_cal C_P_next_divisor (hr.mono (by decide)) (pa_cons (pv 3) pa_nil))))))
      (pss_cons (ps_if (pt_cmp (pc_gt (pv 1) pe_int)) (pss_one (ps_dput hu (pv 2) (pv 1) pe_int rfl)) pss_nil)
      (pss_one (ps_ret (pv 2)))))))), ?_⟩
    refine ⟨_, rfl, n, rfl, fun d hd => ?_⟩
    refine ⟨fun c σ H' => ∃ (l : List (Int × Nat)) (r t : Int), σ = [some (.int n), some (.int r), some (.ref d), some (.int t)] ∧ Same H H' ∧ H' d = some (.dK (kvsF l)) ∧ Trial (absI n) l r t ∧ t ≤ absI n + 2 ∧ c = (r - t + 3).toNat,
      ⟨_, [], absI n, 2, rfl, same_upd hd, upd_same, trial_start hN1, by omega, rfl⟩, ?_⟩
    rintro c σ H' ⟨l, r, t, rfl, hs, hdd, ht, htN, rfl⟩
    have t2 := ht.nod.1
    have rN := ht.le
    have r1 := ht.pos
    have hlen := trial_len ht hN2
    have tb : t.natAbs < 2 ^ 3000 := lt3000s (by omega) (by omega)
    have htt : t * 2 ≤ t * t := Int.mul_le_mul_of_nonneg_left t2 (by omega)
    refine ⟨_, rfl, _, rfl, _, _, rfl, rfl, CMulW.of tb tb, _, rfl, _, _, rfl, rfl, _, rfl, ifd (fun h => ⟨_, fun _ _ z => z, ?_⟩) (fun h => ?_)⟩
    · have tr : t ≤ r := nodiv_lt ht.nod (by omega)
      refine ⟨_, rfl, _, rfl, _, _, rfl, rfl, (by omega), _, _, rfl, rfl, _, rfl, ifd (fun h2 => ?_) (fun h2 => ?_)⟩
      · refine ⟨_, rfl, _, rfl, r, t, rfl, by omega, t2, tb, fun m u a hst ha => ?_⟩
        obtain ⟨k1, k2, k3⟩ := trial_take ht h2 hst.1 hst.2
        have nad : d ≠ a := ne_of_none hdd ha
        refine ⟨a, _, rfl, .inl (.inl upd_same), rfl, _, _, rfl, _, rfl, _, rfl, d, _, rfl, DPut.k (k := Sum.inl t) (by rw [upd_ne nad]; exact hdd) (by rw [kvsF_len]; exact small1000 (by omega)), _, _, rfl, rfl, ?_⟩
        refine ⟨_, rfl, t, rfl, ?_⟩
        refine ⟨_, ?_, l ++ [(t, m)], u, _, rfl, ?_, ?_, k1, ?_, rfl⟩
        · split <;> omega
        · intro b o e
          have h3 := hs b o e
          have nb : b ≠ d := ne_of_none e hd
          rw [upd_ne nb, upd_ne (ne_of_none h3 ha)]
          exact h3
        · rw [upd_same, putK_new _ (kvsF_none ht.low), kvsF_snoc]
        · split <;> omega
      · refine ⟨_, rfl, t, rfl, ?_⟩
        refine ⟨_, ?_, l, r, _, rfl, hs, hdd, trial_pass ht h2, ?_, rfl⟩
        · split <;> omega
        · split <;> omega
    · refine ⟨_, rfl, _, _, rfl, rfl, _, rfl, ifd (fun h3 => ?_) (fun h3 => ?_)⟩
      · obtain ⟨k1, k2⟩ := trial_end ht (by omega) (by omega)
        refine ⟨_, rfl, _, rfl, d, _, rfl, DPut.k (k := Sum.inl r) hdd (by rw [kvsF_len]; exact small1000 (by omega)), ?_⟩
        refine ⟨_, rfl, q _ d _ k1 (fun b o e => ?_) hd ?_⟩
        · rw [upd_ne (ne_of_none e hd)]
          exact hs b o e
        · rw [upd_same, putK_new _ (kvsF_none k2), kvsF_snoc]
          rfl
      · have hr : r = 1 := by omega
        subst hr
        exact ⟨_, rfl, q l d H' (trial_end1 ht) hs hd hdd⟩
theorem ok_factors (F : FnD K "factors" "factors" s_P_factors f fd) (C_P_check_number : Cal P w K mg base 2 "check_number" ["value"] spCheckNumber)
    (C_P_prime_powers : Cal P w K mg base 2 "prime_powers" ["number"] spFactors) :
    FnOk P w K mg base CX0 3 f fd ["number"] spFactors := by
  refine F.ok sc_P_factors (fun vs H Q E h => ?_) (fun cdv A outer s H vs Q E hr h => ?_)
  · obtain ⟨n, rfl, _⟩ := h; rfl
  · obtain ⟨n, rfl, hn, h1, h2, q⟩ := h
    refine ⟨_, PSs.nox (pss_cons (ps_expr (pe_cal C_P_check_number (hr.mono (by decide)) (pa_cons (pv 0) pa_nil)))
      (pss_one (ps_ret (pe_cal C_P_prime_powers (hr.mono (by decide)) (pa_cons (pv 0) pa_nil))))), ?_⟩
    exact ⟨_, rfl, n, rfl, hn, h1, h2, _, rfl, n, rfl, hn, h1, h2, fun l d H1 hf hs hd hdd => q l d H1 hf hs hd hdd⟩
end
end Sf

namespace Sf
/-! a prime divides a product only if it divides a factor -/
theorem PrP.pos {p : Int} (h : PrP p) : 0 < p := by have := h.1; omega
theorem gcd_of_prime {p : Int} (h : PrP p) {a : Int} (ha : ¬ p ∣ a) : Nat.Coprime p.natAbs a.natAbs := by
  have hp := h.1
  have h1 : Nat.gcd p.natAbs a.natAbs ∣ p.natAbs := Nat.gcd_dvd_left ..
  have h2 : Nat.gcd p.natAbs a.natAbs ∣ a.natAbs := Nat.gcd_dvd_right ..
  have h0 : 0 < Nat.gcd p.natAbs a.natAbs := Nat.gcd_pos_of_pos_left _ (by omega)
  have hle : Nat.gcd p.natAbs a.natAbs ≤ p.natAbs := Nat.le_of_dvd (by omega) h1
  unfold Nat.Coprime
  rcases Nat.lt_or_ge (Nat.gcd p.natAbs a.natAbs) 2 with z | z
  · omega
  · rcases Nat.lt_or_ge (Nat.gcd p.natAbs a.natAbs) p.natAbs with z2 | z2
    · exfalso
      refine h.2 (Nat.gcd p.natAbs a.natAbs : Int) (by omega) (by omega) ?_
      refine Int.emod_eq_zero_of_dvd ?_
      have : ((Nat.gcd p.natAbs a.natAbs : Nat) : Int) ∣ ((p.natAbs : Nat) : Int) := Int.ofNat_dvd.mpr h1
      rwa [Int.natAbs_of_nonneg (by omega : 0 ≤ p)] at this
    · exfalso
      have e : Nat.gcd p.natAbs a.natAbs = p.natAbs := by omega
      rw [e] at h2
      exact ha (Int.natAbs_dvd_natAbs.mp h2)
theorem prime_mul {p : Int} (h : PrP p) {a b : Int} (hd : p ∣ a * b) : p ∣ a ∨ p ∣ b := by
  by_cases ha : p ∣ a
  · exact .inl ha
  · refine .inr ?_
    have h1 : p.natAbs ∣ a.natAbs * b.natAbs := by
      rw [← Int.natAbs_mul]
      exact Int.natAbs_dvd_natAbs.mpr hd
    exact Int.natAbs_dvd_natAbs.mp (Nat.Coprime.dvd_of_dvd_mul_left (gcd_of_prime h ha) h1)
theorem prime_one {p : Int} (h : PrP p) : ¬ p ∣ 1 := fun z => by
  have h1 := Int.le_of_dvd (by omega) z
  have := h.1
  omega
theorem prime_pow {p a : Int} (h : PrP p) : ∀ {e : Nat}, p ∣ a ^ e → p ∣ a
  | 0, z => absurd (by rwa [Int.pow_zero] at z) (prime_one h)
  | e + 1, z => by
    rw [Int.pow_succ] at z
    rcases prime_mul h z with y | y
    · exact prime_pow h y
    · exact y
theorem prime_dvd_prime {p q : Int} (hp : PrP p) (hq : PrP q) (h : p ∣ q) : p = q := by
  have h1 := hp.1
  have h2 := hq.1
  have h3 := Int.le_of_dvd (by omega) h
  rcases Int.lt_or_le p q with z | z
  · exact absurd (Int.emod_eq_zero_of_dvd h) (hq.2 p h1 z)
  · omega
theorem prime_prodF {p : Int} (h : PrP p) : ∀ {l : List (Int × Nat)}, Primes l → p ∣ prodF l → ∃ e, (p, e) ∈ l
  | [], _, z => absurd z (prime_one h)
  | q :: l, hl, z => by
    rcases prime_mul h (show p ∣ q.1 ^ q.2 * prodF l from z) with y | y
    · have e := prime_dvd_prime h (hl q List.mem_cons_self).1 (prime_pow h y)
      exact ⟨q.2, by rw [e]; exact List.mem_cons_self⟩
    · obtain ⟨e, he⟩ := prime_prodF h (fun r hr => hl r (List.mem_cons_of_mem _ hr)) y
      exact ⟨e, List.mem_cons_of_mem _ he⟩
theorem pow_cancel {p : Int} (h : PrP p) {R S : Int} (hR : ¬ p ∣ R) (hS : ¬ p ∣ S) : ∀ {a b : Nat}, p ^ a * R = p ^ b * S → a = b ∧ R = S
  | 0, 0, e => ⟨rfl, by rwa [Int.pow_zero, Int.one_mul, Int.one_mul] at e⟩
  | 0, b + 1, e => by
    rw [Int.pow_zero, Int.one_mul, Int.pow_succ, Int.mul_assoc] at e
    refine absurd ?_ hR
    rw [e, Int.mul_comm, Int.mul_assoc]
    exact Int.dvd_mul_right ..
  | a + 1, 0, e => by
    rw [Int.pow_zero, Int.one_mul, Int.pow_succ, Int.mul_assoc] at e
    refine absurd ?_ hS
    rw [← e, Int.mul_comm, Int.mul_assoc]
    exact Int.dvd_mul_right ..
  | a + 1, b + 1, e => by
    have h0 := h.pos
    rw [Int.pow_succ, Int.pow_succ, Int.mul_comm (p ^ a), Int.mul_comm (p ^ b), Int.mul_assoc, Int.mul_assoc] at e
    obtain ⟨h1, h2⟩ := pow_cancel h hR hS (Int.eq_of_mul_eq_mul_left (by omega) e)
    exact ⟨by omega, h2⟩
/-! one number, one factorization -/
def Distinct (l : List (Int × Nat)) : Prop := (l.map (·.1)).Nodup
theorem distinct_of_sorted {l : List (Int × Nat)} (h : Sorted l) : Distinct l := by
  unfold Distinct List.Nodup
  rw [List.pairwise_map]
  exact h.imp fun h e => by omega
theorem distinct_perm {l m : List (Int × Nat)} (h : l.Perm m) (d : Distinct l) : Distinct m := by
  unfold Distinct at *
  exact (h.map _).nodup_iff.mp d
theorem prodF_perm {l m : List (Int × Nat)} (h : l.Perm m) : prodF l = prodF m := by
  induction h with
  | nil => rfl
  | cons x _ ih => show x.1 ^ x.2 * _ = x.1 ^ x.2 * _; rw [ih]
  | swap x y l => show y.1 ^ y.2 * (x.1 ^ x.2 * _) = x.1 ^ x.2 * (y.1 ^ y.2 * _); exact Int.mul_left_comm ..
  | trans _ _ a b => exact a.trans b
theorem oddF_perm {l m : List (Int × Nat)} (h : l.Perm m) : oddF l = oddF m := by
  induction h with
  | nil => rfl
  | cons x _ ih => show (if x.2 % 2 = 1 then x.1 else 1) * _ = (if x.2 % 2 = 1 then x.1 else 1) * _; rw [ih]
  | swap x y l => exact Int.mul_left_comm ..
  | trans _ _ a b => exact a.trans b
theorem not_dvd_rest {p : Int} {e : Nat} {l : List (Int × Nat)} (hp : Primes ((p, e) :: l)) (hd : Distinct ((p, e) :: l)) : ¬ p ∣ prodF l := fun z => by
  obtain ⟨e', he⟩ := prime_prodF (hp (p, e) List.mem_cons_self).1 (fun r hr => hp r (List.mem_cons_of_mem _ hr)) z
  unfold Distinct at hd
  rw [List.map_cons, List.nodup_cons] at hd
  exact hd.1 (List.mem_map.mpr ⟨(p, e'), he, rfl⟩)
theorem fact_unique : ∀ {l m : List (Int × Nat)}, Primes l → Distinct l → Primes m → Distinct m → prodF l = prodF m → l.Perm m
  | [], m, _, _, hm, _, e => by
    cases m with
    | nil => exact List.Perm.nil
    | cons q m =>
      have h1 := prodF_len hm
      rw [← e] at h1
      have h2 : (0 : Int) < 2 ^ m.length := pow_pos_int (by omega) _
      rw [List.length_cons, Int.pow_succ] at h1
      have h3 : prodF [] = 1 := rfl
      omega
  | (p, a) :: l, m, hl, dl, hm, dm, e => by
    have hp := (hl (p, a) List.mem_cons_self).1
    have ha := (hl (p, a) List.mem_cons_self).2
    have hdv : p ∣ prodF m := by
      rw [← e]
      show p ∣ p ^ a * prodF l
      obtain ⟨k, rfl⟩ : ∃ k, a = k + 1 := ⟨a - 1, by have : 1 ≤ a := ha; omega⟩
      rw [Int.pow_succ, Int.mul_comm (p ^ k), Int.mul_assoc]
      exact Int.dvd_mul_right ..
    obtain ⟨b, hb⟩ := prime_prodF hp hm hdv
    have hperm := List.perm_cons_erase hb
    have hm2 : Primes ((p, b) :: m.erase (p, b)) := fun r hr => hm r (hperm.mem_iff.mpr hr)
    have dm2 : Distinct ((p, b) :: m.erase (p, b)) := distinct_perm hperm dm
    have e2 : p ^ a * prodF l = p ^ b * prodF (m.erase (p, b)) := e.trans (prodF_perm hperm)
    obtain ⟨h1, h2⟩ := pow_cancel hp (not_dvd_rest hl dl) (not_dvd_rest hm2 dm2) e2
    subst h1
    have ih := fact_unique (l := l) (m := m.erase (p, a)) (fun r hr => hl r (List.mem_cons_of_mem _ hr)) ((List.nodup_cons.mp dl).2) (fun r hr => hm2 r (List.mem_cons_of_mem _ hr)) ((List.nodup_cons.mp dm2).2) h2
    exact (ih.cons (p, a)).trans hperm.symm
/-! the square-free part -/
def oddL (l : List (Int × Nat)) : List (Int × Nat) := (l.filter fun q => q.2 % 2 == 1).map fun q => (q.1, 1)
theorem oddL_prod : ∀ l : List (Int × Nat), prodF (oddL l) = oddF l ∧ oddF (oddL l) = oddF l
  | [] => ⟨rfl, rfl⟩
  | q :: l => by
    obtain ⟨h1, h2⟩ := oddL_prod l
    unfold oddL at *
    by_cases h : q.2 % 2 = 1
    · rw [List.filter_cons_of_pos (by simp [h]), List.map_cons]
      show q.1 ^ 1 * _ = (if q.2 % 2 = 1 then q.1 else 1) * _ ∧ (if (1 : Nat) % 2 = 1 then q.1 else 1) * _ = (if q.2 % 2 = 1 then q.1 else 1) * _
      rw [if_pos h, h1, h2, Int.pow_succ, Int.pow_zero, Int.one_mul]
      exact ⟨rfl, rfl⟩
    · rw [List.filter_cons_of_neg (by simp [h])]
      show _ = (if q.2 % 2 = 1 then q.1 else 1) * _ ∧ _ = (if q.2 % 2 = 1 then q.1 else 1) * _
      rw [if_neg h, h1, h2, Int.one_mul]
      exact ⟨rfl, rfl⟩
theorem oddL_primes {l : List (Int × Nat)} (h : Primes l) : Primes (oddL l) := fun q hq => by
  obtain ⟨r, hr, e⟩ := List.mem_map.mp hq
  rw [← e]
  exact ⟨(h r (List.mem_filter.mp hr).1).1, Nat.le_refl _⟩
theorem oddL_distinct {l : List (Int × Nat)} (h : Distinct l) : Distinct (oddL l) := by
  unfold Distinct oddL
  rw [List.map_map]
  have : ((fun x : Int × Nat => x.1) ∘ fun q => (q.1, 1)) = fun q : Int × Nat => q.1 := rfl
  rw [this]
  exact h.sublist (List.filter_sublist.map _)
def rootF : List (Int × Nat) → Int
  | [] => 1
  | q :: l => q.1 ^ (q.2 / 2) * rootF l
theorem rootF_append : ∀ l m : List (Int × Nat), rootF (l ++ m) = rootF l * rootF m
  | [], m => by show rootF m = 1 * rootF m; rw [Int.one_mul]
  | q :: l, m => by
    show q.1 ^ (q.2 / 2) * rootF (l ++ m) = q.1 ^ (q.2 / 2) * rootF l * rootF m
    rw [rootF_append l m, Int.mul_assoc]
theorem odd_root : ∀ l : List (Int × Nat), oddF l * rootF l * rootF l = prodF l
  | [] => rfl
  | q :: l => by
    have ih := odd_root l
    show (if q.2 % 2 = 1 then q.1 else 1) * oddF l * (q.1 ^ (q.2 / 2) * rootF l) * (q.1 ^ (q.2 / 2) * rootF l) = q.1 ^ q.2 * prodF l
    rw [pow_split q.1 q.2, ← ih]
    generalize (if q.2 % 2 = 1 then q.1 else 1) = c
    generalize q.1 ^ (q.2 / 2) = g
    generalize oddF l = o
    generalize rootF l = r
    simp only [Int.mul_comm, Int.mul_left_comm, Int.mul_assoc]
theorem rootF_bound : ∀ {l : List (Int × Nat)}, Primes l → 1 ≤ rootF l ∧ rootF l ≤ prodF l
  | [], _ => ⟨Int.le_refl _, Int.le_refl _⟩
  | q :: l, h => by
    have ih := rootF_bound (l := l) fun r hr => h r (List.mem_cons_of_mem _ hr)
    have hp2 := (h q List.mem_cons_self).1.1
    have h1 : 0 < q.1 ^ (q.2 / 2) := pow_pos_int (by omega) _
    have h2 : q.1 ^ (q.2 / 2) ≤ q.1 ^ q.2 := by
      have e : q.2 = q.2 / 2 + (q.2 - q.2 / 2) := by omega
      have h3 : 0 < q.1 ^ (q.2 - q.2 / 2) := pow_pos_int (by omega) _
      have h4 : q.1 ^ (q.2 / 2) * 1 ≤ q.1 ^ (q.2 / 2) * q.1 ^ (q.2 - q.2 / 2) := Int.mul_le_mul_of_nonneg_left (by omega) (by omega)
      rw [← Int.pow_add, ← e] at h4
      omega
    show 1 ≤ q.1 ^ (q.2 / 2) * rootF l ∧ q.1 ^ (q.2 / 2) * rootF l ≤ q.1 ^ q.2 * prodF l
    refine ⟨?_, Int.mul_le_mul h2 ih.2 (by omega) (by omega)⟩
    have := Int.mul_pos h1 (show 0 < rootF l by omega)
    omega
theorem primes_take {l : List (Int × Nat)} (h : Primes l) (i : Nat) : Primes (l.take i) := fun r hr => h r (List.mem_of_mem_take hr)
theorem rootF_take_pos {l : List (Int × Nat)} (h : Primes l) (i j : Nat) {q : Int} (hq : 2 ≤ q := by omega) : 1 ≤ rootF (l.take i) * q ^ j := by
  have h1 := (rootF_bound (primes_take h i)).1
  have h2 : 0 < q ^ j := pow_pos_int (by omega) _
  have := Int.mul_pos (show 0 < rootF (l.take i) by omega) h2
  omega
theorem pow_le_pow {p : Int} (h : 1 ≤ p) {a b : Nat} (hab : a ≤ b) : p ^ a ≤ p ^ b := by
  have e : b = a + (b - a) := by omega
  have h1 : 0 < p ^ a := pow_pos_int (by omega) _
  have h2 : 0 < p ^ (b - a) := pow_pos_int (by omega) _
  have h4 : p ^ a * 1 ≤ p ^ a * p ^ (b - a) := Int.mul_le_mul_of_nonneg_left (by omega) (by omega)
  rw [← Int.pow_add, ← e] at h4
  omega
theorem rootF_take_le {l : List (Int × Nat)} (h : Primes l) {i j : Nat} (hi : i < l.length) (hj : j < l[i].2 / 2) : rootF (l.take i) * l[i].1 ^ j ≤ prodF l := by
  have hp2 := (h _ (List.getElem_mem hi)).1.1
  have h1 := rootF_bound (primes_take h (i + 1))
  have e : rootF (l.take (i + 1)) = rootF (l.take i) * l[i].1 ^ (l[i].2 / 2) := by
    rw [List.take_add_one, List.getElem?_eq_getElem hi, rootF_append]
    show _ = _
    congr 1
    show l[i].1 ^ (l[i].2 / 2) * 1 = _
    rw [Int.mul_one]
  have h2 := (rootF_bound (primes_take h i)).1
  have h3 : l[i].1 ^ j ≤ l[i].1 ^ (l[i].2 / 2) := pow_le_pow (by omega) (by omega)
  have h4 : rootF (l.take i) * l[i].1 ^ j ≤ rootF (l.take i) * l[i].1 ^ (l[i].2 / 2) := Int.mul_le_mul_of_nonneg_left h3 (by omega)
  have h5 := prodF_take h (i + 1)
  rw [← e] at h4
  omega
theorem sq_not_dvd {l : List (Int × Nat)} (h : Primes l) (d : Distinct l) {q : Int × Nat} (hq : q ∈ l) : ¬ (q.1 * q.1) ∣ oddF l := fun z => by
  have hp := (h q hq).1
  have hperm := List.perm_cons_erase hq
  have h2 : Primes (q :: l.erase q) := fun r hr => h r (hperm.mem_iff.mpr hr)
  have d2 : Distinct (q :: l.erase q) := distinct_perm hperm d
  rw [oddF_perm hperm] at z
  have h3 : q.1 ∣ oddF (l.erase q) := by
    obtain ⟨k, hk⟩ := z
    have hk2 : (if q.2 % 2 = 1 then q.1 else 1) * oddF (l.erase q) = q.1 * q.1 * k := hk
    by_cases c : q.2 % 2 = 1
    · rw [if_pos c, Int.mul_assoc] at hk2
      exact ⟨k, Int.eq_of_mul_eq_mul_left (by have := hp.pos; omega) hk2⟩
    · rw [if_neg c, Int.one_mul, Int.mul_assoc] at hk2
      exact ⟨q.1 * k, hk2⟩
  have h4 : q.1 ∣ prodF (l.erase q) := by
    rw [← odd_root]
    exact Int.dvd_mul_of_dvd_left (Int.dvd_mul_of_dvd_left h3)
  obtain ⟨p, e⟩ := q
  exact not_dvd_rest h2 d2 h4
end Sf

namespace Sf
/-! residues by tables -/
def maskOf (p : Nat) : List Nat → Nat
  | [] => 0
  | x :: l => maskOf p l ||| 2 ^ (x * x % p)
theorem maskOf_bit (p r : Nat) : ∀ l : List Nat, (maskOf p l).testBit r = l.any fun x => x * x % p == r
  | [] => Nat.zero_testBit r
  | x :: l => by
    unfold maskOf
    rw [Nat.testBit_or, maskOf_bit p r l, Nat.testBit_two_pow, List.any_cons, Bool.or_comm]
    rfl
def euler (p : Nat) : Bool :=
  let m := maskOf p (List.range' 1 (p - 1))
  (List.range' 1 (p - 1)).all fun r => (r ^ ((p - 1) / 2) % p == 1) == m.testBit r && (r ^ ((p - 1) / 2) % p == 1 || r ^ ((p - 1) / 2) % p == p - 1)
theorem sqs_nat {p r : Nat} : ((r : Int) ∈ sqs p) ↔ (List.range' 1 (p - 1)).any (fun x => x * x % p == r) = true := by
  unfold sqs
  rw [List.mem_map, List.any_eq_true]
  constructor
  · rintro ⟨i, hi, e⟩
    rw [List.mem_range] at hi
    refine ⟨1 + i, by rw [List.mem_range'_1]; omega, ?_⟩
    rw [beq_iff_eq]
    have e2 : (((1 + i) * (1 + i) % p : Nat) : Int) = (r : Int) := by
      rw [← e]
      push_cast
      rfl
    exact Int.ofNat.inj e2
  · rintro ⟨x, hx, e⟩
    rw [List.mem_range'_1] at hx
    refine ⟨x - 1, by rw [List.mem_range]; omega, ?_⟩
    rw [beq_iff_eq] at e
    have e1 : (1 : Int) + ((x - 1 : Nat) : Int) = (x : Int) := by omega
    rw [e1, ← e]
    push_cast
    rfl
theorem emod_cast {n : Int} {p : Nat} (hp : 0 < p) : ∃ r : Nat, r < p ∧ n % p = (r : Int) := by
  have h1 := Int.emod_nonneg n (by omega : (p : Int) ≠ 0)
  have h2 := Int.emod_lt_of_pos n (by omega : (0 : Int) < p)
  exact ⟨(n % p).toNat, by omega, by omega⟩
theorem half_cast (p : Nat) (hp : 1 ≤ p) : ((((p : Int) - 1) / 2).toNat) = (p - 1) / 2 := by omega
theorem pow_rest {n : Int} {p r : Nat} (k : Nat) (e : n % p = (r : Int)) : n ^ k % p = ((r ^ k % p : Nat) : Int) := by
  rw [← pow_mod, e]
  push_cast
  rfl
theorem euler_at {p : Nat} (h : euler p = true) {r : Nat} (h1 : 1 ≤ r) (h2 : r < p) : (r ^ ((p - 1) / 2) % p = 1 ↔ (r : Int) ∈ sqs p) ∧ (r ^ ((p - 1) / 2) % p = 1 ∨ r ^ ((p - 1) / 2) % p = p - 1) := by
  unfold euler at h
  have h3 := List.all_eq_true.mp h r (by rw [List.mem_range'_1]; omega)
  rw [Bool.and_eq_true, maskOf_bit] at h3
  obtain ⟨h4, h5⟩ := h3
  refine ⟨?_, by simpa using h5⟩
  rw [sqs_nat]
  have h6 := beq_iff_eq.mp h4
  rw [← h6, beq_iff_eq]
theorem sign_eq {p : Nat} (hp : 3 ≤ p) (h : euler p = true) (n : Int) : restSign n p = lawSign n p := by
  unfold restSign lawSign
  by_cases h0 : n % p = 0
  · rw [if_pos h0, if_pos h0]
  · rw [if_neg h0, if_neg h0, if_neg (by omega : ¬ (p : Int) = 2), if_neg (by omega : ¬ (p : Int) = 2)]
    obtain ⟨r, hr, e⟩ := emod_cast (n := n) (by omega : 0 < p)
    have h1 : 1 ≤ r := by
      rcases Nat.eq_zero_or_pos r with z | z
      · rw [z] at e
        exact absurd e h0
      · exact z
    have h2 := (euler_at h h1 hr).1
    rw [half_cast p (by omega), pow_rest _ e, e]
    by_cases c : r ^ ((p - 1) / 2) % p = 1
    · rw [if_pos (h2.mp c), if_pos (by rw [c]; rfl)]
    · rw [if_neg (fun z => c (h2.mpr z)), if_neg (fun z => c (by omega))]
theorem sign_eq2 (n : Int) : restSign n 2 = lawSign n 2 := by
  unfold restSign lawSign
  rfl
theorem sign_mul {p : Nat} (hp : 3 ≤ p) (h : euler p = true) (hq : PrP p) (a b : Int) : restSign (a * b) p = restSign a p * restSign b p := by
  unfold restSign
  have hn : ¬ (p : Int) = 2 := by omega
  by_cases ha : a % p = 0
  · have hab : a * b % p = 0 := Int.emod_eq_zero_of_dvd (Int.dvd_mul_of_dvd_left (Int.dvd_of_emod_eq_zero ha))
    rw [if_pos ha, if_pos hab, Int.zero_mul]
  · by_cases hb : b % p = 0
    · have hab : a * b % p = 0 := Int.emod_eq_zero_of_dvd (Int.dvd_mul_of_dvd_right (Int.dvd_of_emod_eq_zero hb))
      rw [if_pos hb, if_pos hab, Int.mul_zero]
    · have hab : ¬ a * b % p = 0 := fun z => by
        rcases prime_mul hq (Int.dvd_of_emod_eq_zero z) with y | y
        · exact ha (Int.emod_eq_zero_of_dvd y)
        · exact hb (Int.emod_eq_zero_of_dvd y)
      rw [if_neg ha, if_neg hb, if_neg hab, if_neg hn, if_neg hn, if_neg hn, half_cast p (by omega)]
      obtain ⟨r, hr, er⟩ := emod_cast (n := a) (by omega : 0 < p)
      obtain ⟨t, ht, et⟩ := emod_cast (n := b) (by omega : 0 < p)
      have r1 : 1 ≤ r := by
        rcases Nat.eq_zero_or_pos r with z | z
        · rw [z] at er
          exact absurd er ha
        · exact z
      have t1 : 1 ≤ t := by
        rcases Nat.eq_zero_or_pos t with z | z
        · rw [z] at et
          exact absurd et hb
        · exact z
      have e1 := (euler_at h r1 hr).2
      have e2 := (euler_at h t1 ht).2
      have p1 := pow_rest ((p - 1) / 2) er
      have p2 := pow_rest ((p - 1) / 2) et
      have pm : (a * b) ^ ((p - 1) / 2) % p = ((a ^ ((p - 1) / 2) % p) * (b ^ ((p - 1) / 2) % p)) % p := by rw [Int.mul_pow, Int.mul_emod]
      have c1 : ((p - 1 : Nat) : Int) = (p : Int) - 1 := by omega
      have q1 : ((p : Int) - 1) * ((p : Int) - 1) % p = 1 := by
        have : ((p : Int) - 1) * ((p : Int) - 1) = 1 + p * (p - 2) := by
          have e3 : (p : Int) * (p - 2) = p * p - p * 2 := Int.mul_sub ..
          rw [e3, Int.sub_mul, Int.mul_sub]
          omega
        rw [this, Int.add_mul_emod_self_left]
        exact Int.emod_eq_of_lt (by omega) (by omega)
      have q2 : ((p : Int) - 1) % p = p - 1 := Int.emod_eq_of_lt (by omega) (by omega)
      have n1 : ¬ ((p : Int) - 1) = 1 := by omega
      rw [pm, p1, p2]
      rcases e1 with e1 | e1 <;> rcases e2 with e2 | e2 <;> rw [e1, e2]
      · have : ((1 : Nat) : Int) * ((1 : Nat) : Int) % p = 1 := Int.emod_eq_of_lt (by decide) (by show (1 : Int) < p; omega)
        rw [this]
        rfl
      · rw [c1, show ((1 : Nat) : Int) * ((p : Int) - 1) = p - 1 by omega, q2, if_neg n1]
        rfl
      · rw [c1, show ((p : Int) - 1) * ((1 : Nat) : Int) = p - 1 by omega, q2, if_neg n1]
        rfl
      · rw [c1, q1, if_neg n1]
        rfl
theorem sign_mul2 (a b : Int) : restSign (a * b) 2 = restSign a 2 * restSign b 2 := by
  have key : ∀ r : Fin 8, ∀ t : Fin 8, restSign ((r.val : Int) * (t.val : Int)) 2 = restSign r.val 2 * restSign t.val 2 := by decide +kernel
  have red : ∀ n : Int, restSign n 2 = restSign (n % 8) 2 := fun n => by
    unfold restSign
    have h1 : n % 8 % 2 = n % 2 := by omega
    have h2 : n % 8 % 8 = n % 8 := by omega
    rw [h1, h2]
    rfl
  have k2 : ∀ n : Int, ∃ r : _root_.Fin 8, n % 8 = (r.val : Int) := fun n => ⟨⟨(n % 8).toNat, by omega⟩, by show n % 8 = ((n % 8).toNat : Int); omega⟩
  obtain ⟨r, hr⟩ := k2 a
  obtain ⟨t, ht⟩ := k2 b
  rw [red (a * b), Int.mul_emod, ← red, red a, red b, hr, ht]
  exact key r t
end Sf

namespace Sf
open PySem PySem.Spec PyProof.Rows L2
/-! lists and tuples of ints as data -/
theorem lay_ints : ∀ ns : List Int, PyData.canLayAll0 (ns.map PyData.int) = true ∧ PyData.depthAll (ns.map PyData.int) = 0
  | [] => ⟨rfl, rfl⟩
  | n :: ns => by
    obtain ⟨h1, h2⟩ := lay_ints ns
    refine ⟨?_, ?_⟩
    · show (true && PyData.canLayAll0 (ns.map PyData.int)) = true
      rw [h1]
      rfl
    · show max 0 (PyData.depthAll (ns.map PyData.int)) = 0
      rw [h2]
      rfl
theorem shp_list (ns : List Int) : SeqAt.shaped (.list (ns.map PyData.int)) = true := by
  obtain ⟨h1, h2⟩ := lay_ints ns
  show (PyData.canLayAll0 (ns.map PyData.int) && decide (PyData.depthAll (ns.map PyData.int) + 1 ≤ 64)) = true
  rw [h1, h2]
  rfl
theorem shp_tup (ns : List Int) : SeqAt.shaped (.tuple (ns.map PyData.int)) = true := by
  obtain ⟨h1, h2⟩ := lay_ints ns
  show (PyData.canLayAll0 (ns.map PyData.int) && decide (PyData.depthAll (ns.map PyData.int) + 1 ≤ 64)) = true
  rw [h1, h2]
  rfl
theorem eqv_ints : ∀ a b : List Int, PyData.eqvAll (a.map PyData.int) (b.map PyData.int) = decide (a = b)
  | [], [] => rfl
  | [], _ :: _ => rfl
  | _ :: _, [] => rfl
  | x :: a, y :: b => by
    show ((x == y) && PyData.eqvAll (a.map PyData.int) (b.map PyData.int)) = _
    rw [eqv_ints a b, Bool.eq_iff_iff]
    simp only [Bool.and_eq_true, beq_iff_eq, decide_eq_true_eq, List.cons.injEq]
theorem dpAll_ints (K : PySem.W.Frag) (H : Hp) : ∀ ns : List Int, DpAll K H (ns.map V.int) (ns.map PyData.int)
  | [] => .nil
  | n :: ns => .cons (.int n) (dpAll_ints K H ns)
theorem dp_list {K : PySem.W.Frag} {H : Hp} {a : Addr} {ns : List Int} (h : SqL K H a (ns.map V.int)) : Dp K H (.ref a) (.list (ns.map PyData.int)) := .lst h (dpAll_ints K H ns)
theorem dp_tup {K : PySem.W.Frag} {H : Hp} {a : Addr} {ns : List Int} (h : SqT K H a (ns.map V.int)) : Dp K H (.ref a) (.tuple (ns.map PyData.int)) := .tup h (dpAll_ints K H ns)
end Sf

namespace Sf
open PySem PySem.Spec PyProof.Rows L2
/-- all but the thing at p stays -/
def Keep (p : Addr) (H H' : Hp) : Prop := ∀ b o, H b = some o → b ≠ p → H' b = some o
theorem Keep.refl (p : Addr) (H : Hp) : Keep p H H := fun _ _ h _ => h
theorem Keep.trans {p : Addr} {H H1 H2 : Hp} (a : Keep p H H1) (b : Keep p H1 H2) : Keep p H H2 := fun c o h n => b c o (a c o h n) n
theorem Keep.same {p : Addr} {H H' : Hp} (s : Same H H') : Keep p H H' := fun c o h _ => s c o h
theorem Keep.upd {p : Addr} {H : Hp} {o : HO} : Keep p H (upd H p o) := fun c u h n => by rw [upd_ne n]; exact h
theorem Keep.new {p q : Addr} {H : Hp} {o : HO} (h : H q = none) : Keep p H (L2.upd H q o) := Keep.same (same_upd h)
/-- the sack stands at p, n draws made at most -/
def Sk (p : Addr) (n : Nat) (H : Hp) : Prop := ∃ xs, H p = some (.lst xs) ∧ SackO n xs
theorem SackO.mono {n m : Nat} {xs : List V} (h : SackO n xs) (l : n ≤ m) : SackO m xs := by
  obtain ⟨a, b, c, e, h1, h2, h3, h4, h5, h6⟩ := h
  exact ⟨a, b, c, e, h1, h2, h3, h4, h5, by omega⟩
theorem Sk.mono {p : Addr} {n m : Nat} {H : Hp} (h : Sk p n H) (l : n ≤ m) : Sk p m H := let ⟨xs, a, b⟩ := h; ⟨xs, a, b.mono l⟩
theorem Sk.same {p : Addr} {n : Nat} {H H' : Hp} (h : Sk p n H) (s : Same H H') : Sk p n H' := let ⟨xs, a, b⟩ := h; ⟨xs, s _ _ a, b⟩
theorem Sk.ne {p q : Addr} {n : Nat} {H : Hp} (h : Sk p n H) (hq : H q = none) : p ≠ q := let ⟨_, a, _⟩ := h; ne_of_none a hq
theorem Keep.free {p q : Addr} {n : Nat} {H H' : Hp} (k : Keep p H H') (s : Sk p n H') (h : H' q = none) : H q = none := by
  cases e : H q with
  | none => rfl
  | some o =>
    have n : q ≠ p := fun z => by
      obtain ⟨_, a, _⟩ := s
      rw [z, a] at h
      cases h
    rw [k q o e n] at h
    cases h
end Sf

namespace Sf
open PySem PySem.Spec PyProof.Rows L2
/-- a draw: the same promises in the words of Sk -/
theorem take_of {H : Hp} {p : Addr} {n : Nat} {m : Int} {Q : VK} (hs : Sk p n H) (hn : n ≤ 1000000) (h1 : 1 ≤ m) (h2 : m < 10 ^ 80) (q : ∀ (r : Int) (H' : Hp), 0 ≤ r → r < m → Keep p H H' → Sk p (n + 1) H' → (∀ b, H b = none → H' b = none) → Q (.int r) H') : TakeP [.ref p, .int m] H Q := by
  obtain ⟨xs, a, b⟩ := hs
  exact ⟨p, xs, n, m, rfl, a, b, hn, h1, h2, fun r ys r0 r1 hy => q r _ r0 r1 Keep.upd ⟨ys, upd_same, hy⟩ fun c hc => by rw [upd_ne (fun z => by rw [z, a] at hc; cases hc)]; exact hc⟩
theorem one_of_new {K : PySem.W.Frag} {H : Hp} {p b : Addr} {n : Nat} {items : List V} {Q : VK} (hs : Sk p n H) (hn : n ≤ 1000000) (hb : H b = none) (h1 : 1 ≤ items.length) (h2 : items.length ≤ 1000000)
    (q : ∀ (v : V) (H' : Hp), v ∈ items → Keep p H H' → Sk p (n + 1) H' → Q v H') : OneOfP K [.ref p, .ref b] (upd H b (.lst items)) Q := by
  obtain ⟨xs, a, o⟩ := hs
  have npb : p ≠ b := ne_of_none a hb
  refine ⟨p, b, xs, items, n, rfl, by rw [upd_ne npb]; exact a, o, hn, npb.symm, SqL.of upd_same, h1, h2, fun v ys hv hy => q v _ hv ?_ ⟨ys, upd_same, hy⟩⟩
  exact (Keep.new hb).trans Keep.upd
end Sf

namespace Sf
open PySem PySem.Spec PyProof.Rows L2
section
variable {P : Program} {w : World} {K : PySem.W.Frag} {mg : Str → Option Value} {base : Heap} {f : Addr} {fd : FuncData}
def spSquareFree : Sp := fun vs H Q _ => ∃ n : Int, vs = [.int n] ∧ n ≠ 0 ∧ -1000000000 ≤ n ∧ n ≤ 1000000000 ∧
  ∀ (l : List (Int × Nat)) (H' : Hp), FactOf (absI n) l → Same H H' → Q (.int (if 0 < n then oddF l else -oddF l)) H'
theorem ok_free_part (F : FnD K "free_part" "free_part" s_P_free_part f fd) (C_P_prime_powers : Cal P w K mg base 2 "prime_powers" ["number"] spFactors) : FnOk P w K mg base CX0 3 f fd ["number"] spSquareFree := by
  refine F.ok sc_P_free_part (fun vs H Q E h => ?_) (fun cdv A outer s H vs Q E hr h => ?_)
  · obtain ⟨n, rfl, _⟩ := h; rfl
  · obtain ⟨n, rfl, hn, h1, h2, q⟩ := h
    have hN2 : absI n ≤ 1000000000 := by unfold absI; split <;> omega
    refine ⟨_, PSs.nox (pss_cons (ps_set (i := 1) sc_P_free_part.nd rfl (Or.inl rfl) pe_int)
      (pss_cons (ps_for PassesOwn.never rfl (pi_items (pe_frz (pe_cal C_P_prime_powers (hr.mono (by decide)) (pa_cons (pv 0) pa_nil)))) (pg_tup (by rfl) (pgs_cons (pg_name (i := 2) sc_P_free_part.nd rfl (Or.inl rfl)) (pgs_cons (pg_name (i := 3) sc_P_free_part.nd rfl (Or.inl rfl)) pgs_nil))) (pss_one (ps_if (pt_cmp (pc_eqI (pe_op op_mod (pv 3) pe_int) pe_int)) (pss_one (ps_set (i := 1) sc_P_free_part.nd rfl (Or.inl rfl) (pe_op op_mulW (pv 1) (pv 2)))) pss_nil)))
      (pss_one (ps_ret (pe_ifExp (pt_cmp (pc_gt (pv 0) pe_int)) (pv 1) (pe_un un_neg (pv 1))))))), ?_⟩
    refine ⟨_, rfl, n, rfl, hn, h1, h2, fun l d H1 hf hs hd hdd => ⟨d, _, rfl, hdd, True.intro, fun od => ?_⟩⟩
    have hs1 : Same H (upd H1 d (.frz od (.dK (kvsF l)))) := fun b o e => by
      rw [upd_ne (ne_of_none e hd)]
      exact hs b o e
    refine ⟨d, od, kvsF l, rfl, upd_same, fun i c σ H' => ∃ v1 v2, σ = [some (.int n), some (.int (oddF (l.take i))), v1, v2] ∧ i + c = l.length ∧ Same H H' ∧ H' d = some (.frz od (.dK (kvsF l))), ⟨l.length, none, none, rfl, by omega, hs1, upd_same⟩, ?_⟩
    rintro i c σ H' ⟨v1, v2, rfl, hc, hs', hd'⟩
    by_cases hi : i < l.length
    · refine .inr ⟨⟨hd', by rw [kvsF_len]; exact hi⟩, _, fun _ _ z => z, fun x H2 hy => ?_⟩
      obtain ⟨T, k, v, e1, rfl, hT, rfl⟩ := hy
      have ek : ((Sum.inl l[i].1 : Key), V.int l[i].2) = (k, v) := by
        unfold kvsF at e1
        rw [List.getElem?_map, List.getElem?_eq_getElem hi] at e1
        exact Option.some.inj e1
      cases ek
      refine ⟨T, _, rfl, .inl (.inl upd_same), rfl, _, _, rfl, _, _, rfl, rfl, ?_⟩
      have hsT : Same H (upd H' T (.tup [kV (Sum.inl l[i].1), .int l[i].2])) := hs'.trans (same_upd hT)
      have hdT : (upd H' T (.tup [kV (Sum.inl l[i].1), .int l[i].2])) d = some (.frz od (.dK (kvsF l))) := by
        rw [upd_ne (ne_of_none hd' hT)]
        exact hd'
      have et : oddF (l.take (i + 1)) = oddF (l.take i) * (if l[i].2 % 2 = 1 then l[i].1 else 1) := by
        rw [List.take_add_one, List.getElem?_eq_getElem hi, oddF_append]
        show _ = _
        congr 1
        show (if l[i].2 % 2 = 1 then l[i].1 else 1) * 1 = _
        rw [Int.mul_one]
      refine ⟨_, rfl, _, _, rfl, rfl, (by show (0 : Int) < 2; decide), _, _, rfl, rfl, _, rfl, ifd (fun h3 => ?_) (fun h3 => ?_)⟩
      · have h4 : l[i].2 % 2 = 1 := by omega
        rw [if_pos h4] at et
        have hp : Primes (l.take i) := fun r hr => hf.2.2 r (List.mem_of_mem_take hr)
        have k1 := oddF_bound hp
        have k2 := prodF_take hf.2.2 i
        have k3 := prodF_mem hf.2.2 l[i] (List.getElem_mem hi)
        have k4 := (hf.2.2 l[i] (List.getElem_mem hi)).1.1
        have k5 := hf.1
        refine ⟨_, rfl, _, rfl, _, _, rfl, rfl, CMulW.of (lt3000s (by omega) (by omega)) (lt3000s (by omega) (by omega)), ?_⟩
        exact ⟨c - 1, by omega, some (.int l[i].1), some (.int l[i].2), (by rw [et]; rfl), by omega, hsT, hdT⟩
      · have h4 : ¬ l[i].2 % 2 = 1 := by omega
        rw [if_neg h4, Int.mul_one] at et
        exact ⟨c - 1, by omega, some (.int l[i].1), some (.int l[i].2), (by rw [et]; rfl), by omega, hsT, hdT⟩
    · refine .inl ⟨⟨hd', by rw [kvsF_len]; omega⟩, ?_⟩
      have ei : l.take i = l := List.take_of_length_le (by omega)
      rw [ei]
      refine ⟨_, rfl, _, _, rfl, rfl, _, rfl, ifd (fun h3 => ?_) (fun h3 => ?_)⟩
      · have z := q l H' hf hs'
        rw [if_pos h3] at z
        exact ⟨_, rfl, z⟩
      · have z := q l H' hf hs'
        rw [if_neg h3] at z
        exact ⟨_, rfl, _, rfl, z⟩
theorem ok_square_free (F : FnD K "square_free" "square_free" s_P_square_free f fd) (C_P_check_number : Cal P w K mg base 2 "check_number" ["value"] spCheckNumber) (C_P_free_part : Cal P w K mg base 3 "free_part" ["number"] spSquareFree) : FnOk P w K mg base CX0 4 f fd ["number"] spSquareFree := by
  refine F.ok sc_P_square_free (fun vs H Q E h => ?_) (fun cdv A outer s H vs Q E hr h => ?_)
  · obtain ⟨n, rfl, _⟩ := h; rfl
  · obtain ⟨n, rfl, hn, h1, h2, q⟩ := h
    refine ⟨_, PSs.nox (pss_cons (ps_expr (pe_cal C_P_check_number (hr.mono (by decide)) (pa_cons (pv 0) pa_nil)))
      (pss_one (ps_ret (pe_cal C_P_free_part (hr.mono (by decide)) (pa_cons (pv 0) pa_nil))))), ?_⟩
    exact ⟨_, rfl, n, rfl, hn, h1, h2, _, rfl, n, rfl, hn, h1, h2, q⟩
end
end Sf

namespace Sf
theorem strip_unique {n p : Int} (hp : PrP p) {m m' : Nat} {u u' : Int} (h : Strip n p m u) (h' : Strip n p m' u') : m = m' ∧ u = u' :=
  pow_cancel hp (fun z => h.2 (Int.emod_eq_zero_of_dvd z)) (fun z => h'.2 (Int.emod_eq_zero_of_dvd z)) (h.1.symm.trans h'.1)
theorem strip_ne {n p : Int} {m : Nat} {u : Int} (h : Strip n p m u) : u ≠ 0 := fun z => h.2 (by rw [z]; exact Int.zero_emod _)
theorem strip_le {n p : Int} (hp : 2 ≤ p) {m : Nat} {u : Int} (h : Strip n p m u) : u.natAbs ≤ n.natAbs ∧ (m : Int) < n.natAbs + 1 := by
  have h1 := h.1
  have hu := strip_ne h
  have hpm : 0 < p ^ m := pow_pos_int (by omega) m
  have e : n.natAbs = (p ^ m).natAbs * u.natAbs := by rw [h1]; exact Int.natAbs_mul _ _
  have g1 : 1 ≤ (p ^ m).natAbs := by omega
  have g2 : 1 ≤ u.natAbs := by omega
  have g3 : 1 * u.natAbs ≤ (p ^ m).natAbs * u.natAbs := Nat.mul_le_mul_right _ g1
  have g4 : (p ^ m).natAbs * 1 ≤ (p ^ m).natAbs * u.natAbs := Nat.mul_le_mul_left _ g2
  have g5 := nat_lt_pow hp m
  omega
/-- the sign at a prime by what is stripped -/
def sgnAt (p : Int) (s t : Nat) (u v : Int) : Int :=
  if p = 2 then (if ((u - 1) / 2 * ((v - 1) / 2) + s * ((v * v - 1) / 8) + t * ((u * u - 1) / 8)) % 2 = 1 then -1 else 1)
  else (if s * t % 2 = 1 then restSign (-1) p else 1) * (if t % 2 = 1 then restSign u p else 1) * (if s % 2 = 1 then restSign v p else 1)
def HSign (a b p r : Int) : Prop := (p = 0 ∧ r = if a < 0 ∧ b < 0 then -1 else 1) ∨ (p ≠ 0 ∧ ∃ (s t : Nat) (u v : Int), Strip a p s u ∧ Strip b p t v ∧ r = sgnAt p s t u v)
theorem hsign_unique {a b p r r' : Int} (hp : p = 0 ∨ PrP p) (h : HSign a b p r) (h' : HSign a b p r') : r = r' := by
  rcases h with ⟨h0, h1⟩ | ⟨h0, s, t, u, v, h1, h2, h3⟩
  · rcases h' with ⟨_, g1⟩ | ⟨g0, _⟩
    · rw [h1, g1]
    · exact absurd h0 g0
  · rcases h' with ⟨g0, _⟩ | ⟨_, s', t', u', v', g1, g2, g3⟩
    · exact absurd g0 h0
    · have hp := hp.resolve_left h0
      obtain ⟨e1, e2⟩ := strip_unique hp h1 g1
      obtain ⟨e3, e4⟩ := strip_unique hp h2 g2
      rw [h3, g3, e1, e2, e3, e4]
theorem sgnAt_comm (p : Int) (s t : Nat) (u v : Int) : sgnAt p s t u v = sgnAt p t s v u := by
  unfold sgnAt
  by_cases h : p = 2
  · rw [if_pos h, if_pos h]
    have e : (u - 1) / 2 * ((v - 1) / 2) + s * ((v * v - 1) / 8) + t * ((u * u - 1) / 8) = (v - 1) / 2 * ((u - 1) / 2) + t * ((u * u - 1) / 8) + s * ((v * v - 1) / 8) := by
      rw [Int.mul_comm ((u - 1) / 2)]
      omega
    rw [e]
  · rw [if_neg h, if_neg h, Nat.mul_comm s t, Int.mul_assoc, Int.mul_assoc]
    congr 1
    exact Int.mul_comm _ _
theorem hsign_comm {a b p r : Int} (h : HSign a b p r) : HSign b a p r := by
  rcases h with ⟨h0, h1⟩ | ⟨h0, s, t, u, v, h1, h2, h3⟩
  · refine .inl ⟨h0, ?_⟩
    rw [h1]
    by_cases c : a < 0 ∧ b < 0
    · rw [if_pos c, if_pos c.symm]
    · rw [if_neg c, if_neg (fun z => c z.symm)]
  · exact .inr ⟨h0, t, s, v, u, h2, h1, by rw [h3]; exact sgnAt_comm ..⟩
theorem rest_small (n p : Int) : -1 ≤ restSign n p ∧ restSign n p ≤ 1 := by
  unfold restSign
  split
  · decide
  · split
    · split <;> decide
    · split <;> decide
end Sf

namespace Sf
open PySem PySem.Spec PyProof.Rows L2
section
variable {P : Program} {w : World} {K : PySem.W.Frag} {mg : Str → Option Value} {base : Heap} {f : Addr} {fd : FuncData}
def spQuarter : Sp := fun vs H Q _ => ∃ u : Int, vs = [.int u] ∧ Q (.int ((u - 1) / 2)) H
theorem ok_quarter (F : FnD K "quarter" "quarter" s_P_quarter f fd) : FnOk P w K mg base CX0 1 f fd ["unit"] spQuarter := by
  refine F.ok sc_P_quarter (fun vs H Q E h => ?_) (fun cdv A outer s H vs Q E hr h => ?_)
  · obtain ⟨n, rfl, _⟩ := h; rfl
  · obtain ⟨n, rfl, q⟩ := h
    refine ⟨_, PSs.nox (pss_one (ps_ret (pe_op op_fdivW (pe_op op_sub (pv 0) pe_int) pe_int))), ?_⟩
    exact ⟨_, rfl, _, _, rfl, rfl, _, _, rfl, rfl, CDivW.of (by decide) (by decide +kernel), q⟩
def spEighth : Sp := fun vs H Q _ => ∃ u : Int, vs = [.int u] ∧ u.natAbs < 2 ^ 3000 ∧ Q (.int ((u * u - 1) / 8)) H
theorem ok_eighth (F : FnD K "eighth" "eighth" s_P_eighth f fd) : FnOk P w K mg base CX0 1 f fd ["unit"] spEighth := by
  refine F.ok sc_P_eighth (fun vs H Q E h => ?_) (fun cdv A outer s H vs Q E hr h => ?_)
  · obtain ⟨n, rfl, _⟩ := h; rfl
  · obtain ⟨n, rfl, hb, q⟩ := h
    refine ⟨_, PSs.nox (pss_one (ps_ret (pe_op op_fdivW (pe_op op_sub (pe_op op_mulW (pv 0) (pv 0)) pe_int) pe_int))), ?_⟩
    exact ⟨_, rfl, _, rfl, _, _, rfl, rfl, CMulW.of hb hb, _, _, rfl, rfl, _, _, rfl, rfl, CDivW.of (by decide) (by decide +kernel), q⟩
structure SgnP (two : Bool) (vs : List V) (H : Hp) (Q : VK) : Prop where
  ex : ∃ a b p : Int, vs = (if two then [.int a, .int b] else [.int a, .int b, .int p]) ∧ (two = true → p = 2) ∧ (two = false → p ≠ 2) ∧ a ≠ 0 ∧ b ≠ 0 ∧ a.natAbs ≤ 1000000000 ∧ b.natAbs ≤ 1000000000 ∧ 2 ≤ p ∧ p ≤ 1000000000 ∧
    ∀ (s t : Nat) (u v : Int) (H' : Hp), Strip a p s u → Strip b p t v → Same H H' → Q (.int (sgnAt p s t u v)) H'
def spSgn (two : Bool) : Sp := fun vs H Q _ => SgnP two vs H Q
theorem small_mul {a b A B : Int} (ha : a.natAbs ≤ A.natAbs) (hb : b.natAbs ≤ B.natAbs) : (a * b).natAbs ≤ (A * B).natAbs := by
  rw [Int.natAbs_mul, Int.natAbs_mul]
  exact Nat.mul_le_mul ha hb
theorem ok_sign_at_two (F : FnD K "sign_at_two" "sign_at_two" s_P_sign_at_two f fd) (C_P_stripped : Cal P w K mg base 1 "stripped" ["number", "prime"] spStripped) (C_P_quarter : Cal P w K mg base 1 "quarter" ["unit"] spQuarter) (C_P_eighth : Cal P w K mg base 1 "eighth" ["unit"] spEighth) :
    FnOk P w K mg base CX0 2 f fd ["a", "b"] (spSgn true) := by
  refine F.ok sc_P_sign_at_two (fun vs H Q E h => ?_) (fun cdv A outer s H vs Q E hr h => ?_)
  · obtain ⟨a, b, p, rfl, _⟩ := h.ex; rfl
  · obtain ⟨a, b, p, rfl, h2, _, a0, b0, a1, b1, _, _, q⟩ := h.ex
    obtain rfl : p = 2 := h2 rfl
    refine ⟨_, PSs.nox (pss_cons (ps_asg (pe_cal C_P_stripped (hr.mono (by decide)) (pa_cons (pv 0) (pa_cons pe_int pa_nil))) (pg_tup (by rfl) (pgs_cons (pg_name (i := 2) sc_P_sign_at_two.nd rfl (Or.inl rfl)) (pgs_cons (pg_name (i := 3) sc_P_sign_at_two.nd rfl (Or.inl rfl)) pgs_nil))))
      (pss_cons (ps_asg (pe_cal C_P_stripped (hr.mono (by decide)) (pa_cons (pv 1) (pa_cons pe_int pa_nil))) (pg_tup (by rfl) (pgs_cons (pg_name (i := 4) sc_P_sign_at_two.nd rfl (Or.inl rfl)) (pgs_cons (pg_name (i := 5) sc_P_sign_at_two.nd rfl (Or.inl rfl)) pgs_nil))))
      (pss_cons (ps_set (i := 6) sc_P_sign_at_two.nd rfl (Or.inl rfl) (pe_op op_add (pe_op op_add (pe_op op_mulW (pe_cal C_P_quarter (hr.mono (by decide)) (pa_cons (pv 3) pa_nil)) (pe_cal C_P_quarter (hr.mono (by decide)) (pa_cons (pv 5) pa_nil))) (pe_op op_mulW (pv 2) (pe_cal C_P_eighth (hr.mono (by decide)) (pa_cons (pv 5) pa_nil)))) (pe_op op_mulW (pv 4) (pe_cal C_P_eighth (hr.mono (by decide)) (pa_cons (pv 3) pa_nil)))))
      (pss_one (ps_ret (pe_ifExp (pt_cmp (pc_eqI (pe_op op_mod (pv 6) pe_int) pe_int)) (pe_un un_neg pe_int) pe_int)))))), ?_⟩
    have tb : (2 : Int).natAbs < 2 ^ 3000 := by decide +kernel
    refine ⟨_, rfl, a, 2, rfl, a0, by decide, tb, fun s u x1 st1 hx1 => ⟨x1, _, rfl, .inl (.inl upd_same), rfl, _, _, rfl, _, _, rfl, rfl, ?_⟩⟩
    refine ⟨_, rfl, b, 2, rfl, b0, by decide, tb, fun t v x2 st2 hx2 => ⟨x2, _, rfl, .inl (.inl upd_same), rfl, _, _, rfl, _, _, rfl, rfl, ?_⟩⟩
    have l1 := strip_le (by decide) st1
    have l2 := strip_le (by decide) st2
    have ub : u.natAbs < 2 ^ 3000 := lt3000s (by omega) (by omega)
    have vb : v.natAbs < 2 ^ 3000 := lt3000s (by omega) (by omega)
    have uu : (u * u).natAbs ≤ 1000000000000000000 := by
      have := small_mul (a := u) (b := u) (A := 1000000000) (B := 1000000000) (by omega) (by omega)
      exact this
    have vv : (v * v).natAbs ≤ 1000000000000000000 := by
      have := small_mul (a := v) (b := v) (A := 1000000000) (B := 1000000000) (by omega) (by omega)
      exact this
    refine ⟨_, rfl, u, rfl, _, rfl, v, rfl, _, _, rfl, rfl, CMulW.of (lt3000s (by omega) (by omega)) (lt3000s (by omega) (by omega)), _, rfl, _, rfl, v, rfl, vb, _, _, rfl, rfl, CMulW.of (lt3000s (by omega) (by omega)) (lt3000s (by omega) (by omega)), _, _, rfl, rfl, _, rfl, _, rfl, u, rfl, ub, _, _, rfl, rfl, CMulW.of (lt3000s (by omega) (by omega)) (lt3000s (by omega) (by omega)), _, _, rfl, rfl, ?_⟩
    have z := q s t u v (upd (upd H x1 (.tup [.int s, .int u])) x2 (.tup [.int t, .int v])) st1 st2 ((same_upd hx1).trans (same_upd hx2))
    unfold sgnAt at z
    rw [if_pos rfl] at z
    refine ⟨_, rfl, _, _, rfl, rfl, (by show (0 : Int) < 2; decide), _, _, rfl, rfl, _, rfl, ifd (fun h => ?_) (fun h => ?_)⟩
    · rw [if_pos h] at z
      exact ⟨_, rfl, z⟩
    · rw [if_neg h] at z
      exact z
theorem mul1 (a : Int) : 1 * a = a := Int.one_mul a
theorem ok_sign_at_odd (F : FnD K "sign_at_odd" "sign_at_odd" s_P_sign_at_odd f fd) (C_P_stripped : Cal P w K mg base 1 "stripped" ["number", "prime"] spStripped) (C_P_rest_sign : Cal P w K mg base 2 "rest_sign" ["number", "prime"] spRestSign) :
    FnOk P w K mg base CX0 3 f fd ["a", "b", "prime"] (spSgn false) := by
  refine F.ok sc_P_sign_at_odd (fun vs H Q E h => ?_) (fun cdv A outer s H vs Q E hr h => ?_)
  · obtain ⟨a, b, p, rfl, _⟩ := h.ex; rfl
  · obtain ⟨a, b, p, rfl, _, hp2, a0, b0, a1, b1, p2, p9, q⟩ := h.ex
    have pn : p ≠ 2 := hp2 rfl
    refine ⟨_, PSs.nox (pss_cons (ps_asg (pe_cal C_P_stripped (hr.mono (by decide)) (pa_cons (pv 0) (pa_cons (pv 2) pa_nil))) (pg_tup (by rfl) (pgs_cons (pg_name (i := 3) sc_P_sign_at_odd.nd rfl (Or.inl rfl)) (pgs_cons (pg_name (i := 4) sc_P_sign_at_odd.nd rfl (Or.inl rfl)) pgs_nil))))
      (pss_cons (ps_asg (pe_cal C_P_stripped (hr.mono (by decide)) (pa_cons (pv 1) (pa_cons (pv 2) pa_nil))) (pg_tup (by rfl) (pgs_cons (pg_name (i := 5) sc_P_sign_at_odd.nd rfl (Or.inl rfl)) (pgs_cons (pg_name (i := 6) sc_P_sign_at_odd.nd rfl (Or.inl rfl)) pgs_nil))))
      (pss_cons (ps_set (i := 7) sc_P_sign_at_odd.nd rfl (Or.inl rfl) pe_int)
      (Evl.pss_cut (ps_if (pt_cmp (pc_eqI (pe_op op_mod (pe_op op_mulW (pv 3) (pv 5)) pe_int) pe_int)) (pss_one (ps_set (i := 7) sc_P_sign_at_odd.nd rfl (Or.inl rfl) (pe_op op_mulW (pv 7) (pe_cal C_P_rest_sign (hr.mono (by decide)) (pa_cons (pe_un un_neg pe_int) (pa_cons (pv 2) pa_nil)))))) pss_nil)
      (Evl.pss_cut (ps_if (pt_cmp (pc_eqI (pe_op op_mod (pv 5) pe_int) pe_int)) (pss_one (ps_set (i := 7) sc_P_sign_at_odd.nd rfl (Or.inl rfl) (pe_op op_mulW (pv 7) (pe_cal C_P_rest_sign (hr.mono (by decide)) (pa_cons (pv 4) (pa_cons (pv 2) pa_nil)))))) pss_nil)
      (pss_cons (ps_if (pt_cmp (pc_eqI (pe_op op_mod (pv 3) pe_int) pe_int)) (pss_one (ps_set (i := 7) sc_P_sign_at_odd.nd rfl (Or.inl rfl) (pe_op op_mulW (pv 7) (pe_cal C_P_rest_sign (hr.mono (by decide)) (pa_cons (pv 6) (pa_cons (pv 2) pa_nil)))))) pss_nil)
      (pss_one (ps_ret (pv 7))))))))), ?_⟩
    have tb : p.natAbs < 2 ^ 3000 := lt3000s (by omega) (by omega)
    have tb1 : p.natAbs < 2 ^ 1000 := Nat.lt_trans (by omega : p.natAbs < 2000000000) (by decide +kernel)
    refine ⟨_, rfl, _, rfl, a, p, rfl, a0, p2, tb, fun s u x1 st1 hx1 => ⟨x1, _, rfl, .inl (.inl upd_same), rfl, _, _, rfl, _, _, rfl, rfl, ?_⟩⟩
    refine ⟨_, rfl, _, rfl, b, p, rfl, b0, p2, tb, fun t v x2 st2 hx2 => ⟨x2, _, rfl, .inl (.inl upd_same), rfl, _, _, rfl, _, _, rfl, rfl, ?_⟩⟩
    have l1 := strip_le p2 st1
    have l2 := strip_le p2 st2
    have k0 : Same H (upd (upd H x1 (.tup [.int s, .int u])) x2 (.tup [.int t, .int v])) := (same_upd hx1).trans (same_upd hx2)
    have est : ((s : Int) * (t : Int)) = ((s * t : Nat) : Int) := (Int.natCast_mul s t).symm
    have hst : ((s : Int) * (t : Int)) % 2 = 1 ↔ s * t % 2 = 1 := by rw [est]; omega
    have r1 := rest_small (-1) p
    have r2 := rest_small u p
    have r3 := rest_small v p
    have z := fun H' k => q s t u v H' st1 st2 k
    unfold sgnAt at z
    rw [if_neg pn] at z
    refine ⟨fun σ' H' => σ' = [some (.int a), some (.int b), some (.int p), some (.int s), some (.int u), some (.int t), some (.int v), some (.int (if s * t % 2 = 1 then restSign (-1) p else 1))] ∧ Same H H', ?_, ?_⟩
    · refine ⟨_, rfl, _, rfl, _, _, rfl, rfl, CMulW.of (lt3000s (by omega) (by omega)) (lt3000s (by omega) (by omega)), _, _, rfl, rfl, (by show (0 : Int) < 2; decide), _, _, rfl, rfl, _, rfl, ifd (fun h => ?_) (fun h => ?_)⟩
      · have h' := hst.mp h
        rw [if_pos h']
        exact ⟨_, rfl, 1, rfl, _, rfl, -1, p, rfl, p2, tb1, fun H' k => ⟨_, _, rfl, rfl, CMulW.of (lt3000s (by decide) (by decide)) (lt3000s (by omega) (by omega)), (by show [some (V.int a), some (.int b), some (.int p), some (.int s), some (.int u), some (.int t), some (.int v), some (.int (1 * restSign (-1) p))] = _; rw [mul1]), k0.trans k⟩⟩
      · have h' := fun z => h (hst.mpr z)
        rw [if_neg h']
        exact ⟨rfl, k0⟩
    rintro σ' H1 ⟨rfl, k1⟩
    have b1 : -1 ≤ (if s * t % 2 = 1 then restSign (-1) p else 1) ∧ (if s * t % 2 = 1 then restSign (-1) p else 1) ≤ 1 := by split <;> omega
    have b2 : -1 ≤ (if t % 2 = 1 then restSign u p else 1) ∧ (if t % 2 = 1 then restSign u p else 1) ≤ 1 := by split <;> omega
    generalize (if s * t % 2 = 1 then restSign (-1) p else 1) = x at z b1
    refine ⟨fun σ' H' => σ' = [some (.int a), some (.int b), some (.int p), some (.int s), some (.int u), some (.int t), some (.int v), some (.int (x * (if t % 2 = 1 then restSign u p else 1)))] ∧ Same H H', ?_, ?_⟩
    · refine ⟨_, rfl, _, _, rfl, rfl, (by show (0 : Int) < 2; decide), _, _, rfl, rfl, _, rfl, ifd (fun h => ?_) (fun h => ?_)⟩
      · have h' : t % 2 = 1 := by omega
        rw [if_pos h']
        exact ⟨_, rfl, _, rfl, _, rfl, u, p, rfl, p2, tb1, fun H' k => ⟨_, _, rfl, rfl, CMulW.of (lt3000s (by omega) (by omega)) (lt3000s (by omega) (by omega)), rfl, k1.trans k⟩⟩
      · have h' : ¬ t % 2 = 1 := by omega
        rw [if_neg h', Int.mul_one]
        exact ⟨rfl, k1⟩
    rintro σ' H2 ⟨rfl, k2⟩
    generalize (if t % 2 = 1 then restSign u p else 1) = y at z b2
    have b3 : (x * y).natAbs ≤ 1 := small_mul (A := 1) (B := 1) (by omega) (by omega)
    refine ⟨_, rfl, _, _, rfl, rfl, (by show (0 : Int) < 2; decide), _, _, rfl, rfl, _, rfl, ifd (fun h => ?_) (fun h => ?_)⟩
    · have h' : s % 2 = 1 := by omega
      rw [if_pos h'] at z
      exact ⟨_, rfl, _, rfl, _, rfl, v, p, rfl, p2, tb1, fun H' k => ⟨_, _, rfl, rfl, CMulW.of (lt3000s (by omega) (by omega)) (lt3000s (by omega) (by omega)), _, rfl, z _ (k2.trans k)⟩⟩
    · have h' : ¬ s % 2 = 1 := by omega
      rw [if_neg h', Int.mul_one] at z
      exact ⟨_, rfl, z _ k2⟩
structure SignP (vs : List V) (H : Hp) (Q : VK) : Prop where
  ex : ∃ a b p : Int, vs = [.int a, .int b, .int p] ∧ a ≠ 0 ∧ b ≠ 0 ∧ a.natAbs ≤ 1000000000 ∧ b.natAbs ≤ 1000000000 ∧ (p = 0 ∨ PrP p ∧ p ≤ 1000000000) ∧ ∀ (r : Int) (H' : Hp), HSign a b p r → Same H H' → Q (.int r) H'
def spSign : Sp := fun vs H Q _ => SignP vs H Q
theorem ok_sign (F : FnD K "sign" "sign" s_P_sign f fd) (C_P_sign_at_two : Cal P w K mg base 2 "sign_at_two" ["a", "b"] (spSgn true)) (C_P_sign_at_odd : Cal P w K mg base 3 "sign_at_odd" ["a", "b", "prime"] (spSgn false)) :
    FnOk P w K mg base CX0 4 f fd ["a", "b", "place"] spSign := by
  refine F.ok sc_P_sign (fun vs H Q E h => ?_) (fun cdv A outer s H vs Q E hr h => ?_)
  · obtain ⟨a, b, p, rfl, _⟩ := h.ex; rfl
  · obtain ⟨a, b, p, rfl, a0, b0, a1, b1, hp, q⟩ := h.ex
    refine ⟨_, PSs.nox (pss_cons (ps_if (pt_cmp (pc_eqI (pv 2) pe_int)) (pss_one (ps_ret (pe_ifExp (PW.pt (pw_and (pt_cmp (pc_lt (pv 0) pe_int)) (pw_and1 (pt_cmp (pc_lt (pv 1) pe_int))))) (pe_un un_neg pe_int) pe_int))) pss_nil)
      (pss_cons (ps_if (pt_cmp (pc_eqI (pv 2) pe_int)) (pss_one (ps_ret (pe_cal C_P_sign_at_two (hr.mono (by decide)) (pa_cons (pv 0) (pa_cons (pv 1) pa_nil))))) pss_nil)
      (pss_one (ps_ret (pe_cal C_P_sign_at_odd (hr.mono (by decide)) (pa_cons (pv 0) (pa_cons (pv 1) (pa_cons (pv 2) pa_nil)))))))), ?_⟩
    refine ⟨_, rfl, _, _, rfl, rfl, _, rfl, ifd (fun h => ?_) (fun h => ?_)⟩
    · have z := fun r e => q r H (.inl ⟨h, e⟩) (Same.refl H)
      refine ⟨_, rfl, _, _, rfl, rfl, _, rfl, ifd (fun h1 => ⟨_, rfl, _, _, rfl, rfl, _, rfl, ifd (fun h2 => ?_) (fun h2 => ?_)⟩) (fun h1 => ?_)⟩
      · exact ⟨_, rfl, z _ (by rw [if_pos ⟨h1, h2⟩])⟩
      · exact z _ (by rw [if_neg (fun c => h2 c.2)])
      · exact z _ (by rw [if_neg (fun c => h1 c.1)])
    · have hp := hp.resolve_left h
      have p2 := hp.1.1
      refine ⟨_, rfl, _, _, rfl, rfl, _, rfl, ifd (fun h2 => ?_) (fun h2 => ?_)⟩
      · have h2 : p = 2 := h2
        subst h2
        exact ⟨_, rfl, _, rfl, ⟨a, b, 2, rfl, fun _ => rfl, fun z => Bool.noConfusion z, a0, b0, a1, b1, by decide, by decide, fun s t u v H' h3 h4 k => q _ H' (.inr ⟨h, s, t, u, v, h3, h4, rfl⟩) k⟩⟩
      · exact ⟨_, rfl, _, rfl, _, rfl, ⟨a, b, p, rfl, fun z => Bool.noConfusion z, fun _ => h2, a0, b0, a1, b1, p2, hp.2, fun s t u v H' h3 h4 k => q _ H' (.inr ⟨h, s, t, u, v, h3, h4, rfl⟩) k⟩⟩
end
end Sf

namespace Sf
open PySem PySem.Spec PyProof.Rows L2
section
variable {P : Program} {w : World} {K : PySem.W.Frag} {mg : Str → Option Value} {base : Heap} {f : Addr} {fd : FuncData}
def spCheckPlace : Sp := fun vs H Q _ => ∃ p : Int, vs = [.int p] ∧ (p = 0 ∨ (PrP p ∧ p ≤ 1000000000)) ∧ Q .non H
theorem ok_check_place (F : FnD K "check_place" "check_place" s_P_check_place f fd) (C_P_is_prime : Cal P w K mg base 2 "is_prime" ["value"] (spIsPrime K)) (C_P_is_integer : Cal P w K mg base 1 "is_integer" ["value"] (spIsInt K)) : FnOk P w K mg base CX0 3 f fd ["value"] spCheckPlace := by
  refine F.ok sc_P_check_place (fun vs H Q E h => ?_) (fun cdv A outer s H vs Q E hr h => ?_)
  · obtain ⟨n, rfl, _⟩ := h; rfl
  · obtain ⟨n, rfl, h0, q⟩ := h
    refine ⟨_, PSs.nox (pss_one (ps_if (PW.pt (pw_and (pt_not (pt_val (pe_cal C_P_is_prime (hr.mono (by decide)) (pa_cons (pv 0) pa_nil)))) (pw_and1 (pt_not (PW.pt (pw_and (pt_val (pe_cal C_P_is_integer (hr.mono (by decide)) (pa_cons (pv 0) pa_nil))) (pw_and1 (pt_cmp (pc_eqI (pv 0) pe_int))))))))) (pss_one ps_never) pss_nil)), ?_⟩
    refine ⟨_, rfl, .int n, true, rfl, .int n, fun _ => ⟨n, rfl⟩, fun r hr => ⟨_, rfl, ?_⟩⟩
    cases r with
    | true => exact q
    | false =>
      have e0 : n = 0 := by
        rcases h0 with h0 | h0
        · exact h0
        · exact absurd (hr.mpr ⟨n, rfl, h0.1, h0.2⟩) Bool.false_ne_true
      subst e0
      refine ⟨_, rfl, .int 0, true, rfl, .int 0, _, rfl, ?_⟩
      exact ⟨_, rfl, _, _, rfl, rfl, _, rfl, q⟩
theorem ok_sign_at (F : FnD K "sign_at" "sign_at" s_P_sign_at f fd) (C_P_check_number : Cal P w K mg base 2 "check_number" ["value"] spCheckNumber) (C_P_check_place : Cal P w K mg base 3 "check_place" ["value"] spCheckPlace) (C_P_sign : Cal P w K mg base 4 "sign" ["a", "b", "place"] spSign) :
    FnOk P w K mg base CX0 5 f fd ["a", "b", "place"] spSign := by
  refine F.ok sc_P_sign_at (fun vs H Q E h => ?_) (fun cdv A outer s H vs Q E hr h => ?_)
  · obtain ⟨a, b, p, rfl, _⟩ := h.ex; rfl
  · obtain ⟨a, b, p, rfl, a0, b0, a1, b1, hp, q⟩ := h.ex
    refine ⟨_, PSs.nox (pss_cons (ps_expr (pe_cal C_P_check_number (hr.mono (by decide)) (pa_cons (pv 0) pa_nil)))
      (pss_cons (ps_expr (pe_cal C_P_check_number (hr.mono (by decide)) (pa_cons (pv 1) pa_nil)))
      (pss_cons (ps_expr (pe_cal C_P_check_place (hr.mono (by decide)) (pa_cons (pv 2) pa_nil)))
      (pss_one (ps_ret (pe_cal C_P_sign (hr.mono (by decide)) (pa_cons (pv 0) (pa_cons (pv 1) (pa_cons (pv 2) pa_nil))))))))), ?_⟩
    exact ⟨_, rfl, a, rfl, a0, by omega, by omega, _, rfl, b, rfl, b0, by omega, by omega, _, rfl, p, rfl, hp, _, rfl, _, rfl, _, rfl, ⟨a, b, p, rfl, a0, b0, a1, b1, hp, q⟩⟩
end
end Sf

namespace Sf
open PySem PySem.Spec PyProof.Rows L2
section
variable {P : Program} {w : World} {K : PySem.W.Frag} {mg : Str → Option Value} {base : Heap} {f : Addr} {fd : FuncData}
structure PartedP (vs : List V) (H : Hp) (Q : VK) : Prop where
  ex : ∃ n p : Int, vs = [.int n, .int p] ∧ n ≠ 0 ∧ n.natAbs ≤ 1000000000 ∧ 2 ≤ p ∧ p ≤ 1000000000 ∧ ∀ (m : Nat) (u : Int) (a : Addr), Strip n p m u → H a = none → Q (.ref a) (upd H a (.tup [.int m, .int u]))
def spParted : Sp := fun vs H Q _ => PartedP vs H Q
theorem pow_big {n p : Int} {m : Nat} {u : Int} (hp : 2 ≤ p) (hu : u ≠ 0) (e : n = p ^ m * u) : m ≤ n.natAbs := by
  have h1 := nat_lt_pow hp m
  have hpm : 0 < p ^ m := pow_pos_int (by omega) m
  have e2 : n.natAbs = (p ^ m).natAbs * u.natAbs := by rw [e]; exact Int.natAbs_mul _ _
  have g4 : (p ^ m).natAbs * 1 ≤ (p ^ m).natAbs * u.natAbs := Nat.mul_le_mul_left _ (by omega)
  omega
theorem two_pow_le {n p : Int} {m : Nat} {u : Int} (hp : 2 ≤ p) (hu : u ≠ 0) (e : n = p ^ m * u) : 2 ^ m ≤ n.natAbs := by
  have hm : 2 ^ m ≤ p.natAbs ^ m := Nat.pow_le_pow_left (by omega) m
  have e3 : (p ^ m).natAbs = p.natAbs ^ m := Int.natAbs_pow p m
  have e2 : n.natAbs = (p ^ m).natAbs * u.natAbs := by rw [e]; exact Int.natAbs_mul _ _
  have g4 : (p ^ m).natAbs * 1 ≤ (p ^ m).natAbs * u.natAbs := Nat.mul_le_mul_left _ (by omega)
  have h0 : 0 < 2 ^ m := Nat.pow_pos (by decide)
  omega
theorem ok_parted (F : FnD K "_law_parted" "_law_parted" s_L_parted f fd) (T : Glob mg) : FnOk P w K mg base CX0 1 f fd ["_law_number", "_law_prime"] spParted := by
  refine F.ok sc_L_parted (fun vs H Q E h => ?_) (fun cdv A outer s H vs Q E hr h => ?_)
  · obtain ⟨n, p, rfl, _⟩ := h.ex; rfl
  · obtain ⟨n, p, rfl, n0, n1, p0, p1, q⟩ := h.ex
    have tb : p.natAbs < 2 ^ 3000 := lt3000s (by omega) (by omega)
    refine ⟨_, PSs.nox (pss_cons (ps_par (i := 2) (j := 3) (by rfl) sc_L_parted.nd rfl rfl (by decide) rfl rfl (pa_cons pe_int (pa_cons (pe_callTy call_int1 (by rfl) T.m_int (by decide +kernel) (pa_cons (pv 0) pa_nil)) pa_nil)) (by rfl))
      (pss_cons (ps_for PassesOwn.never rfl (pi_range1 (by rfl) T.m_range (pa_cons pe_int pa_nil)) (pg_name (i := 4) sc_L_parted.nd rfl (Or.inl rfl)) (pss_cons (ps_if (pt_cmp (pc_neI (pe_op op_mod (pv 3) (pv 1)) pe_int)) (pss_one ps_break) pss_nil)
      (pss_one (ps_par (i := 2) (j := 3) (by rfl) sc_L_parted.nd rfl rfl (by decide) rfl rfl (pa_cons (pe_op op_add (pv 2) pe_int) (pa_cons (pe_op op_fdivW (pv 3) (pv 1)) pa_nil)) (by rfl)))))
      (pss_one (ps_ret (pe_tup (pa_cons (pv 2) (pa_cons (pv 3) pa_nil))))))), ?_⟩
    refine ⟨_, rfl, .inl ⟨_, rfl, ?_⟩⟩
    refine ⟨_, _, rfl, 200, rfl, by decide, by decide, for_range (lo := 0) (n := 200) (fun i σ H' => H' = H ∧ ∃ (u : Int) (v : Option V), σ = [some (.int n), some (.int p), some (.int (i : Nat)), some (.int u), v] ∧ n = p ^ i * u ∧ u ≠ 0) ⟨rfl, n, none, rfl, by simp, n0⟩ ?_ ?_⟩
    · rintro i σ _ hi ⟨rfl, u, v, rfl, e, u0⟩
      refine ⟨_, rfl, _, rfl, _, _, rfl, rfl, (by omega), _, _, rfl, rfl, _, rfl, ifn (fun h => ?_) (fun h => ?_)⟩
      · refine ⟨_, rfl, _, rfl, (by show 2 ≤ sizeLine; decide), fun a ha => ?_⟩
        exact q i u a ⟨e, h⟩ ha
      · have hl := strip_less u0 p0 h
        refine ⟨_, rfl, _, _, rfl, rfl, _, rfl, _, rfl, _, _, rfl, rfl, CDivW.of (by omega) tb, ?_⟩
        refine ⟨_, _, rfl, rfl, u / p, _, rfl, ?_, hl.2.1⟩
        rw [e, Int.pow_succ, Int.mul_assoc, ← hl.2.2]
    · rintro σ _ ⟨rfl, u, v, rfl, e, u0⟩
      exfalso
      have h1 := two_pow_le p0 u0 e
      have h2 : 1000000000 < 2 ^ 200 := by decide +kernel
      omega
structure OwnP (vs : List V) (H : Hp) (Q : VK) : Prop where
  ex : ∃ a b p : Int, vs = [.int a, .int b, .int p] ∧ a ≠ 0 ∧ b ≠ 0 ∧ a.natAbs ≤ 1000000000 ∧ b.natAbs ≤ 1000000000 ∧ (p = 0 ∨ p = 2 ∨ ∃ q : Nat, p = q ∧ 3 ≤ q ∧ q ≤ 1000 ∧ euler q = true) ∧ ∀ (r : Int) (H' : Hp), HSign a b p r → Same H H' → Q (.int r) H'
def spOwn : Sp := fun vs H Q _ => OwnP vs H Q
theorem ok_own_sign (F : FnD K "_law_own_sign" "_law_own_sign" s_L_own_sign f fd) (C_L_parted : Cal P w K mg base 1 "_law_parted" ["_law_number", "_law_prime"] spParted) (C_L_sign : Cal P w K mg base 1 "_law_sign" ["_law_number", "_law_prime"] spLSign) : FnOk P w K mg base CX0 2 f fd ["_law_a", "_law_b", "_law_place"] spOwn := by
  refine F.ok sc_L_own_sign (fun vs H Q E h => ?_) (fun cdv A outer s H vs Q E hr h => ?_)
  · obtain ⟨a, b, p, rfl, _⟩ := h.ex; rfl
  · obtain ⟨a, b, p, rfl, a0, b0, a1, b1, hp, q⟩ := h.ex
    refine ⟨_, PSs.nox (pss_cons (ps_if (pt_cmp (pc_eqI (pv 2) pe_int)) (pss_one (ps_ret (pe_ifExp (PW.pt (pw_and (pt_cmp (pc_lt (pv 0) pe_int)) (pw_and1 (pt_cmp (pc_lt (pv 1) pe_int))))) (pe_un un_neg pe_int) pe_int))) pss_nil)
      (pss_cons (ps_asg (pe_cal C_L_parted (hr.mono (by decide)) (pa_cons (pv 0) (pa_cons (pv 2) pa_nil))) (pg_tup (by rfl) (pgs_cons (pg_name (i := 3) sc_L_own_sign.nd rfl (Or.inl rfl)) (pgs_cons (pg_name (i := 4) sc_L_own_sign.nd rfl (Or.inl rfl)) pgs_nil))))
      (pss_cons (ps_asg (pe_cal C_L_parted (hr.mono (by decide)) (pa_cons (pv 1) (pa_cons (pv 2) pa_nil))) (pg_tup (by rfl) (pgs_cons (pg_name (i := 5) sc_L_own_sign.nd rfl (Or.inl rfl)) (pgs_cons (pg_name (i := 6) sc_L_own_sign.nd rfl (Or.inl rfl)) pgs_nil))))
      (pss_cons (ps_if (pt_cmp (pc_eqI (pv 2) pe_int)) (pss_cons (ps_set (i := 7) sc_L_own_sign.nd rfl (Or.inl rfl) (pe_op op_add (pe_op op_add (pe_op op_mulW (pe_op op_fdivW (pe_op op_sub (pv 4) pe_int) pe_int) (pe_op op_fdivW (pe_op op_sub (pv 6) pe_int) pe_int)) (pe_op op_mulW (pv 3) (pe_op op_fdivW (pe_op op_sub (pe_op op_mulW (pv 6) (pv 6)) pe_int) pe_int))) (pe_op op_mulW (pv 5) (pe_op op_fdivW (pe_op op_sub (pe_op op_mulW (pv 4) (pv 4)) pe_int) pe_int))))
      (pss_one (ps_ret (pe_ifExp (pt_cmp (pc_eqI (pe_op op_mod (pv 7) pe_int) pe_int)) pe_int (pe_un un_neg pe_int))))) pss_nil)
      (Evl.pss_cut (ps_set (i := 8) sc_L_own_sign.nd rfl (Or.inl rfl) (pe_ifExp (pt_cmp (pc_eqI (pe_op op_mod (pe_op op_mulW (pv 3) (pv 5)) pe_int) pe_int)) (pe_cal C_L_sign (hr.mono (by decide)) (pa_cons (pe_un un_neg pe_int) (pa_cons (pv 2) pa_nil))) pe_int))
      (Evl.pss_cut (ps_set (i := 8) sc_L_own_sign.nd rfl (Or.inl rfl) (pe_op op_mulW (pv 8) (pe_ifExp (pt_cmp (pc_eqI (pe_op op_mod (pv 5) pe_int) pe_int)) (pe_cal C_L_sign (hr.mono (by decide)) (pa_cons (pv 4) (pa_cons (pv 2) pa_nil))) pe_int)))
      (pss_one (ps_ret (pe_op op_mulW (pv 8) (pe_ifExp (pt_cmp (pc_eqI (pe_op op_mod (pv 3) pe_int) pe_int)) (pe_cal C_L_sign (hr.mono (by decide)) (pa_cons (pv 6) (pa_cons (pv 2) pa_nil))) pe_int)))))))))), ?_⟩
    refine ⟨_, rfl, _, _, rfl, rfl, _, rfl, ifd (fun h => ?_) (fun h => ?_)⟩
    · have z := fun r e => q r H (.inl ⟨h, e⟩) (Same.refl H)
      refine ⟨_, rfl, _, _, rfl, rfl, _, rfl, ifd (fun h1 => ⟨_, rfl, _, _, rfl, rfl, _, rfl, ifd (fun h2 => ?_) (fun h2 => ?_)⟩) (fun h1 => ?_)⟩
      · exact ⟨_, rfl, z _ (by rw [if_pos ⟨h1, h2⟩])⟩
      · exact z _ (by rw [if_neg (fun c => h2 c.2)])
      · exact z _ (by rw [if_neg (fun c => h1 c.1)])
    have hp := hp.resolve_left h
    have p2 : 2 ≤ p := by rcases hp with e | ⟨q, e, h1, h2, _⟩ <;> omega
    have p9 : p ≤ 1000 := by rcases hp with e | ⟨q, e, h1, h2, _⟩ <;> omega
    refine ⟨_, rfl, _, rfl, ⟨a, p, rfl, a0, a1, p2, by omega, fun s u x1 st1 hx1 => ⟨x1, _, rfl, .inl (.inl upd_same), rfl, _, _, rfl, _, _, rfl, rfl, ?_⟩⟩⟩
    refine ⟨_, rfl, _, rfl, ⟨b, p, rfl, b0, b1, p2, by omega, fun t v x2 st2 hx2 => ⟨x2, _, rfl, .inl (.inl upd_same), rfl, _, _, rfl, _, _, rfl, rfl, ?_⟩⟩⟩
    have l1 := strip_le p2 st1
    have l2 := strip_le p2 st2
    have ub : u.natAbs < 2 ^ 3000 := lt3000s (by omega) (by omega)
    have vb : v.natAbs < 2 ^ 3000 := lt3000s (by omega) (by omega)
    have k0 : Same H (upd (upd H x1 (.tup [.int s, .int u])) x2 (.tup [.int t, .int v])) := (same_upd hx1).trans (same_upd hx2)
    have z := fun H' k => q _ H' (.inr ⟨h, s, t, u, v, st1, st2, rfl⟩) k
    unfold sgnAt at z
    refine ⟨_, rfl, _, _, rfl, rfl, _, rfl, ifd (fun h2 => ?_) (fun h2 => ?_)⟩
    · rw [if_pos h2] at z
      have uu : (u * u).natAbs ≤ 1000000000000000000 := by
        have := small_mul (a := u) (b := u) (A := 1000000000) (B := 1000000000) (by omega) (by omega)
        exact this
      have vv : (v * v).natAbs ≤ 1000000000000000000 := by
        have := small_mul (a := v) (b := v) (A := 1000000000) (B := 1000000000) (by omega) (by omega)
        exact this
      refine ⟨_, rfl, _, _, rfl, rfl, _, _, rfl, rfl, CDivW.of (by decide) (by decide +kernel), _, rfl, _, _, rfl, rfl, _, _, rfl, rfl, CDivW.of (by decide) (by decide +kernel), _, _, rfl, rfl, CMulW.of (lt3000s (by omega) (by omega)) (lt3000s (by omega) (by omega)), _, rfl, _, rfl, _, rfl, _, _, rfl, rfl, CMulW.of vb vb, _, _, rfl, rfl, _, _, rfl, rfl, CDivW.of (by decide) (by decide +kernel), _, _, rfl, rfl, CMulW.of (lt3000s (by omega) (by omega)) (lt3000s (by omega) (by omega)), _, _, rfl, rfl, _, rfl, _, rfl, _, rfl, _, _, rfl, rfl, CMulW.of ub ub, _, _, rfl, rfl, _, _, rfl, rfl, CDivW.of (by decide) (by decide +kernel), _, _, rfl, rfl, CMulW.of (lt3000s (by omega) (by omega)) (lt3000s (by omega) (by omega)), _, _, rfl, rfl, ?_⟩
      have z1 := z _ k0
      refine ⟨_, rfl, _, _, rfl, rfl, (by show (0 : Int) < 2; decide), _, _, rfl, rfl, _, rfl, ifd (fun h3 => ?_) (fun h3 => ?_)⟩
      · rw [if_neg (by omega)] at z1
        exact z1
      · rw [if_pos (by omega)] at z1
        exact ⟨_, rfl, z1⟩
    · rw [if_neg h2] at z
      obtain ⟨r, rfl, r1, r2, he⟩ := hp.resolve_left h2
      rw [sign_eq r1 he, sign_eq r1 he, sign_eq r1 he] at z
      have est : ((s : Int) * (t : Int)) = ((s * t : Nat) : Int) := (Int.natCast_mul s t).symm
      have hst : ((s : Int) * (t : Int)) % 2 = 1 ↔ s * t % 2 = 1 := by rw [est]; omega
      have sm : ∀ n : Int, -1 ≤ lawSign n r ∧ lawSign n r ≤ 1 := fun n => by rw [← sign_eq r1 he]; exact rest_small n r
      have r1' := sm (-1)
      have r2' := sm u
      have r3' := sm v
      refine ⟨fun σ' H' => σ' = [some (.int a), some (.int b), some (.int (r : Int)), some (.int s), some (.int u), some (.int t), some (.int v), none, some (.int (if s * t % 2 = 1 then lawSign (-1) r else 1))] ∧ Same H H', ?_, ?_⟩
      · refine ⟨_, rfl, _, rfl, _, _, rfl, rfl, CMulW.of (lt3000s (by omega) (by omega)) (lt3000s (by omega) (by omega)), _, _, rfl, rfl, (by show (0 : Int) < 2; decide), _, _, rfl, rfl, _, rfl, ifd (fun h => ?_) (fun h => ?_)⟩
        · have h' := hst.mp h
          rw [if_pos h']
          exact ⟨1, rfl, _, rfl, -1, r, rfl, p2, by omega, fun H' k => ⟨rfl, k0.trans k⟩⟩
        · have h' := fun z => h (hst.mpr z)
          rw [if_neg h']
          exact ⟨rfl, k0⟩
      rintro σ' H1 ⟨rfl, k1⟩
      have b1 : -1 ≤ (if s * t % 2 = 1 then lawSign (-1) r else 1) ∧ (if s * t % 2 = 1 then lawSign (-1) r else 1) ≤ 1 := by split <;> omega
      have b2 : -1 ≤ (if t % 2 = 1 then lawSign u r else 1) ∧ (if t % 2 = 1 then lawSign u r else 1) ≤ 1 := by split <;> omega
      generalize (if s * t % 2 = 1 then lawSign (-1) r else 1) = x at z b1
      refine ⟨fun σ' H' => σ' = [some (.int a), some (.int b), some (.int (r : Int)), some (.int s), some (.int u), some (.int t), some (.int v), none, some (.int (x * (if t % 2 = 1 then lawSign u r else 1)))] ∧ Same H H', ?_, ?_⟩
      · refine ⟨_, rfl, _, rfl, _, _, rfl, rfl, (by show (0 : Int) < 2; decide), _, _, rfl, rfl, _, rfl, ifd (fun h => ?_) (fun h => ?_)⟩
        · have h' : t % 2 = 1 := by omega
          rw [if_pos h']
          exact ⟨_, rfl, _, rfl, u, r, rfl, p2, by omega, fun H' k => ⟨_, _, rfl, rfl, CMulW.of (lt3000s (by omega) (by omega)) (lt3000s (by omega) (by omega)), rfl, k1.trans k⟩⟩
        · have h' : ¬ t % 2 = 1 := by omega
          rw [if_neg h']
          exact ⟨_, _, rfl, rfl, CMulW.of (lt3000s (by omega) (by omega)) (lt3000s (by decide) (by decide)), rfl, k1⟩
      rintro σ' H2 ⟨rfl, k2⟩
      generalize (if t % 2 = 1 then lawSign u r else 1) = y at z b2
      have b3 : (x * y).natAbs ≤ 1 := small_mul (A := 1) (B := 1) (by omega) (by omega)
      refine ⟨_, rfl, _, rfl, _, _, rfl, rfl, (by show (0 : Int) < 2; decide), _, _, rfl, rfl, _, rfl, ifd (fun h => ?_) (fun h => ?_)⟩
      · have h' : s % 2 = 1 := by omega
        rw [if_pos h'] at z
        exact ⟨_, rfl, _, rfl, v, r, rfl, p2, by omega, fun H' k => ⟨_, _, rfl, rfl, CMulW.of (lt3000s (by omega) (by omega)) (lt3000s (by omega) (by omega)), z _ (k2.trans k)⟩⟩
      · have h' : ¬ s % 2 = 1 := by omega
        rw [if_neg h'] at z
        exact ⟨_, _, rfl, rfl, CMulW.of (lt3000s (by omega) (by omega)) (lt3000s (by decide) (by decide)), z _ k2⟩
end
end Sf

namespace Sf
open PySem PySem.Spec PyProof.Rows L2
theorem strip_exists {n p : Int} (hn : n ≠ 0) (hp : 2 ≤ p) : ∃ (m : Nat) (u : Int), Strip n p m u := by
  generalize hN : n.natAbs = N
  induction N using Nat.strongRecOn generalizing n with
  | ind N ih =>
    by_cases h : n % p = 0
    · obtain ⟨l1, l2, l3⟩ := strip_less hn hp h
      obtain ⟨m, u, e, hu⟩ := ih _ (by omega) l2 rfl
      refine ⟨m + 1, u, ?_, hu⟩
      rw [Int.pow_succ, Int.mul_comm (p ^ m) p, Int.mul_assoc, ← e]
      exact l3
    · exact ⟨0, n, by rw [Int.pow_zero, Int.one_mul], h⟩
theorem odd_sq8 {w : Int} (h : w % 2 ≠ 0) : w * w % 8 = 1 := by
  have h1 : w % 8 = 1 ∨ w % 8 = 3 ∨ w % 8 = 5 ∨ w % 8 = 7 := by omega
  rw [Int.mul_emod]
  rcases h1 with e | e | e | e <;> rw [e] <;> decide
/-- the same unit, up to what the sign sees -/
def Alike (p u v : Int) : Prop := if p = 2 then u % 8 = v % 8 else restSign u p = restSign v p
theorem half_par {u v : Int} (h : u % 8 = v % 8) : ((u - 1) / 2) % 2 = ((v - 1) / 2) % 2 := by omega
theorem w_par {u v : Int} (h : u % 8 = v % 8) : ((u * u - 1) / 8) % 2 = ((v * v - 1) / 8) % 2 := by
  have e : u = v + 8 * ((u - v) / 8) := by omega
  generalize (u - v) / 8 = k at e
  have e2 : u * u = v * v + 16 * (v * k + 4 * (k * k)) := by rw [e]; grind
  omega
theorem par_mul (a b c d : Int) (h1 : a % 2 = c % 2) (h2 : b % 2 = d % 2) : (a * b) % 2 = (c * d) % 2 := by
  rw [Int.mul_emod, h1, h2, ← Int.mul_emod]
theorem sgn_congr {p : Int} {s t s' t' : Nat} {u v u' v' : Int} (hs : s % 2 = s' % 2) (ht : t % 2 = t' % 2) (hu : Alike p u u') (hv : Alike p v v') : sgnAt p s t u v = sgnAt p s' t' u' v' := by
  unfold sgnAt
  unfold Alike at hu hv
  by_cases h : p = 2
  · rw [if_pos h] at hu hv ⊢
    rw [if_pos h]
    have h1 := par_mul _ _ _ _ (half_par hu) (half_par hv)
    have h2 := par_mul (s : Int) ((v * v - 1) / 8) (s' : Int) ((v' * v' - 1) / 8) (by omega) (w_par hv)
    have h3 := par_mul (t : Int) ((u * u - 1) / 8) (t' : Int) ((u' * u' - 1) / 8) (by omega) (w_par hu)
    have e : ((u - 1) / 2 * ((v - 1) / 2) + s * ((v * v - 1) / 8) + t * ((u * u - 1) / 8)) % 2 = ((u' - 1) / 2 * ((v' - 1) / 2) + s' * ((v' * v' - 1) / 8) + t' * ((u' * u' - 1) / 8)) % 2 := by omega
    rw [e]
  · rw [if_neg h] at hu hv ⊢
    rw [if_neg h, hu, hv, hs, ht, Nat.mul_mod s t, hs, ht, ← Nat.mul_mod]
theorem rest_unit {w p : Int} (h : w % p ≠ 0) : restSign w p * restSign w p = 1 := by
  unfold restSign
  rw [if_neg h]
  split
  · split <;> decide
  · split <;> decide
theorem alike_sq {p u w : Int} (hp : PrP p) (he : p = 2 ∨ ∃ q : Nat, p = q ∧ 3 ≤ q ∧ euler q = true) (hw : w % p ≠ 0) : Alike p (u * (w * w)) u := by
  unfold Alike
  by_cases h : p = 2
  · rw [if_pos h, Int.mul_emod, odd_sq8 (by rw [← h]; exact hw), Int.mul_one, Int.emod_emod_of_dvd _ (Int.dvd_refl _)]
  · rw [if_neg h]
    obtain ⟨q, rfl, h3, e⟩ := he.resolve_left h
    rw [sign_mul h3 e hp, sign_mul h3 e hp, rest_unit hw, Int.mul_one]
theorem strip_sq {p n m k u u' : Int} {s s' : Nat} (hp : PrP p) (hk : k ≠ 0) (e : n = m * (k * k)) (h : Strip n p s u) (h' : Strip m p s' u') : ∃ w : Int, w % p ≠ 0 ∧ u = u' * (w * w) ∧ s % 2 = s' % 2 := by
  obtain ⟨c, w, hw⟩ := strip_exists hk hp.1
  refine ⟨w, hw.2, ?_⟩
  have hs : Strip n p (s' + 2 * c) (u' * (w * w)) := by
    constructor
    · rw [e, h'.1, hw.1, Int.pow_add, Nat.two_mul, Int.pow_add]
      grind
    · intro z
      have d := Int.dvd_of_emod_eq_zero z
      rcases prime_mul hp d with d | d
      · exact h'.2 (Int.emod_eq_zero_of_dvd d)
      · rcases prime_mul hp d with d | d <;> exact hw.2 (Int.emod_eq_zero_of_dvd d)
  obtain ⟨e1, e2⟩ := strip_unique hp h hs
  exact ⟨e2, by omega⟩
theorem hsign_bare {a b a' b' p r : Int} (hp : PrP p) (he : p = 2 ∨ ∃ q : Nat, p = q ∧ 3 ≤ q ∧ euler q = true) (ha : ∃ k, k ≠ 0 ∧ a = a' * (k * k)) (hb : ∃ k, k ≠ 0 ∧ b = b' * (k * k)) (a0 : a' ≠ 0) (b0 : b' ≠ 0) (h : HSign a b p r) : HSign a' b' p r := by
  have p2 := hp.1
  rcases h with ⟨h0, _⟩ | ⟨h0, s, t, u, v, h1, h2, h3⟩
  · omega
  · obtain ⟨s', u', g1⟩ := strip_exists a0 p2
    obtain ⟨t', v', g2⟩ := strip_exists b0 p2
    obtain ⟨k, k0, e⟩ := ha
    obtain ⟨j, j0, f⟩ := hb
    obtain ⟨w, w0, w1, w2⟩ := strip_sq hp k0 e h1 g1
    obtain ⟨x, x0, x1, x2⟩ := strip_sq hp j0 f h2 g2
    refine .inr ⟨h0, s', t', u', v', g1, g2, ?_⟩
    rw [h3]
    exact sgn_congr w2 x2 (by rw [w1]; exact alike_sq hp he w0) (by rw [x1]; exact alike_sq hp he x0)
theorem rest_mod {n p : Int} (h : p ≠ 2) : restSign (n % p) p = restSign n p := by
  unfold restSign
  rw [Int.emod_emod_of_dvd _ (Int.dvd_refl p), if_neg h, if_neg h, pow_mod]
end Sf

namespace Sf
open PySem PySem.Spec PyProof.Rows L2
/-- the ascending places where the sign is -1 -/
def PlacesOf (a b : Int) (l : List Int) : Prop := l.Pairwise (· < ·) ∧ ∀ p : Int, p ∈ l ↔ (p = 0 ∨ PrP p) ∧ HSign a b p (-1)
theorem asc_unique : ∀ {l m : List Int}, l.Pairwise (· < ·) → m.Pairwise (· < ·) → (∀ x, x ∈ l ↔ x ∈ m) → l = m
  | [], [], _, _, _ => rfl
  | [], y :: m, _, _, h => absurd ((h y).mpr List.mem_cons_self) (by simp)
  | x :: l, [], _, _, h => absurd ((h x).mp List.mem_cons_self) (by simp)
  | x :: l, y :: m, h1, h2, h => by
    obtain ⟨a1, a2⟩ := List.pairwise_cons.mp h1
    obtain ⟨b1, b2⟩ := List.pairwise_cons.mp h2
    have e : x = y := by
      have c1 := (h x).mp List.mem_cons_self
      have c2 := (h y).mpr List.mem_cons_self
      rcases List.mem_cons.mp c1 with c1 | c1
      · exact c1
      · rcases List.mem_cons.mp c2 with c2 | c2
        · exact c2.symm
        · have := a1 y c2
          have := b1 x c1
          omega
    subst e
    rw [asc_unique a2 b2 fun z => ?_]
    constructor
    · intro hz
      rcases List.mem_cons.mp ((h z).mp (List.mem_cons_of_mem _ hz)) with e | e
      · have := a1 z hz
        omega
      · exact e
    · intro hz
      rcases List.mem_cons.mp ((h z).mpr (List.mem_cons_of_mem _ hz)) with e | e
      · have := b1 z hz
        omega
      · exact e
theorem places_unique {a b : Int} {l m : List Int} (h : PlacesOf a b l) (h' : PlacesOf a b m) : l = m := asc_unique h.1 h'.1 fun x => (h.2 x).trans (h'.2 x).symm
/-- at an odd prime that divides neither number the sign is 1 -/
theorem sign_far {a b p r : Int} (hp : PrP p) (h2 : p ≠ 2) (ha : a % p ≠ 0) (hb : b % p ≠ 0) (h : HSign a b p r) : r = 1 := by
  rcases h with ⟨h0, _⟩ | ⟨_, s, t, u, v, g1, g2, g3⟩
  · have := hp.1
    omega
  · have e1 := strip_unique hp g1 ⟨by rw [Int.pow_zero, Int.one_mul], ha⟩
    have e2 := strip_unique hp g2 ⟨by rw [Int.pow_zero, Int.one_mul], hb⟩
    rw [g3, e1.1, e2.1]
    unfold sgnAt
    rw [if_neg h2]
    rfl
theorem hsign_some {a b p : Int} (ha : a ≠ 0) (hb : b ≠ 0) (hp : p = 0 ∨ PrP p) : ∃ r, HSign a b p r := by
  rcases hp with e | hp
  · exact ⟨_, .inl ⟨e, rfl⟩⟩
  · obtain ⟨s, u, h1⟩ := strip_exists ha hp.1
    obtain ⟨t, v, h2⟩ := strip_exists hb hp.1
    have := hp.1
    exact ⟨_, .inr ⟨by omega, s, t, u, v, h1, h2, rfl⟩⟩
theorem abs_mod {n p : Int} (h : absI n % p = 0) : n % p = 0 := by
  unfold absI at h
  split at h
  · have d := Int.dvd_of_emod_eq_zero h
    exact Int.emod_eq_zero_of_dvd ((Int.dvd_neg).mp d)
  · exact h
theorem mod_abs {n p : Int} (h : n % p = 0) : absI n % p = 0 := by
  unfold absI
  split
  · exact Int.emod_eq_zero_of_dvd ((Int.dvd_neg).mpr (Int.dvd_of_emod_eq_zero h))
  · exact h
/-- a prime divides a number exactly if it is one of its factors -/
theorem fact_keys {n p : Int} {l : List (Int × Nat)} (h : FactOf n l) (hp : PrP p) : p ∈ l.map (·.1) ↔ n % p = 0 := by
  constructor
  · intro hm
    obtain ⟨q, hq, e⟩ := List.mem_map.mp hm
    subst e
    obtain ⟨i, hi, e⟩ := List.mem_iff_getElem.mp hq
    obtain ⟨k, hk⟩ : ∃ k, q.2 = k + 1 := ⟨q.2 - 1, by have := (h.2.2 q hq).2; omega⟩
    have : ∀ (l : List (Int × Nat)), q ∈ l → q.1 ∣ prodF l := fun l hl => by
      induction l with
      | nil => cases hl
      | cons x l ih =>
        show q.1 ∣ x.1 ^ x.2 * prodF l
        rcases List.mem_cons.mp hl with e | e
        · subst e
          rw [hk, Int.pow_succ, Int.mul_assoc]
          exact Int.dvd_trans (Int.dvd_mul_right _ _) (Int.dvd_mul_left _ _)
        · exact Int.dvd_trans (ih e) (Int.dvd_mul_left _ _)
    have d := this l hq
    rw [h.1] at d
    exact Int.emod_eq_zero_of_dvd d
  · intro hm
    have d := Int.dvd_of_emod_eq_zero hm
    rw [← h.1] at d
    obtain ⟨e, he⟩ := prime_prodF hp h.2.2 d
    exact List.mem_map.mpr ⟨_, he, rfl⟩
/-- the places out of 0 and the divisors -/
theorem places_of {a b : Int} {la lb : List (Int × Nat)} {D : List Int} (ha : a ≠ 0) (hb : b ≠ 0) (fa : FactOf (absI a) la) (fb : FactOf (absI b) lb) (hD : D.Pairwise (· < ·)) (hm : ∀ k, k ∈ D ↔ k ∈ 2 :: (la.map (·.1) ++ lb.map (·.1)))
    : (∀ k ∈ 0 :: D, k = 0 ∨ PrP k) ∧ ∀ {l : List Int} (hl : l.Sublist (0 :: D)) (hs : ∀ k, k ∈ l ↔ k ∈ 0 :: D ∧ HSign a b k (-1)), PlacesOf a b l := by
  have hP : ∀ k ∈ 0 :: D, k = 0 ∨ PrP k := fun k hk => by
    rcases List.mem_cons.mp hk with e | e
    · exact .inl e
    · rcases List.mem_cons.mp ((hm k).mp e) with e | e
      · exact .inr (e ▸ prp_of_trial (d := 2) (by decide) (by decide) (fun k a b => by omega) (by decide))
      · rcases List.mem_append.mp e with e | e
        · obtain ⟨q, hq, e⟩ := List.mem_map.mp e
          exact .inr (e ▸ (fa.2.2 q hq).1)
        · obtain ⟨q, hq, e⟩ := List.mem_map.mp e
          exact .inr (e ▸ (fb.2.2 q hq).1)
  refine ⟨hP, fun {l} hl hs => ⟨?_, fun p => ?_⟩⟩
  · refine List.Pairwise.sublist hl (List.pairwise_cons.mpr ⟨fun k hk => ?_, hD⟩)
    rcases List.mem_cons.mp ((hm k).mp hk) with e | e
    · omega
    · rcases hP k (List.mem_cons_of_mem _ hk) with e2 | e2
      · rcases List.mem_append.mp e with e | e
        · obtain ⟨q, hq, e⟩ := List.mem_map.mp e
          have := (fa.2.2 q hq).1.1
          omega
        · obtain ⟨q, hq, e⟩ := List.mem_map.mp e
          have := (fb.2.2 q hq).1.1
          omega
      · have := e2.1
        omega
  · rw [hs]
    constructor
    · rintro ⟨h1, h2⟩
      exact ⟨hP p h1, h2⟩
    · rintro ⟨h1, h2⟩
      refine ⟨?_, h2⟩
      rcases h1 with e | hp
      · rw [e]
        exact List.mem_cons_self
      · by_cases c : p ∈ D
        · exact List.mem_cons_of_mem _ c
        · exfalso
          rw [hm, List.mem_cons, List.mem_append, fact_keys fa hp, fact_keys fb hp] at c
          have n2 : p ≠ 2 := fun z => c (.inl z)
          have := sign_far hp n2 (fun z => c (.inr (.inl (mod_abs z)))) (fun z => c (.inr (.inr (mod_abs z)))) h2
          exact absurd this (by decide)
end Sf

namespace Sf
open PySem PySem.Spec PyProof.Rows L2
section
variable {P : Program} {w : World} {A : Around} {E : Value → Shared → Prop} {s : Shared}
/-- a set that is just made -/
abbrev nso (w : World) : Obj := { cls := .type "set", dict := none, data := .set #[] 0 (.fresh 0 0 (!w.params.followText "set-order")) }
abbrev nsh (w : World) (s : Shared) : Heap := s.heap.push (nso w)
/-- the first half: the set's loop over a list of ints -/
theorem set_loop {l : Addr} {its : Array Value} (ns : List Int) (hh : A.handled = none) (hl : s.heap.IsList l its) (hi : IntsAre its.toList ns) (hb : ns.length + 1 < scanBound)
    {R : Result → Shared → Prop} (hR : ∀ (h' : Heap) (tk c : Nat), SetR w h' s.heap.objs.size (fun j => decide (j ∈ ns)) c → c ≤ ns.length → (∀ b o, s.heap.get? b = some o → h'.get? b = some o) → R (.ok (.ret .none)) { s with heap := h', toks := tk }) :
    codeAny (model P w) A (.builtin "set.update.loop" ⟨[.ref s.heap.objs.size, .ref (nsh w s).objs.size], []⟩) R { s with heap := (nsh w s).push { cls := .type "list_iterator", data := .fields #[.ref l, .int 0 0] } } := by
  have sz : its.size = ns.length := (Array.length_toList (xs := its)).symm.trans (IntsAre.length hi)
  obtain ⟨ol, ho, r⟩ := hl
  have lt : l < s.heap.objs.size := Heap.lt_size ho
  have e1 : (nsh w s).objs.size = s.heap.objs.size + 1 := Heap.size_push ..
  have n1 : l ≠ (nsh w s).objs.size := by rw [e1]; exact Nat.ne_of_lt (Nat.lt_succ_of_lt lt)
  have n2 : ¬ s.heap.objs.size ∈ [(nsh w s).objs.size, l] := by
    rw [e1]
    intro z
    rcases List.mem_cons.mp z with z | z
    · exact absurd z (Nat.ne_of_lt (Nat.lt_succ_self _))
    · exact absurd (List.mem_singleton.mp z) (Nat.ne_of_gt lt)
  have isl : (nsh w s).IsList l its := ⟨ol, Heap.get?_push_of_some _ ho, r⟩
  have hA : A.in1.handled = none := by simp [hh]
  refine set_update_ints ((Walks.list hA _ l n1 its).toS) s.heap.objs.size n2 ns sz hb (fun i v hv => ?_) (its.size - 0) 0 _ rfl (Nat.zero_le _) ⟨⟨_, Heap.get?_push_size _ rfl, rfl, rfl⟩, isl.push _⟩ ?_ fun t c hm hc hS => ?_
  · have hlt : i < ns.length := sz ▸ (Array.getElem?_eq_some_iff.mp hv).1
    obtain ⟨t, e⟩ := IntsAre.int_at hi i v (by rw [Array.getElem?_toList]; exact hv)
    exact ⟨ns[i], t, List.getElem?_eq_getElem hlt, by rw [e, List.getD_eq_getElem?_getD, List.getElem?_eq_getElem hlt] <;> rfl⟩
  · refine ⟨0, Nat.le_refl 0, setR_new_at ?_⟩
    exact Heap.get?_push_of_some _ (Heap.get?_push_size _ rfl)
  · obtain ⟨h', g', d', t', o'⟩ := t
    cases (show g' = s.gens from hm.gens)
    cases (show d' = s.drawn from hm.drawn)
    cases (show o' = s.os from hm.os)
    refine hR h' t' c hS (sz ▸ hc) fun b o e => ?_
    have hb0 : b < s.heap.objs.size := Heap.lt_size e
    refine hm.heap b o (fun z => ?_) (Heap.get?_push_of_some _ (Heap.get?_push_of_some _ e))
    rcases List.mem_cons.mp z with z | z
    · exact absurd z (Nat.ne_of_lt hb0)
    · exact absurd ((List.mem_singleton.mp z).trans e1) (Nat.ne_of_lt (Nat.lt_succ_of_lt hb0))
set_option maxHeartbeats 8000000 in
theorem set_init {l : Addr} {its : Array Value} (ns : List Int) (hh : A.handled = none) (hl : s.heap.IsList l its) (hi : IntsAre its.toList ns) (hb : ns.length + 1 < scanBound) :
    codeAny (model P w) A (.call (.builtin "set.__init__") ⟨[.ref s.heap.objs.size, .ref l], []⟩) (wants (fun r t => r = .none ∧ ∃ h' tk c, t = { s with heap := h', toks := tk } ∧ SetR w h' s.heap.objs.size (fun j => decide (j ∈ ns)) c ∧ c ≤ ns.length ∧
      (∀ b o, s.heap.get? b = some o → h'.get? b = some o)) E) { s with heap := nsh w s } := by
  have hS : (nsh w s).get? s.heap.objs.size = some (nso w) := Heap.get?_push_size _ rfl
  have hT : Shared.TypeIs { s with heap := nsh w s } (.ref s.heap.objs.size) "set" := ⟨_, hS, rfl⟩
  refine codeAny_call_builtin F.called_set.init.plain F.entry_set_init (check_set_init_1 hT ?_)
  obtain ⟨⟨oc, odct, odat, osl⟩, ho, hc, n0, hd⟩ := hl
  cases hc
  cases hd
  have ho' : (nsh w s).get? l = some { cls := .type "list", dict := odct, data := .seq its n0, slots := osl } := Heap.get?_push_of_some _ ho
  have isl : (nsh w s).IsList l its := ⟨_, ho', rfl, n0, rfl⟩
  have g1 := F.sub_list_set
  have g2 := F.sub_list_frozenset
  have g3 : (Value.type "list" == Value.type "dict") = false := by decide
  unfold Builtin.«set.__init__» noKeywords Builtin.Frozenset.updateFrom
  generalize hPI : pyIter = it
  wp_walk
  subst hPI
  refine wpAny_pyIter_list isl ?_
  refine wpAny_bind (wpAny_runValue (set_loop (A := A.in1) ns (by simp [hh]) ⟨_, ho, rfl, n0, rfl⟩ hi hb fun h' tk c a b k => ?_))
  exact wpAny_pure (wpAny_pure ⟨rfl, h', tk, c, rfl, a, b, k⟩)
end
end Sf
namespace Sf
open PySem PySem.Spec PyProof.Rows L2
section
variable {P : Program} {w : World} {A : Around} {E : Value → Shared → Prop} {s : Shared}
set_option maxHeartbeats 8000000 in
theorem set_call {l : Addr} {its : Array Value} (ns : List Int) {Q : Value → Shared → Prop} (hh : A.handled = none) (hl : s.heap.IsList l its) (hi : IntsAre its.toList ns) (hb : ns.length + 1 < scanBound)
    (h : ∀ (h' : Heap) (tk c : Nat), SetR w h' s.heap.objs.size (fun j => decide (j ∈ ns)) c → c ≤ ns.length → (∀ b o, s.heap.get? b = some o → h'.get? b = some o) → Q (.ref s.heap.objs.size) { s with heap := h', toks := tk }) :
    wpAny (model P w) A (call (.type "set") [.ref l]) Q E s := by
  obtain ⟨c, tl, g0⟩ := F.called_set.mro
  have g1 := F.called_set.made
  have g2 := F.called_set.sub
  have g3 := F.called_set.notType
  have g4 := F.called_set.canCreate
  have g5 := F.typeCall_set_1 (.ref l)
  have g6 := F.called_set.init.lookup
  refine wpAny_call (codeAny_of_tree ?_)
  show wpAny _ _ (callAny (.type "set") _) _ _ _
  refine wpAny_pure ⟨Code.quiet_builtin _ (by decide +kernel), codeAny_builtin F.entry_type_call ?_⟩
  rw [Around.under_plain (weight_type_call_type "set" [.ref l] []) rfl]
  repeat (any_goals (first | assumption | wp_step))
  refine codeAny_mono (code_set_led1 (.ref l) (E := E) (Q₁ := fun ob t => ob = .ref s.heap.objs.size ∧ t = { s with heap := nsh w s }) ⟨rfl, rfl⟩) fun r t hr => ?_
  cases r with
  | error e => exact hr
  | ok fl =>
    cases fl with
    | ret ob =>
      obtain ⟨rfl, rfl⟩ := hr
      have hT : Shared.TypeIs { s with heap := nsh w s } (.ref s.heap.objs.size) "set" := ⟨_, Heap.get?_push_size _ rfl, rfl⟩
      have g7 := F.called_set.init.bind (.ref s.heap.objs.size)
      repeat (any_goals (first | assumption | wp_step))
      refine codeAny_mono (set_init (E := E) ns (by simp [hh]) hl hi hb) fun r t hr => ?_
      cases r with
      | error e => exact hr
      | ok fl =>
        cases fl with
        | ret v =>
          obtain ⟨rfl, h', tk, c', rfl, a1, a2, a3⟩ := hr
          repeat (any_goals (first | assumption | wp_step))
          exact h _ _ _ a1 a2 a3
        | _ => exact hr.elim
    | _ => exact hr.elim
end
section
variable {X : Cx} {e : Expr} {es : List Expr} {te : TE} {t : TA} {p : Pos}
/-- set(xs), xs a list of ints -/
def rSetL (K : PySem.W.Frag) (w : World) : List V → Hp → VK → Prop := fun xs H Q => ∃ (a : Addr) (ns : List Int), xs = [.ref a] ∧ SqL K H a (ns.map V.int) ∧ ns.length ≤ 1000 ∧ ∀ (q : Addr) (n : Nat), n ≤ ns.length → H q = none → Q (.ref q) (upd H q (SetO w q (fun j => decide (j ∈ ns)) n))
theorem cr_setL (hc : X.calm = true) : CallR X (.type "set") (rSetL X.K X.w) := by
  intro pins s σ H xs us Q I r h
  obtain ⟨a, ns, rfl, hs, hz, q⟩ := h
  obtain ⟨its, rv, pl, _⟩ := I.list hs
  rw [Vals.ref1 r]
  refine set_call ns (I.ok.hd hc) pl.isList (by simpa using rv.ints) (by unfold scanBound; omega) fun h' tk c R hcn k => ?_
  exact ⟨.ref _, upd H s.heap.objs.size (SetO X.w s.heap.objs.size (fun j => decide (j ∈ ns)) c), I.laid (t' := tk) k (Nat.le_refl _) (setO_new R), rfl, q _ c hcn (I.hok.fresh (Nat.le_refl _))⟩
/-- *d in a display, d a dict -/
theorem star_dict {pins : List (Addr × Obj)} {σ : L2.St} {H : Hp} {s : Shared} {a : Addr} {kvs : List (Key × V)} {E : Value → Shared → Prop} {Q : List Value → Shared → Prop} (hc : X.calm = true) (I : Inv X pins σ H s) (h : Rd H a (.dK kvs))
    (hQ : ∀ us s', Inv X pins σ H s' → Vals (kvs.map fun kv => kV kv.1) us → Q us s') : PySem.W.StarOf (model X.prog X.w) X.A E (.ref a) Q s := by
  obtain ⟨z, lo, vs, rel, dd⟩ := dk_rd I.hok h
  obtain ⟨ep, hat⟩ := dd.dictAt
  have ek : (kvs.map fun kv => kV kv.1) = vs.map fun p => kV p.1 := by
    have e := congrArg (List.map kV) rel.keys
    rw [List.map_map, List.map_map] at e
    exact e
  have z : wpAny (model X.prog X.w) X.A (collect (.ref a)) Q E s := by
    refine PySem.W.kdu_collect (A := X.A) (PySem.W.kdl_dict (knd := mixKind X.prog X.w) (kvs := vs) (ep := ep) lo) (I.ok.hd hc) hat (by rw [← rel.length]; exact z) fun h' tk acc hk hacc => ?_
    refine hQ _ _ (I.kept (t' := tk) hk) ?_
    rw [ek]
    exact keys_at (by rw [Array.length_toList]; exact hacc.1) fun j v e => hacc.2 j v (by rw [← Array.getElem?_toList]; exact e)
  unfold PySem.W.StarOf notIterableAtAll
  exact wpAny_bind (wpAny_specialOf dd.typeIs PySem.F.slot_dict_iter.lookup (wpAny_pure ⟨rfl, z⟩))
def tStarD (te : TE) (t : TA) : TA := fun σ H Q => te σ H fun x H1 => ∃ p kvs, x = V.ref p ∧ Rd H1 p (.dK kvs) ∧ t σ H1 fun ys H2 => Q ((kvs.map fun kv => kV kv.1) ++ ys) H2
theorem pa_starD (hc : X.calm = true) (he : PE X e te) (hr : PA X es t) (hs : starEach (.Starred e p :: es) X.env = (true, eval e X.env) :: starEach es X.env := by rfl) : PA X (.Starred e p :: es) (tStarD te t) :=
  ⟨fun pos pins s σ H Q I h => PySem.W.items_star (thn (he.run pins s σ H _ I h) fun v s1 ⟨y, H1, I1, ry, a, kvs, ey, hx, q⟩ => by
    subst ey
    cases (show v = Value.ref a from ry)
    exact star_dict hc I1 hx fun us s2 I2 rv => thn (hr.run pos pins s2 σ H1 _ I2 q) fun ws s3 ⟨vs, H3, I3, r3, q3⟩ => ⟨_, H3, I3, rv.append r3, q3⟩) hs⟩
end
end Sf

namespace Sf
open PySem PySem.Spec PyProof.Rows L2
section
variable {P : Program} {w : World} {K : PySem.W.Frag} {mg : Str → Option Value} {base : Heap} {f : Addr} {fd : FuncData}
theorem keys_ints (l : List (Int × Nat)) : ((kvsF l).map fun kv => kV kv.1) = (l.map (·.1)).map V.int := by
  unfold kvsF
  rw [List.map_map, List.map_map]
  rfl
structure PlacesP (vs : List V) (H : Hp) (Q : VK) : Prop where
  ex : ∃ a b : Int, vs = [.int a, .int b] ∧ a ≠ 0 ∧ b ≠ 0 ∧ a.natAbs ≤ 1000000000 ∧ b.natAbs ≤ 1000000000 ∧ ∀ (l : List Int) (p : Addr) (H' : Hp), PlacesOf a b l → l.length ≤ 62 → Same H H' → H p = none → H' p = some (.tup (l.map V.int)) → Q (.ref p) H'
def spPlaces : Sp := fun vs H Q _ => PlacesP vs H Q
theorem ok_signed_places (F : FnD K "signed_places" "signed_places" s_P_signed_places f fd) (T : Glob mg) (C_P_check_number : Cal P w K mg base 2 "check_number" ["value"] spCheckNumber) (C_P_factors : Cal P w K mg base 3 "factors" ["number"] spFactors) (C_P_sign : Cal P w K mg base 4 "sign" ["a", "b", "place"] spSign) :
    FnOk P w K mg base CX0 5 f fd ["a", "b"] spPlaces := by
  refine F.ok sc_P_signed_places (fun vs H Q E h => ?_) (fun cdv A outer s H vs Q E hr h => ?_)
  · obtain ⟨a, b, rfl, _⟩ := h.ex; rfl
  · obtain ⟨a, b, rfl, a0, b0, a1, b1, q⟩ := h.ex
    have hu := hu_of hr
    refine ⟨_, PSs.nox (pss_cons (ps_expr (pe_cal C_P_check_number (hr.mono (by decide)) (pa_cons (pv 0) pa_nil)))
      (pss_cons (ps_expr (pe_cal C_P_check_number (hr.mono (by decide)) (pa_cons (pv 1) pa_nil)))
      (pss_cons (ps_set (i := 2) sc_P_signed_places.nd rfl (Or.inl rfl) (pe_callB (cr_sortedSet rfl) (by rfl) T.m_sorted (by decide +kernel) (pa_cons (pe_callTy (cr_setL rfl) (by rfl) T.m_set (by decide +kernel) (pa_cons (pe_lst (pa_cons pe_int (pa_starD rfl (pe_cal C_P_factors (hr.mono (by decide)) (pa_cons (pv 0) pa_nil)) (pa_starD rfl (pe_cal C_P_factors (hr.mono (by decide)) (pa_cons (pv 1) pa_nil)) pa_nil)))) pa_nil)) pa_nil)))
      (pss_one (ps_ret (pe_callTy call_tuple_of (by rfl) T.m_tuple (by decide +kernel) (pa_cons (pe_lc rfl sc_P_signed_places.nd (own := [("place", 3)]) (pi_list (pe_lst (pa_cons pe_int (StX.pa_star (pv 2) pa_nil)))) (blkOk_by (N := ["a", "b", "divisors", "place"]) (sc := defScope s_P_signed_places) (by decide +kernel)) (fun _ _ _ _ _ => pg_name (i := 3) sc_P_signed_places.nd rfl (Or.inl rfl)) (fun _ _ _ _ _ => pts_one (pt_cmp (pc_eqI (pe_cal C_P_sign (hr.mono (by decide)) (pa_cons (pv 0) (pa_cons (pv 1) (pa_cons (pv 3) pa_nil)))) (pe_un un_neg pe_int)))) (fun _ _ _ _ _ => (pv 3))) pa_nil))))))), ?_⟩
    refine ⟨_, rfl, a, rfl, a0, by omega, by omega, _, rfl, b, rfl, b0, by omega, by omega, ?_⟩
    refine ⟨_, rfl, a, rfl, a0, by omega, by omega, fun la da H1 fa e1 na hda => ⟨da, kvsF la, rfl, .inl hda, ?_⟩⟩
    refine ⟨_, rfl, b, rfl, b0, by omega, by omega, fun lb db H2 fb e2 nb hdb => ⟨db, kvsF lb, rfl, .inl hdb, ?_⟩⟩
    have A2 : absI a ≤ 1000000000 := by unfold absI; split <;> omega
    have B2 : absI b ≤ 1000000000 := by unfold absI; split <;> omega
    have hla := fact_len fa A2
    have hlb := fact_len fb B2
    generalize hns : (2 : Int) :: (la.map (·.1) ++ lb.map (·.1)) = ns
    have hlen : ns.length ≤ 61 := by
      rw [← hns, List.length_cons, List.length_append, List.length_map, List.length_map]
      omega
    have hitems : V.int 2 :: ((kvsF la).map (fun kv => kV kv.1) ++ ((kvsF lb).map (fun kv => kV kv.1) ++ [])) = ns.map V.int := by
      rw [← hns, keys_ints, keys_ints, List.append_nil, List.map_cons, List.map_append]
    refine ⟨?_, fun x hx => ?_⟩
    · show (V.int 2 :: ((kvsF la).map (fun kv => kV kv.1) ++ ((kvsF lb).map (fun kv => kV kv.1) ++ []))).length ≤ sizeLine
      rw [hitems, List.length_map]
      exact Nat.le_trans hlen (by decide)
    refine ⟨x, ns, rfl, SqL.of ?_, by omega, fun y n hn hy => ?_⟩
    · rw [upd_same, ← hitems]
    refine ⟨y, _, n, rfl, upd_same, by omega, fun D z hD hm hDl hz => ?_⟩
    have hP0 := places_of (D := D) a0 b0 fa fb hD (fun k => (hm k).trans (by rw [← hns]; exact decide_eq_true_iff))
    have eH : Same H (upd (upd (upd H2 x (.lst (V.int 2 :: ((kvsF la).map (fun kv => kV kv.1) ++ ((kvsF lb).map (fun kv => kV kv.1) ++ []))))) y (SetO w y (fun j => decide (j ∈ ns)) n)) z (.lst (D.map V.int))) :=
      (((e1.trans e2).trans (same_upd hx)).trans (same_upd hy)).trans (same_upd hz)
    refine ⟨_, rfl, z, _, rfl, .inr (SqL.of upd_same), ?_, fun c hc => ?_⟩
    · refine Nat.le_trans (?_ : _ ≤ 70) (by decide)
      show (V.int 0 :: (D.map V.int ++ [])).length ≤ 70
      rw [List.append_nil, List.length_cons, List.length_map]
      omega
    have eL : V.int 0 :: (D.map V.int ++ []) = (0 :: D).map V.int := by rw [List.append_nil]; rfl
    rw [eL]
    have eH2 := eH.trans (same_upd (o := .lst ((0 :: D).map V.int)) hc)
    refine ⟨c, rfl, ⟨_, SqL.of upd_same⟩, fun d hd => ?_⟩
    have hdH : H d = none := eH2.free hd
    have ncd : c ≠ d := fun z => by
      rw [← z, upd_same] at hd
      cases hd
    refine lc_list (K := K) (a := c) (xs := (0 :: D).map V.int) (fun i H' => Same H H' ∧ SqL K H' c ((0 :: D).map V.int) ∧ ∃ m : List Int, H' d = some (.lst (m.map V.int)) ∧ m.Sublist ((0 :: D).take i) ∧ ∀ k, k ∈ m ↔ k ∈ (0 :: D).take i ∧ HSign a b k (-1)) ⟨eH2.trans (same_upd hd), sq_upd (SqL.of upd_same) ncd, [], upd_same, List.Sublist.refl _, fun k => ⟨fun z => (by cases z), fun z => absurd z.1 (by simp)⟩⟩ (fun i H' _ hp => hp.2.1) (fun i v H' hv hp => ?_) (fun H' hp => ?_)
    · obtain ⟨e5, hL, m, hmd, msub, hmm⟩ := hp
      obtain ⟨k, hk, rfl⟩ : ∃ k, (0 :: D)[i]? = some k ∧ v = V.int k := by
        rw [List.getElem?_map] at hv
        cases e : (0 :: D)[i]? with
        | none => rw [e] at hv; cases hv
        | some z => rw [e] at hv; exact ⟨z, rfl, (Option.some.inj hv).symm⟩
      have kP := hP0.1 k (List.mem_of_getElem? hk)
      have kB : k ≤ 1000000000 := by
        rcases List.mem_cons.mp (List.mem_of_getElem? hk) with e | e
        · omega
        · have e := (hm k).mp e
          rw [decide_eq_true_iff, ← hns] at e
          rcases List.mem_cons.mp e with e | e
          · omega
          · rcases List.mem_append.mp e with e | e
            · obtain ⟨r, hr, rfl⟩ := List.mem_map.mp e
              have := prodF_mem fa.2.2 r hr
              rw [fa.1] at this
              omega
            · obtain ⟨r, hr, rfl⟩ := List.mem_map.mp e
              have := prodF_mem fb.2.2 r hr
              rw [fb.1] at this
              omega
      have et : (0 :: D).take (i + 1) = (0 :: D).take i ++ [k] := by rw [List.take_add_one, hk]; rfl
      refine ⟨rfl, ⟨_, rfl, _, rfl, _, rfl, ⟨a, b, k, rfl, a0, b0, a1, b1, kP.imp id fun z => ⟨z, kB⟩, fun r H6 hr e6 => ?_⟩⟩⟩
      refine ⟨1, rfl, _, _, rfl, rfl, _, rfl, ifd (fun h => ?_) (fun h => ?_)⟩
      · have h : r = -1 := h
        subst h
        refine ⟨_, rfl, m.map V.int, e6 _ _ hmd, ?_, ?_, sq_upd (e6.seq hL) ncd, m ++ [k], ?_, ?_, fun j => ?_⟩
        · rw [List.length_map]
          have := msub.length_le
          rw [List.length_take, List.length_cons] at this
          exact Nat.lt_of_le_of_lt (by omega : m.length ≤ 70) (by decide)
        · intro b' o e
          rw [upd_ne (ne_of_none e hdH)]
          exact e6 _ _ (e5 _ _ e)
        · rw [upd_same, List.map_append]; rfl
        · rw [et]
          exact msub.append (List.Sublist.refl _)
        · rw [et, List.mem_append, List.mem_append, hmm, List.mem_singleton]
          constructor
          · rintro (h | h)
            · exact ⟨.inl h.1, h.2⟩
            · exact ⟨.inr h, h ▸ hr⟩
          · rintro ⟨h | h, h2⟩
            · exact .inl ⟨h, h2⟩
            · exact .inr h
      · refine ⟨e5.trans e6, e6.seq hL, m, e6 _ _ hmd, ?_, fun j => ?_⟩
        · rw [et]
          exact msub.trans (List.sublist_append_left _ _)
        · rw [et, List.mem_append, hmm, List.mem_singleton]
          constructor
          · rintro h
            exact ⟨.inl h.1, h.2⟩
          · rintro ⟨h1 | h1, h2⟩
            · exact ⟨h1, h2⟩
            · subst h1
              exact absurd (hsign_unique kP hr h2) h
    · obtain ⟨e5, hL, m, hmd, msub, hmm⟩ := hp
      rw [List.length_map, List.take_length] at msub hmm
      refine ⟨d, m.map V.int, rfl, .inl ⟨SqL.of hmd, fun t ht => ?_⟩⟩
      have hl := hP0.2 msub hmm
      have ml := msub.length_le
      rw [List.length_cons] at ml
      exact q m t _ hl (by omega) (e5.trans (same_upd ht)) (e5.free ht) upd_same
end
end Sf

namespace Sf
open PySem PySem.Spec PyProof.Rows L2
/-! ### signs multiply -/
def par2 (s t : Nat) (u v : Int) : Int := (u - 1) / 2 * ((v - 1) / 2) + s * ((v * v - 1) / 8) + t * ((u * u - 1) / 8)
theorem sgn2 (s t : Nat) (u v : Int) : sgnAt 2 s t u v = if par2 s t u v % 2 = 1 then -1 else 1 := rfl
theorem e_mul {v w : Int} (hv : v % 2 = 1) (hw : w % 2 = 1) : ((v * w - 1) / 2) % 2 = ((v - 1) / 2 + (w - 1) / 2) % 2 := by
  have h1 : v = 2 * ((v - 1) / 2) + 1 := by omega
  have h2 : w = 2 * ((w - 1) / 2) + 1 := by omega
  generalize (v - 1) / 2 = k at h1 ⊢
  generalize (w - 1) / 2 = l at h2 ⊢
  have e : v * w = 4 * (k * l) + 2 * k + 2 * l + 1 := by rw [h1, h2]; grind
  omega
theorem w_mul {v w : Int} (hv : v % 2 = 1) (hw : w % 2 = 1) : ((v * w * (v * w) - 1) / 8) % 2 = ((v * v - 1) / 8 + (w * w - 1) / 8) % 2 := by
  have s1 := odd_sq8 (w := v) (by omega)
  have s2 := odd_sq8 (w := w) (by omega)
  have h1 : v * v = 8 * ((v * v - 1) / 8) + 1 := by omega
  have h2 : w * w = 8 * ((w * w - 1) / 8) + 1 := by omega
  generalize (v * v - 1) / 8 = k at h1 ⊢
  generalize (w * w - 1) / 8 = l at h2 ⊢
  have e : v * w * (v * w) = (v * v) * (w * w) := by grind
  have e2 : v * w * (v * w) = 64 * (k * l) + 8 * k + 8 * l + 1 := by rw [e, h1, h2]; grind
  omega
theorem par2_mul {s t t' : Nat} {u v w : Int} (hv : v % 2 = 1) (hw : w % 2 = 1) : par2 s (t + t') u (v * w) % 2 = (par2 s t u v + par2 s t' u w) % 2 := by
  unfold par2
  have h1 := par_mul ((u - 1) / 2) ((v * w - 1) / 2) ((u - 1) / 2) _ rfl (e_mul hv hw)
  have h2 := par_mul (s : Int) ((v * w * (v * w) - 1) / 8) (s : Int) _ rfl (w_mul hv hw)
  rw [Int.mul_add] at h1 h2
  have h3 : ((t + t' : Nat) : Int) * ((u * u - 1) / 8) = t * ((u * u - 1) / 8) + t' * ((u * u - 1) / 8) := by rw [Int.natCast_add, Int.add_mul]
  omega
theorem sgn_mul2 {s t t' : Nat} {u v w : Int} (hv : v % 2 = 1) (hw : w % 2 = 1) : sgnAt 2 s (t + t') u (v * w) = sgnAt 2 s t u v * sgnAt 2 s t' u w := by
  rw [sgn2, sgn2, sgn2]
  have h := par2_mul (s := s) (t := t) (t' := t') (u := u) hv hw
  by_cases c1 : par2 s t u v % 2 = 1 <;> by_cases c2 : par2 s t' u w % 2 = 1
  · rw [if_pos c1, if_pos c2, if_neg (by omega)]; rfl
  · rw [if_pos c1, if_neg c2, if_pos (by omega)]; rfl
  · rw [if_neg c1, if_pos c2, if_pos (by omega)]; rfl
  · rw [if_neg c1, if_neg c2, if_neg (by omega)]; rfl
theorem sgn_mul_odd {q : Nat} (h3 : 3 ≤ q) (he : euler q = true) (hp : PrP q) {s t t' : Nat} {u v w : Int} (hu : u % (q : Int) ≠ 0) : sgnAt q s (t + t') u (v * w) = sgnAt q s t u v * sgnAt q s t' u w := by
  have n2 : ¬ (q : Int) = 2 := by omega
  have m1 : (-1 : Int) % (q : Int) ≠ 0 := fun z => prime_one hp ((Int.dvd_neg).mp (Int.dvd_of_emod_eq_zero z))
  have r1 := rest_unit m1
  have r2 := rest_unit hu
  unfold sgnAt
  rw [if_neg n2, if_neg n2, if_neg n2, sign_mul h3 he hp]
  have k1 : s * (t + t') % 2 = (s % 2) * ((t % 2 + t' % 2) % 2) % 2 := by rw [Nat.mul_mod, Nat.add_mod]
  have k2 : s * t % 2 = (s % 2) * (t % 2) % 2 := by rw [Nat.mul_mod]
  have k3 : s * t' % 2 = (s % 2) * (t' % 2) % 2 := by rw [Nat.mul_mod]
  have k4 : (t + t') % 2 = (t % 2 + t' % 2) % 2 := Nat.add_mod _ _ _
  rw [k1, k2, k3, k4]
  generalize restSign (-1) (q : Int) = A at r1 ⊢
  generalize restSign u (q : Int) = B at r2 ⊢
  generalize restSign v (q : Int) = C
  generalize restSign w (q : Int) = D
  have d1 : s % 2 = 0 ∨ s % 2 = 1 := by omega
  have d2 : t % 2 = 0 ∨ t % 2 = 1 := by omega
  have d3 : t' % 2 = 0 ∨ t' % 2 = 1 := by omega
  have g1 : A * B * C * (A * B * D) = C * D := by
    have : A * B * C * (A * B * D) = (A * A) * (B * B) * (C * D) := by clear r1 r2 k1 k2 k3 k4 d1 d2 d3; grind
    rw [this, r1, r2]; simp
  clear k1 k2 k3 k4 h3 he hp hu n2 m1
  rcases d1 with e1 | e1 <;> rcases d2 with e2 | e2 <;> rcases d3 with e3 | e3 <;> rw [e1, e2, e3] <;> simp <;> clear e1 e2 e3 <;> grind
def GoodPl (p : Int) : Prop := p = 0 ∨ (PrP p ∧ (p = 2 ∨ ∃ q : Nat, p = q ∧ 3 ≤ q ∧ euler q = true))
theorem hsign_mul {a b c p r1 r2 : Int} (hp : GoodPl p) (b0 : b ≠ 0) (c0 : c ≠ 0) (h1 : HSign a b p r1) (h2 : HSign a c p r2) : HSign a (b * c) p (r1 * r2) := by
  rcases hp with p0 | ⟨hp, he⟩
  · have f1 : r1 = if a < 0 ∧ b < 0 then -1 else 1 := by
      rcases h1 with ⟨_, e⟩ | ⟨n, _⟩
      · exact e
      · exact absurd p0 n
    have f2 : r2 = if a < 0 ∧ c < 0 then -1 else 1 := by
      rcases h2 with ⟨_, e⟩ | ⟨n, _⟩
      · exact e
      · exact absurd p0 n
    refine .inl ⟨p0, ?_⟩
    rw [f1, f2]
    rcases Int.lt_or_gt_of_ne b0 with b1 | b1 <;> rcases Int.lt_or_gt_of_ne c0 with c1 | c1
    · have : 0 < b * c := Int.mul_pos_of_neg_of_neg b1 c1
      by_cases a1 : a < 0
      · rw [if_pos ⟨a1, b1⟩, if_pos ⟨a1, c1⟩, if_neg (by omega)]; rfl
      · rw [if_neg (fun z => a1 z.1), if_neg (fun z => a1 z.1), if_neg (fun z => a1 z.1)]; rfl
    · have : b * c < 0 := Int.mul_neg_of_neg_of_pos b1 c1
      by_cases a1 : a < 0
      · rw [if_pos ⟨a1, b1⟩, if_neg (by omega), if_pos (by omega)]; rfl
      · rw [if_neg (fun z => a1 z.1), if_neg (fun z => a1 z.1), if_neg (fun z => a1 z.1)]; rfl
    · have : b * c < 0 := Int.mul_neg_of_pos_of_neg b1 c1
      by_cases a1 : a < 0
      · rw [if_pos (by omega : a < 0 ∧ c < 0), if_neg (by omega), if_pos (by omega)]; rfl
      · rw [if_neg (fun z => a1 z.1), if_neg (fun z => a1 z.1), if_neg (fun z => a1 z.1)]; rfl
    · have : 0 < b * c := Int.mul_pos b1 c1
      rw [if_neg (by omega), if_neg (by omega), if_neg (by omega)]; rfl
  · have p2 := hp.1
    obtain ⟨p0, s, t, u, v, g1, g2, e1⟩ := h1.resolve_left (fun z => by omega)
    obtain ⟨_, s', t', u', v', k1, k2, e2⟩ := h2.resolve_left (fun z => by omega)
    obtain ⟨es, eu⟩ := strip_unique hp k1 g1
    subst es eu
    refine .inr ⟨p0, s', t + t', u', v * v', k1, ?_, ?_⟩
    · constructor
      · rw [g2.1, k2.1, Int.pow_add]
        grind
      · intro z
        rcases prime_mul hp (Int.dvd_of_emod_eq_zero z) with d | d
        · exact g2.2 (Int.emod_eq_zero_of_dvd d)
        · exact k2.2 (Int.emod_eq_zero_of_dvd d)
    · rw [e1, e2]
      rcases he with e | ⟨q, e, h3, h4⟩
      · subst e
        have h5 := g2.2
        have h6 := k2.2
        exact (sgn_mul2 (by omega) (by omega)).symm
      · subst e
        exact (sgn_mul_odd h3 h4 hp k1.2).symm
theorem hsign_sq {a b p r : Int} (hp : p = 0 ∨ PrP p) (h : HSign a b p r) : r = 1 ∨ r = -1 := by
  rcases h with ⟨_, e⟩ | ⟨p0, s, t, u, v, g1, g2, e⟩
  · rw [e]; split
    · exact .inr rfl
    · exact .inl rfl
  · have hp := hp.resolve_left p0
    have pm : ∀ x : Int, x * x = 1 → x = 1 ∨ x = -1 := fun x h => by
      have : x.natAbs * x.natAbs = 1 := by rw [← Int.natAbs_mul, h]; rfl
      have := Nat.eq_one_of_mul_eq_one_left this
      omega
    apply pm
    rw [e]
    unfold sgnAt
    split
    · split <;> rfl
    · have m1 : (-1 : Int) % p ≠ 0 := fun z => prime_one hp ((Int.dvd_neg).mp (Int.dvd_of_emod_eq_zero z))
      have r1 := rest_unit m1
      have r2 := rest_unit g1.2
      have r3 := rest_unit g2.2
      have q1 : (if s * t % 2 = 1 then restSign (-1) p else 1) * (if s * t % 2 = 1 then restSign (-1) p else 1) = 1 := by split <;> simp_all
      have q2 : (if t % 2 = 1 then restSign u p else 1) * (if t % 2 = 1 then restSign u p else 1) = 1 := by split <;> simp_all
      have q3 : (if s % 2 = 1 then restSign v p else 1) * (if s % 2 = 1 then restSign v p else 1) = 1 := by split <;> simp_all
      grind
/-! ### pairs with the sign 1 everywhere -/
theorem rest_one {n p : Int} (hp : 2 < p) (h : n % p = 1) : restSign n p = 1 := by
  unfold restSign
  rw [if_neg (by omega), if_neg (by omega), ← pow_mod, h, Int.one_pow, if_pos (Int.emod_eq_of_lt (by decide) (by omega))]
theorem hs_one {b p r : Int} (hp : p = 0 ∨ PrP p) (h : HSign 1 b p r) : r = 1 := by
  rcases h with ⟨_, e⟩ | ⟨p0, s, t, u, v, g1, g2, e⟩
  · rw [e]; rfl
  · have hp := hp.resolve_left p0
    have p2 := hp.1
    have z := strip_unique hp g1 (show Strip 1 p 0 1 from ⟨by rw [Int.pow_zero]; rfl, by rw [Int.emod_eq_of_lt (by decide) (by omega)]; decide⟩)
    rw [e, z.1, z.2]
    unfold sgnAt
    by_cases c : p = 2
    · rw [if_pos c, if_neg (by simp)]
    · rw [if_neg c, rest_one (by omega) (Int.emod_eq_of_lt (by decide) (by omega))]
      simp
theorem hs_neg {a p r : Int} (hp : GoodPl p) (a0 : a ≠ 0) (h : HSign a (-a) p r) : r = 1 := by
  rcases hp with p0 | ⟨hp, he⟩
  · rcases h with ⟨_, e⟩ | ⟨n, _⟩
    · rw [e, if_neg (by omega)]
    · exact absurd p0 n
  · have p2 := hp.1
    obtain ⟨p0, s, t, u, v, g1, g2, e⟩ := h.resolve_left (fun z => by omega)
    have hn : Strip (-a) p s (-u) := ⟨by rw [g1.1, Int.mul_neg], fun z => g1.2 (Int.emod_eq_zero_of_dvd ((Int.dvd_neg).mp (Int.dvd_of_emod_eq_zero z)))⟩
    obtain ⟨e1, e2⟩ := strip_unique hp g2 hn
    rw [e, e1, e2]
    rcases he with c | ⟨q, c, h3, h4⟩
    · subst c
      rw [sgn2, if_neg ?_]
      unfold par2
      have hu := g1.2
      have h1 : u = 2 * ((u - 1) / 2) + 1 := by omega
      have h2 : (-u - 1) / 2 = -((u - 1) / 2) - 1 := by omega
      rw [h2, Int.neg_mul_neg]
      generalize (u - 1) / 2 = k
      have : (k * (-k - 1)) % 2 = 0 := by
        rcases (by omega : k % 2 = 0 ∨ k % 2 = 1) with c | c
        · have := par_mul k (-k - 1) 0 (-k - 1) (by omega) rfl
          omega
        · have := par_mul k (-k - 1) k 0 rfl (by omega)
          omega
      omega
    · subst c
      have n2 : ¬ (q : Int) = 2 := by omega
      have m1 : (-1 : Int) % (q : Int) ≠ 0 := fun z => prime_one hp ((Int.dvd_neg).mp (Int.dvd_of_emod_eq_zero z))
      have r1 := rest_unit m1
      have r2 := rest_unit g1.2
      unfold sgnAt
      rw [if_neg n2]
      have en : -u = (-1) * u := by omega
      rw [en, sign_mul h3 h4 hp]
      have k2 : s * s % 2 = (s % 2) * (s % 2) % 2 := by rw [Nat.mul_mod]
      rw [k2]
      rcases (by omega : s % 2 = 0 ∨ s % 2 = 1) with c | c
      · rw [c]; simp
      · rw [c]; simp; grind
theorem hs_even {b p r : Int} (hp : p = 0 ∨ PrP p) (b0 : b ≠ 0) (b1 : b ≠ 1) (hb : p = 2 → b % 2 = 0) (h : HSign b (1 - b) p r) : r = 1 := by
  rcases h with ⟨_, e⟩ | ⟨p0, s, t, u, v, g1, g2, e⟩
  · rw [e, if_neg (by omega)]
  · have hp := hp.resolve_left p0
    have p2 := hp.1
    by_cases c : p = 2
    · subst c
      have hb := hb rfl
      have z2 := strip_unique hp g2 (show Strip (1 - b) 2 0 (1 - b) from ⟨by rw [Int.pow_zero, Int.one_mul], by omega⟩)
      rw [e, z2.1, z2.2, sgn2, if_neg ?_]
      unfold par2
      have hu := g1.2
      have e1 := g1.1
      rcases s with _ | _ | _ | s
      · rw [Int.pow_zero, Int.one_mul] at e1
        omega
      · have eb : b = 2 * u := by rw [e1]; rfl
        rw [eb]
        have h1 : u = 2 * ((u - 1) / 2) + 1 := by omega
        generalize (u - 1) / 2 = k at h1 ⊢
        have f1 : (1 - 2 * u - 1) / 2 = -u := by omega
        have f2 : ((1 - 2 * u) * (1 - 2 * u) - 1) / 8 = 2 * (k * k) + k := by
          have : (1 - 2 * u) * (1 - 2 * u) = 8 * (2 * (k * k) + k) + 1 := by rw [h1]; grind
          omega
        rw [f1, f2, h1]
        have f3 : k * -(2 * k + 1) = -(2 * (k * k)) - k := by grind
        rw [f3]
        omega
      · have eb : b = 4 * u := by rw [e1]; rfl
        rw [eb]
        have f1 : (1 - 4 * u - 1) / 2 = 2 * (-u) := by omega
        rw [f1]
        have f2 : (u - 1) / 2 * (2 * -u) = 2 * ((u - 1) / 2 * -u) := by grind
        rw [f2]
        omega
      · have eb : b = 8 * (2 ^ s * u) := by rw [e1, Int.pow_succ, Int.pow_succ, Int.pow_succ]; grind
        generalize 2 ^ s * u = m at eb
        rw [eb]
        have f1 : (1 - 8 * m - 1) / 2 = 2 * (-(2 * m)) := by omega
        have f2 : ((1 - 8 * m) * (1 - 8 * m) - 1) / 8 = 2 * (4 * (m * m) - m) := by
          have : (1 - 8 * m) * (1 - 8 * m) = 16 * (4 * (m * m) - m) + 1 := by grind
          omega
        rw [f1, f2]
        have f3 : (u - 1) / 2 * (2 * -(2 * m)) = 2 * ((u - 1) / 2 * -(2 * m)) := by grind
        have f4 : ((s + 1 + 1 + 1 : Nat) : Int) * (2 * (4 * (m * m) - m)) = 2 * (((s + 1 + 1 + 1 : Nat) : Int) * (4 * (m * m) - m)) := by grind
        rw [f3, f4]
        omega
    · have p3 : 2 < p := by omega
      rw [e]
      unfold sgnAt
      rw [if_neg c]
      by_cases d1 : b % p = 0
      · have d2 : (1 - b) % p = 1 := by
          have := Int.dvd_of_emod_eq_zero d1
          obtain ⟨k, hk⟩ := this
          rw [hk, Int.sub_eq_add_neg, ← Int.mul_neg, Int.add_mul_emod_self_left]
          exact Int.emod_eq_of_lt (by decide) (by omega)
        have z2 := strip_unique hp g2 (show Strip (1 - b) p 0 (1 - b) from ⟨by rw [Int.pow_zero, Int.one_mul], by rw [d2]; decide⟩)
        rw [z2.1, z2.2, rest_one p3 d2]
        simp
      · have z1 := strip_unique hp g1 (show Strip b p 0 b from ⟨by rw [Int.pow_zero, Int.one_mul], d1⟩)
        rw [z1.1, z1.2]
        by_cases d2 : (1 - b) % p = 0
        · have d3 : b % p = 1 := by
            obtain ⟨k, hk⟩ := Int.dvd_of_emod_eq_zero d2
            have : b = 1 + p * (-k) := by rw [Int.mul_neg]; omega
            rw [this, Int.add_mul_emod_self_left]
            exact Int.emod_eq_of_lt (by decide) (by omega)
          rw [rest_one p3 d3]
          simp
        · have z2 := strip_unique hp g2 (show Strip (1 - b) p 0 (1 - b) from ⟨by rw [Int.pow_zero, Int.one_mul], d2⟩)
          rw [z2.1]
          simp
theorem hs_flip {b p r : Int} (hp : p = 0 ∨ PrP p) (b0 : b ≠ 0) (b1 : b ≠ 1) (h : HSign b (1 - b) p r) : r = 1 := by
  by_cases c : b % 2 = 0
  · exact hs_even hp b0 b1 (fun _ => c) h
  · have e : b = 1 - (1 - b) := by omega
    refine hs_even (b := 1 - b) hp (by omega) (by omega) (fun _ => by omega) ?_
    rw [← e]
    exact hsign_comm h
end Sf

namespace Sf
open PySem PySem.Spec PyProof.Rows L2
/-! ### an even number of places, for numbers of few primes -/
def P9 : List Int := [2, 3, 5, 7, 11, 13, 17, 41, 97]
def L10 : List Int := [0, 2, 3, 5, 7, 11, 13, 17, 41, 97]
theorem euler9 : ([3, 5, 7, 11, 13, 17, 41, 97].all euler) = true := by decide +kernel
theorem prp_dec {n : Int} (d : Nat) (h : decide (2 ≤ n ∧ 2 ≤ (d : Int) ∧ n < (d : Int) * d ∧ ∀ k : Nat, k < d → 2 ≤ k → n % (k : Int) ≠ 0) = true) : PrP n := by
  have z := of_decide_eq_true h
  refine prp_of_trial z.1 z.2.1 (fun k a b => ?_) z.2.2.1
  have e : k = (k.toNat : Int) := by omega
  rw [e]
  exact z.2.2.2 k.toNat (by omega) (by omega)
theorem prime9 : ∀ p ∈ P9, PrP p := by
  intro p hp
  have cases : p = 2 ∨ p = 3 ∨ p = 5 ∨ p = 7 ∨ p = 11 ∨ p = 13 ∨ p = 17 ∨ p = 41 ∨ p = 97 := by simpa [P9] using hp
  rcases cases with e | e | e | e | e | e | e | e | e <;> subst e
  · exact prp_dec 2 (by decide +kernel)
  · exact prp_dec 2 (by decide +kernel)
  · exact prp_dec 3 (by decide +kernel)
  · exact prp_dec 3 (by decide +kernel)
  all_goals exact prp_dec (n := _) 10 (by decide +kernel)
theorem good10 : ∀ p ∈ L10, GoodPl p := by
  intro p hp
  have cases : p = 0 ∨ p ∈ P9 := by simpa [L10, P9] using hp
  rcases cases with e | e
  · exact .inl e
  · refine .inr ⟨prime9 p e, ?_⟩
    have he := List.all_eq_true.mp euler9
    have cases : p = 2 ∨ p = 3 ∨ p = 5 ∨ p = 7 ∨ p = 11 ∨ p = 13 ∨ p = 17 ∨ p = 41 ∨ p = 97 := by simpa [P9] using e
    rcases cases with e | e | e | e | e | e | e | e | e
    · exact .inl e
    · exact .inr ⟨3, e, by decide, he 3 (by decide)⟩
    · exact .inr ⟨5, e, by decide, he 5 (by decide)⟩
    · exact .inr ⟨7, e, by decide, he 7 (by decide)⟩
    · exact .inr ⟨11, e, by decide, he 11 (by decide)⟩
    · exact .inr ⟨13, e, by decide, he 13 (by decide)⟩
    · exact .inr ⟨17, e, by decide, he 17 (by decide)⟩
    · exact .inr ⟨41, e, by decide, he 41 (by decide)⟩
    · exact .inr ⟨97, e, by decide, he 97 (by decide)⟩
theorem pl10 {p : Int} (hp : p ∈ L10) : p = 0 ∨ PrP p := (good10 p hp).imp id fun z => z.1
open Classical in
noncomputable def hs (a b p : Int) : Int := if h : ∃ r, HSign a b p r then Classical.choose h else 1
theorem hs_spec {a b p : Int} (ha : a ≠ 0) (hb : b ≠ 0) (hp : p = 0 ∨ PrP p) : HSign a b p (hs a b p) := by
  have h := hsign_some ha hb hp
  unfold hs
  rw [dif_pos h]
  exact Classical.choose_spec h
theorem hs_eq {a b p r : Int} (hp : p = 0 ∨ PrP p) (h : HSign a b p r) : hs a b p = r := by
  have e : ∃ r, HSign a b p r := ⟨r, h⟩
  have z : HSign a b p (hs a b p) := by
    unfold hs
    rw [dif_pos e]
    exact Classical.choose_spec e
  exact hsign_unique hp z h
def prodI (l : List Int) : Int := l.foldr (· * ·) 1
noncomputable def tot (a b : Int) : Int := prodI (L10.map (hs a b))
theorem prod_mul (f g h : Int → Int) : ∀ l : List Int, (∀ p ∈ l, f p = g p * h p) → prodI (l.map f) = prodI (l.map g) * prodI (l.map h)
  | [], _ => rfl
  | x :: l, e => by
    have ih := prod_mul f g h l fun p hp => e p (List.mem_cons_of_mem _ hp)
    show f x * prodI (l.map f) = g x * prodI (l.map g) * (h x * prodI (l.map h))
    rw [ih, e x List.mem_cons_self]
    grind
theorem tot_mul {a b c : Int} (ha : a ≠ 0) (hb : b ≠ 0) (hc : c ≠ 0) : tot a (b * c) = tot a b * tot a c :=
  prod_mul _ _ _ _ fun p hp => hs_eq (pl10 hp) (hsign_mul (good10 p hp) hb hc (hs_spec ha hb (pl10 hp)) (hs_spec ha hc (pl10 hp)))
theorem tot_comm {a b : Int} (ha : a ≠ 0) (hb : b ≠ 0) : tot a b = tot b a := by
  unfold tot
  congr 1
  exact List.map_congr_left fun p hp => hs_eq (pl10 hp) (hsign_comm (hs_spec hb ha (pl10 hp)))
def G11 : List Int := [1, -1, 2, 3, 5, 7, 11, 13, 17, 41, 97]
def sgnG (g h p : Int) : Int := if p = 0 then (if g < 0 ∧ h < 0 then -1 else 1) else sgnAt p (if g = p then 1 else 0) (if h = p then 1 else 0) (if g = p then 1 else g) (if h = p then 1 else h)
def okG : Bool := (G11.all fun g => P9.all fun p => decide (g = p ^ (if g = p then 1 else 0) * (if g = p then 1 else g) ∧ (if g = p then 1 else g) % p ≠ 0)) && (G11.all fun g => G11.all fun h => decide (prodI (L10.map (sgnG g h)) = 1))
theorem okG_ok : okG = true := by decide +kernel
theorem sgnG_ok {g h p : Int} (hg : g ∈ G11) (hh : h ∈ G11) (hp : p ∈ L10) : HSign g h p (sgnG g h p) := by
  have z := okG_ok
  unfold okG at z
  rw [Bool.and_eq_true] at z
  unfold sgnG
  by_cases c : p = 0
  · rw [if_pos c]
    exact .inl ⟨c, rfl⟩
  · rw [if_neg c]
    have hp9 : p ∈ P9 := by
      have cases : p = 0 ∨ p ∈ P9 := by simpa [L10, P9] using hp
      exact cases.resolve_left c
    have z1 := of_decide_eq_true (List.all_eq_true.mp (List.all_eq_true.mp z.1 g hg) p hp9)
    have z2 := of_decide_eq_true (List.all_eq_true.mp (List.all_eq_true.mp z.1 h hh) p hp9)
    exact .inr ⟨c, _, _, _, _, z1, z2, rfl⟩
theorem tot_gen {g h : Int} (hg : g ∈ G11) (hh : h ∈ G11) : tot g h = 1 := by
  have z := okG_ok
  unfold okG at z
  rw [Bool.and_eq_true] at z
  have z2 := of_decide_eq_true (List.all_eq_true.mp (List.all_eq_true.mp z.2 g hg) h hh)
  unfold tot
  rw [← z2]
  congr 1
  exact List.map_congr_left fun p hp => hs_eq (pl10 hp) (sgnG_ok hg hh hp)
/-- a number made of the nine primes -/
def Made (n : Int) (l : List Int) : Prop := (∀ q ∈ l, q ∈ P9) ∧ ∃ σ : Int, (σ = 1 ∨ σ = -1) ∧ n = σ * prodI l
theorem prodI_ne : ∀ {l : List Int}, (∀ q ∈ l, q ∈ P9) → prodI l ≠ 0
  | [], _ => by decide
  | x :: l, h => by
    have h1 := (prime9 x (h x List.mem_cons_self)).1
    exact Int.mul_ne_zero (by omega) (prodI_ne fun q hq => h q (List.mem_cons_of_mem _ hq))
theorem made_ne {n : Int} {l : List Int} (h : Made n l) : n ≠ 0 := by
  obtain ⟨h1, σ, h2, e⟩ := h
  rw [e]
  exact Int.mul_ne_zero (by omega) (prodI_ne h1)
theorem prodI_snoc (l : List Int) (q : Int) : prodI (l ++ [q]) = prodI l * q := by
  induction l with
  | nil => show q * 1 = 1 * q; omega
  | cons x l ih =>
    show x * prodI (l ++ [q]) = x * prodI l * q
    rw [ih, Int.mul_assoc]
theorem made_snoc {n q : Int} {l : List Int} (h : Made n l) (hq : q ∈ P9) : Made (n * q) (l ++ [q]) := by
  obtain ⟨h1, σ, h2, e⟩ := h
  refine ⟨fun r hr => ?_, σ, h2, ?_⟩
  · rcases List.mem_append.mp hr with hr | hr
    · exact h1 r hr
    · rw [List.mem_singleton.mp hr]; exact hq
  · rw [e, prodI_snoc, Int.mul_assoc]
theorem mem_G {p : Int} (h : p ∈ P9) : p ∈ G11 := by
  have cases : p = 2 ∨ p = 3 ∨ p = 5 ∨ p = 7 ∨ p = 11 ∨ p = 13 ∨ p = 17 ∨ p = 41 ∨ p = 97 := by simpa [P9] using h
  rcases cases with e | e | e | e | e | e | e | e | e <;> rw [e] <;> decide
theorem tot_list {a : Int} (ha : a ≠ 0) (h : ∀ g ∈ G11, tot a g = 1) : ∀ {l : List Int}, (∀ q ∈ l, q ∈ P9) → tot a (prodI l) = 1
  | [], _ => h 1 (by decide)
  | x :: l, hl => by
    have hx := hl x List.mem_cons_self
    have ih := tot_list ha h fun q hq => hl q (List.mem_cons_of_mem _ hq)
    show tot a (x * prodI l) = 1
    have x0 := (prime9 x hx).1
    rw [tot_mul ha (by omega) (prodI_ne fun q hq => hl q (List.mem_cons_of_mem _ hq)), ih, h x (mem_G hx)]
    rfl
theorem tot_made {a b : Int} {l : List Int} (ha : a ≠ 0) (h : ∀ g ∈ G11, tot a g = 1) (hb : Made b l) : tot a b = 1 := by
  obtain ⟨h1, σ, h2, e⟩ := hb
  rw [e, tot_mul ha (by omega) (prodI_ne h1), tot_list ha h h1]
  rcases h2 with e | e
  · rw [e, h 1 (by decide)]; rfl
  · rw [e, h (-1) (by decide)]; rfl
theorem tot_one {a b : Int} {l m : List Int} (ha : Made a l) (hb : Made b m) : tot a b = 1 := by
  refine tot_made (made_ne ha) (fun g hg => ?_) hb
  have g0 : g ≠ 0 := by
    have : ∀ g ∈ G11, g ≠ 0 := by decide
    exact this g hg
  rw [tot_comm (made_ne ha) g0]
  exact tot_made g0 (fun h hh => tot_gen hg hh) ha
theorem made_prime {n p : Int} {l : List Int} (h : Made n l) (hp : PrP p) (d : n % p = 0) : p ∈ l := by
  obtain ⟨h1, σ, h2, e⟩ := h
  have d := Int.dvd_of_emod_eq_zero d
  rw [e] at d
  have : ∀ {l : List Int}, (∀ q ∈ l, q ∈ P9) → p ∣ prodI l → p ∈ l := by
    intro l
    induction l with
    | nil => exact fun _ d => absurd d (prime_one hp)
    | cons x l ih =>
      intro h1 d
      rcases prime_mul hp d with d | d
      · rw [prime_dvd_prime hp (prime9 x (h1 x List.mem_cons_self)) d]
        exact List.mem_cons_self
      · exact List.mem_cons_of_mem _ (ih (fun q hq => h1 q (List.mem_cons_of_mem _ hq)) d)
  rcases prime_mul hp d with d | d
  · rcases h2 with e | e
    · rw [e] at d; exact absurd d (prime_one hp)
    · rw [e] at d; exact absurd ((Int.dvd_neg).mp d) (prime_one hp)
  · exact this h1 d
/-- a place where the sign is -1 is 0, 2 or a prime of one of the numbers -/
theorem neg_place {a b p : Int} (hp : p = 0 ∨ PrP p) (h : HSign a b p (-1)) : p = 0 ∨ p = 2 ∨ (PrP p ∧ (a % p = 0 ∨ b % p = 0)) := by
  rcases hp with e | hp
  · exact .inl e
  · by_cases c : p = 2
    · exact .inr (.inl c)
    · by_cases c1 : a % p = 0
      · exact .inr (.inr ⟨hp, .inl c1⟩)
      · by_cases c2 : b % p = 0
        · exact .inr (.inr ⟨hp, .inr c2⟩)
        · exact absurd (sign_far hp c c1 c2 h) (by decide)
theorem sign_parity (f : Int → Int) : ∀ l : List Int, (∀ p ∈ l, f p = 1 ∨ f p = -1) → prodI (l.map f) = if (l.filter fun p => decide (f p = -1)).length % 2 = 1 then -1 else 1
  | [], _ => rfl
  | x :: l, h => by
    have ih := sign_parity f l fun p hp => h p (List.mem_cons_of_mem _ hp)
    show f x * prodI (l.map f) = _
    rw [ih, List.filter_cons]
    rcases h x List.mem_cons_self with e | e
    · rw [e, if_neg (by decide : ¬ decide ((1 : Int) = -1) = true), Int.one_mul]
    · rw [e, if_pos (by decide : decide ((-1 : Int) = -1) = true), List.length_cons]
      by_cases c : (l.filter fun p => decide (f p = -1)).length % 2 = 1
      · rw [if_pos c, if_neg (by omega)]; rfl
      · rw [if_neg c, if_pos (by omega)]; rfl
theorem even_places {a b : Int} {la lb l : List Int} (ha : Made a la) (hb : Made b lb) (h : PlacesOf a b l) : l.length % 2 = 0 := by
  have a0 := made_ne ha
  have b0 := made_ne hb
  have e : l = L10.filter fun p => decide (hs a b p = -1) := by
    refine asc_unique h.1 (List.Pairwise.filter _ (by decide)) fun p => ?_
    rw [h.2, List.mem_filter, decide_eq_true_iff]
    constructor
    · rintro ⟨hp, hn⟩
      refine ⟨?_, hs_eq hp hn⟩
      have in9 : ∀ {q : Int}, q ∈ P9 → q ∈ L10 := fun {q} h => by
        show q ∈ 0 :: P9
        exact List.mem_cons_of_mem _ h
      rcases neg_place hp hn with e | e | ⟨hp, e | e⟩
      · rw [e]; decide
      · rw [e]; decide
      · exact in9 (ha.1 p (made_prime ha hp e))
      · exact in9 (hb.1 p (made_prime hb hp e))
    · rintro ⟨hp, e⟩
      refine ⟨pl10 hp, ?_⟩
      rw [← e]
      exact hs_spec a0 b0 (pl10 hp)
  have t := tot_one ha hb
  unfold tot at t
  rw [sign_parity _ _ fun p hp => hsign_sq (pl10 hp) (hs_spec a0 b0 (pl10 hp)), ← e] at t
  by_cases c : l.length % 2 = 1
  · rw [if_pos c] at t
    exact absurd t (by decide)
  · omega
/-- two pairs with the same signs have the same places -/
theorem places_same {a b a' b' : Int} {l l' : List Int} (a0 : a ≠ 0) (b0 : b ≠ 0) (h : ∀ p r, (p = 0 ∨ PrP p) → HSign a b p r → HSign a' b' p r) (h1 : PlacesOf a b l) (h2 : PlacesOf a' b' l') : l = l' := by
  refine asc_unique h1.1 h2.1 fun p => ?_
  rw [h1.2, h2.2]
  constructor
  · rintro ⟨hp, hn⟩
    exact ⟨hp, h p _ hp hn⟩
  · rintro ⟨hp, hn⟩
    obtain ⟨r, hr⟩ := hsign_some a0 b0 hp
    rw [hsign_unique hp hn (h p r hp hr)]
    exact ⟨hp, hr⟩
theorem places_none {a b : Int} {l : List Int} (h : ∀ p r, (p = 0 ∨ PrP p) → HSign a b p r → r = 1) (h1 : PlacesOf a b l) : l = [] := by
  cases l with
  | nil => rfl
  | cons x l =>
    obtain ⟨hp, hn⟩ := (h1.2 x).mp List.mem_cons_self
    exact absurd (h x _ hp hn) (by decide)
theorem good_of {a p : Int} {la : List Int} (ha : Made a la) (hp : PrP p) (h : p = 2 ∨ a % p = 0) : GoodPl p := by
  rcases h with e | e
  · exact good10 p (by rw [e]; decide)
  · exact good10 p (List.mem_cons_of_mem 0 (ha.1 p (made_prime ha hp e)))
/-- squares in the first number change no sign -/
theorem square_sign {a b b' k p r : Int} {la lb : List Int} (ha : Made a la) (hb : Made b lb) (k0 : k ≠ 0) (e : b' = b * (k * k)) (hp : p = 0 ∨ PrP p) (h : HSign b' a p r) : HSign b a p r := by
  rcases hp with p0 | hp
  · rcases h with ⟨_, e1⟩ | ⟨n, _⟩
    · refine .inl ⟨p0, ?_⟩
      rw [e1, e]
      have kk : 0 < k * k := by
        rcases Int.lt_or_gt_of_ne k0 with c | c
        · exact Int.mul_pos_of_neg_of_neg c c
        · exact Int.mul_pos c c
      have i : b * (k * k) < 0 ↔ b < 0 := by
        constructor
        · intro z
          by_cases c : b < 0
          · exact c
          · have := Int.mul_nonneg (a := b) (b := k * k) (by omega) (by omega)
            omega
        · exact fun z => Int.mul_neg_of_neg_of_pos z kk
      simp only [i]
    · exact absurd p0 n
  · have p2 := hp.1
    by_cases c : p = 2 ∨ a % p = 0 ∨ b % p = 0
    · have g : GoodPl p := by
        rcases c with c | c | c
        · exact good_of ha hp (.inl c)
        · exact good_of ha hp (.inr c)
        · exact good_of hb hp (.inr c)
      obtain ⟨_, he⟩ := g.resolve_left (by omega)
      exact hsign_bare hp he ⟨k, k0, e⟩ ⟨1, by decide, by omega⟩ (made_ne hb) (made_ne ha) h
    · have n2 : p ≠ 2 := fun z => c (.inl z)
      have na : a % p ≠ 0 := fun z => c (.inr (.inl z))
      have nb : b % p ≠ 0 := fun z => c (.inr (.inr z))
      have sb : Strip b p 0 b := ⟨by rw [Int.pow_zero, Int.one_mul], nb⟩
      have sa : Strip a p 0 a := ⟨by rw [Int.pow_zero, Int.one_mul], na⟩
      obtain ⟨r', hr'⟩ := hsign_some (made_ne hb) (made_ne ha) (.inr hp)
      have e1 := sign_far hp n2 nb na hr'
      obtain ⟨_, s, t, u, v, g1, g2, e2⟩ := h.resolve_left (fun z => by omega)
      obtain ⟨w, _, _, hs⟩ := strip_sq hp k0 e g1 sb
      obtain ⟨ht, _⟩ := strip_unique hp g2 sa
      have er : r = 1 := by
        rw [e2, ht]
        unfold sgnAt
        rw [if_neg n2, if_neg (by omega : ¬ s % 2 = 1)]
        simp
      rw [er, ← e1]
      exact hr'
end Sf

namespace Sf
open PySem PySem.Spec PyProof.Rows L2
theorem eqv_tups (a b : List Int) : PyData.eqv (.tuple (a.map PyData.int)) (.tuple (b.map PyData.int)) = decide (a = b) := by
  rw [← eqv_ints a b]
  unfold PyData.eqv
  rfl
theorem flat_ints (l : List Int) : ∀ i, i < l.length → ∃ z, l[i]? = some z := fun i h => ⟨l[i], List.getElem?_eq_getElem h⟩
theorem int_at {l : List Int} {i : Nat} {v : V} (h : (l.map V.int)[i]? = some v) : ∃ z, l[i]? = some z ∧ v = V.int z := by
  rw [List.getElem?_map] at h
  cases e : l[i]? with
  | none => rw [e] at h; cases h
  | some z => rw [e] at h; exact ⟨z, rfl, (Option.some.inj h).symm⟩
section
variable {P : Program} {w : World} {K : PySem.W.Frag} {mg : Str → Option Value} {base : Heap} {f : Addr} {fd : FuncData}
structure MadeP (vs : List V) (H : Hp) (Q : VK) : Prop where
  ex : ∃ (p : Addr) (n : Nat) (M : Int), vs = [.ref p, .int M] ∧ Sk p n H ∧ n + 10 ≤ 1000000 ∧ 1 ≤ M ∧ M ≤ 1000000000 ∧
    ∀ (r : Int) (l : List Int) (t q : Addr) (H' : Hp), Made r l → r.natAbs ≤ M.natAbs → l.length ≤ 5 → Keep p H H' → Sk p (n + 10) H' → t ≠ p → q ≠ p → H' t = some (.tup [.int r, .ref q]) → H' q = some (.lst (l.map V.int)) → Q (.ref t) H'
def spMade : Sp := fun vs H Q _ => MadeP vs H Q
theorem ok_made (F : FnD K "_law_made" "_law_made" s_L_made f fd) (T : Glob mg) (C_L_take : Cal P w K mg base 1 "_law_take" ["_law_sack_here", "_law_many"] spTake) (C_L_one_of : Cal P w K mg base 2 "_law_one_of" ["_law_sack_here", "_law_items"] (spOneOf K)) : FnOk P w K mg base CX0 3 f fd ["_law_sack_here", "_law_most"] spMade := by
  refine F.ok sc_L_made (fun vs H Q E h => ?_) (fun cdv A outer s H vs Q E hr h => ?_)
  · obtain ⟨p, n, M, rfl, _⟩ := h.ex; rfl
  · obtain ⟨p, n, M, rfl, sk, hn, M1, M2, q⟩ := h.ex
    refine ⟨_, PSs.nox (pss_cons (ps_par (i := 2) (j := 3) (by rfl) sc_L_made.nd rfl rfl (by decide) rfl rfl (pa_cons (pe_cal C_L_one_of (hr.mono (by decide)) (pa_cons (pv 0) (pa_cons (pe_lst (pa_cons pe_int (pa_cons (pe_un un_neg pe_int) pa_nil))) pa_nil))) (pa_cons (pe_lst pa_nil) pa_nil)) (by rfl))
      (pss_cons (ps_for PassesOwn.never rfl (pi_range1 (by rfl) T.m_range (pa_cons (pe_cal C_L_take (hr.mono (by decide)) (pa_cons (pv 0) (pa_cons pe_int pa_nil))) pa_nil)) (pg_name (i := 4) sc_L_made.nd rfl (Or.inl rfl)) (pss_cons (ps_set (i := 5) sc_L_made.nd rfl (Or.inl rfl) (pe_cal C_L_one_of (hr.mono (by decide)) (pa_cons (pv 0) (pa_cons (pe_lst (pa_cons pe_int (pa_cons pe_int (pa_cons pe_int (pa_cons pe_int (pa_cons pe_int (pa_cons pe_int (pa_cons pe_int (pa_cons pe_int (pa_cons pe_int (pa_cons pe_int (pa_cons pe_int pa_nil)))))))))))) pa_nil))))
      (pss_one (ps_if (pt_cmp (pc_le (pe_callB call_abs (by rfl) T.m_abs (by decide +kernel) (pa_cons (pe_op op_mulW (pv 2) (pv 5)) pa_nil)) (pv 1))) (pss_one (ps_par (i := 2) (j := 3) (by rfl) sc_L_made.nd rfl rfl (by decide) rfl rfl (pa_cons (pe_op op_mulW (pv 2) (pv 5)) (pa_cons (pe_op op_cat (pv 3) (pe_lst (pa_cons (pv 5) pa_nil))) pa_nil)) (by rfl))) pss_nil))))
      (pss_one (ps_ret (pe_tup (pa_cons (pv 2) (pa_cons (pv 3) pa_nil))))))), ?_⟩
    refine ⟨_, rfl, 1, rfl, (by show 2 ≤ sizeLine; decide), fun b hb => one_of_new sk (by omega) hb (by show 1 ≤ 2; decide) (by show 2 ≤ 1000000; decide) fun v H1 hv k1 s1 => ?_⟩
    obtain ⟨z, rfl, hz⟩ : ∃ z : Int, v = .int z ∧ (z = 1 ∨ z = -1) := by
      rcases List.mem_cons.mp hv with e | hv
      · exact ⟨1, e, .inl rfl⟩
      rcases List.mem_cons.mp hv with e | hv
      · exact ⟨-1, e, .inr rfl⟩
      · cases hv
    refine ⟨(by show 0 ≤ sizeLine; decide), fun c hc => ⟨_, _, rfl, ?_⟩⟩
    have s2 : Sk p (n + 1) (upd H1 c (.lst [])) := s1.same (same_upd hc)
    refine ⟨_, rfl, take_of s2 (by omega) (by decide) (by decide +kernel) fun t H3 t0 t1 k3 s3 _ => ⟨t, rfl, by omega, by omega, ?_⟩⟩
    have ncp : c ≠ p := fun e => s1.ne hc e.symm
    refine for_range (lo := 0) (n := t.toNat) (fun i σ H' => ∃ (r : Int) (l : List Int) (d : Addr) (v4 v5 : Option V), σ = [some (.ref p), some (.int M), some (.int r), some (.ref d), v4, v5] ∧ Made r l ∧ r.natAbs ≤ M.natAbs ∧ l.length ≤ i ∧ Keep p H H' ∧ Sk p (n + 2 + i) H' ∧ d ≠ p ∧ H' d = some (.lst (l.map V.int))) ⟨z, [], c, none, none, rfl, ⟨fun q hq => (by cases hq), z, hz, by show z = z * 1; omega⟩, by omega, Nat.le_refl _, (k1.trans (Keep.new hc)).trans k3, s3, ncp, k3 _ _ upd_same ncp⟩ ?_ ?_
    · rintro i σ H4 hi ⟨r, l, d, v4, v5, rfl, hm, hr1, hl, k4, s4, ndp, hd⟩
      refine ⟨_, rfl, (by show 11 ≤ sizeLine; decide), fun b2 hb2 => one_of_new s4 (by omega) hb2 (by show 1 ≤ 11; decide) (by show 11 ≤ 1000000; decide) fun x H5 hx k5 s5 => ?_⟩
      obtain ⟨y, rfl, hy⟩ : ∃ y : Int, x = .int y ∧ y ∈ P9 := by
        have cases : x = .int 2 ∨ x = .int 3 ∨ x = .int 5 ∨ x = .int 7 ∨ x = .int 11 ∨ x = .int 13 ∨ x = .int 17 ∨ x = .int 2 ∨ x = .int 3 ∨ x = .int 41 ∨ x = .int 97 := by simpa using hx
        rcases cases with e | e | e | e | e | e | e | e | e | e | e <;> exact ⟨_, e, by decide⟩
      have yb : 2 ≤ y ∧ y ≤ 97 := by
        have : ∀ y ∈ P9, 2 ≤ y ∧ y ≤ 97 := by decide
        exact this y hy
      have hd5 : H5 d = some (.lst (l.map V.int)) := k5 _ _ hd ndp
      refine ⟨_, rfl, _, rfl, _, _, rfl, rfl, CMulW.of (lt3000s (by omega) (by omega)) (lt3000s (by omega) (by omega)), _, rfl, _, rfl, _, _, rfl, rfl, _, rfl, ifd (fun h => ?_) (fun h => ?_)⟩
      · have hle : (r * y).natAbs ≤ M.natAbs := by
          split at h <;> omega
        refine ⟨_, rfl, _, rfl, _, _, rfl, rfl, CMulW.of (lt3000s (by omega) (by omega)) (lt3000s (by omega) (by omega)), _, rfl, _, rfl, (by show 1 ≤ sizeLine; decide), fun c2 hc2 => ?_⟩
        have n1 : d ≠ c2 := ne_of_none hd5 hc2
        refine ⟨d, c2, _, _, rfl, rfl, by rw [upd_ne n1]; exact hd5, upd_same, ?_, fun c3 hc3 => ?_⟩
        · refine Nat.le_trans (?_ : _ ≤ 50) (by decide)
          rw [List.length_map]
          show l.length + 1 ≤ 50
          omega
        · have s6 := (s5.same (same_upd (o := .lst [.int y]) hc2)).same (same_upd (o := .lst (l.map V.int ++ [.int y])) hc3)
          have n3 : c3 ≠ p := fun e => (s5.same (same_upd (o := .lst [.int y]) hc2)).ne hc3 e.symm
          refine ⟨_, _, rfl, r * y, l ++ [y], c3, _, _, rfl, made_snoc hm hy, hle, ?_, ((k4.trans k5).trans (Keep.new hc2)).trans (Keep.new hc3), s6, n3, ?_⟩
          · rw [List.length_append]
            show l.length + 1 ≤ i + 1
            omega
          · rw [upd_same, List.map_append]; rfl
      · exact ⟨r, l, d, _, _, rfl, hm, hr1, by omega, k4.trans k5, s5, ndp, hd5⟩
    · rintro σ H4 ⟨r, l, d, v4, v5, rfl, hm, hr1, hl, k4, s4, ndp, hd⟩
      refine ⟨_, rfl, _, rfl, (by show 2 ≤ sizeLine; decide), fun tt htt => ?_⟩
      have n1 : d ≠ tt := ne_of_none hd htt
      exact q r l tt d _ hm hr1 (by omega) (k4.trans (Keep.new htt)) ((s4.same (same_upd htt)).mono (by omega)) (fun e => s4.ne htt e.symm) ndp upd_same (by rw [upd_ne n1]; exact hd)
def kvT (k : Int) : Key × V := (Sum.inl k, .bl true)
theorem merge_keys : ∀ (xs ks : List Int) (acc : List (Key × V)), acc.map (·.1) = ks.map Sum.inl → ks.Nodup → ∃ ms : List Int, (mergeK acc (xs.map kvT)).map (·.1) = ms.map Sum.inl ∧ ms.Nodup ∧ ∀ x, x ∈ ms ↔ x ∈ ks ∨ x ∈ xs
  | [], ks, acc, h, hn => ⟨ks, h, hn, fun x => by simp⟩
  | y :: xs, ks, acc, h, hn => by
    show ∃ ms : List Int, (mergeK (putK acc (Sum.inl y) (.bl true)) (xs.map kvT)).map (·.1) = ms.map Sum.inl ∧ _
    have hk : (acc.any fun kv => decide (kv.1 = (Sum.inl y : Key))) = decide (y ∈ ks) := by
      have e : (acc.any fun kv => decide (kv.1 = (Sum.inl y : Key))) = (acc.map (·.1)).any fun k => decide (k = (Sum.inl y : Key)) := by rw [List.any_map]; rfl
      rw [e, h, List.any_map]
      rw [Bool.eq_iff_iff, List.any_eq_true, decide_eq_true_iff]
      constructor
      · rintro ⟨z, hz, e⟩
        have e2 : (Sum.inl z : Key) = Sum.inl y := of_decide_eq_true e
        cases e2
        exact hz
      · exact fun hy => ⟨y, hy, decide_eq_true (p := (Sum.inl y : Key) = Sum.inl y) rfl⟩
    by_cases c : y ∈ ks
    · have e : (putK acc (Sum.inl y) (.bl true)).map (·.1) = ks.map Sum.inl := by
        unfold putK
        rw [hk, if_pos (decide_eq_true c), List.map_map, ← h]
        refine List.map_congr_left fun kv _ => ?_
        show (if kv.1 = Sum.inl y then (kv.1, V.bl true) else kv).1 = kv.1
        split <;> rfl
      obtain ⟨ms, h1, h2, h3⟩ := merge_keys xs ks _ e hn
      refine ⟨ms, h1, h2, fun x => ?_⟩
      rw [h3, List.mem_cons]
      constructor
      · exact fun z => z.elim .inl fun z => .inr (.inr z)
      · rintro (z | z | z)
        · exact .inl z
        · exact .inl (z ▸ c)
        · exact .inr z
    · have e : (putK acc (Sum.inl y) (.bl true)).map (·.1) = (ks ++ [y]).map Sum.inl := by
        unfold putK
        rw [hk, if_neg (by simpa using c), List.map_append, List.map_append, h]
        rfl
      have hn2 : (ks ++ [y]).Nodup := by
        rw [List.nodup_append]
        refine ⟨hn, by simp, fun a ha b hb e => ?_⟩
        rw [List.mem_singleton] at hb
        exact c (hb ▸ e ▸ ha)
      obtain ⟨ms, h1, h2, h3⟩ := merge_keys xs (ks ++ [y]) _ e hn2
      refine ⟨ms, h1, h2, fun x => ?_⟩
      rw [h3, List.mem_append, List.mem_singleton, List.mem_cons, or_assoc]
theorem strict_of {l : List Int} (h : l.Pairwise (· ≤ ·)) (n : l.Nodup) : l.Pairwise (· < ·) := by
  have := h.and n
  exact this.imp fun {a b} z => Int.lt_iff_le_and_ne.mpr z
theorem places_sub {a b : Int} {D l : List Int} (hD : D.Pairwise (· < ·)) (hg : ∀ k ∈ D, k = 0 ∨ PrP k) (hc : ∀ p, (p = 0 ∨ PrP p) → HSign a b p (-1) → p ∈ D) (hl : l.Sublist D) (hm : ∀ k, k ∈ l ↔ k ∈ D ∧ HSign a b k (-1)) : PlacesOf a b l := by
  refine ⟨List.Pairwise.sublist hl hD, fun p => ?_⟩
  rw [hm]
  exact ⟨fun z => ⟨hg p z.1, z.2⟩, fun z => ⟨hc p z.1 z.2, z.2⟩⟩
structure DueP (vs : List V) (H : Hp) (Q : VK) : Prop where
  ex : ∃ (a b : Int) (q : Addr) (l : List Int), vs = [.int a, .int b, .ref q] ∧ a ≠ 0 ∧ b ≠ 0 ∧ a.natAbs ≤ 1000000000 ∧ b.natAbs ≤ 1000000000 ∧ H q = some (.lst (l.map V.int)) ∧ l.length ≤ 20 ∧ (∀ x ∈ l, x ∈ P9) ∧ (∀ p, PrP p → (a % p = 0 ∨ b % p = 0) → p ∈ l) ∧
    ∀ (m : List Int) (t : Addr) (H' : Hp), PlacesOf a b m → Same H H' → H' t = some (.tup (m.map V.int)) → Q (.ref t) H'
def spDue : Sp := fun vs H Q _ => DueP vs H Q
theorem place9 {p : Int} (h : p ∈ L10) : p = 0 ∨ p = 2 ∨ ∃ q : Nat, p = q ∧ 3 ≤ q ∧ q ≤ 1000 ∧ euler q = true := by
  rcases good10 p h with e | ⟨_, e | ⟨q, e, h3, h4⟩⟩
  · exact .inl e
  · exact .inr (.inl e)
  · have : ∀ p ∈ L10, p ≤ 97 := by decide
    have := this p h
    exact .inr (.inr ⟨q, e, h3, by omega, h4⟩)
theorem ok_due (F : FnD K "_law_due" "_law_due" s_L_due f fd) (T : Glob mg) (C_L_own_sign : Cal P w K mg base 2 "_law_own_sign" ["_law_a", "_law_b", "_law_place"] spOwn) : FnOk P w K mg base CX0 3 f fd ["_law_a", "_law_b", "_law_primes"] spDue := by
  refine F.ok sc_L_due (fun vs H Q E h => ?_) (fun cdv A outer s H vs Q E hr h => ?_)
  · obtain ⟨a, b, q, l, rfl, _⟩ := h.ex; rfl
  · obtain ⟨a, b, q, l, rfl, a0, b0, a1, b1, hq, hl, h9, hdiv, qq⟩ := h.ex
    have hu := hu_of hr
    refine ⟨_, PSs.nox (pss_cons (ps_set (i := 3) sc_L_due.nd rfl (Or.inl rfl) (pe_callB (call_sortedDI rfl) (by rfl) T.m_sorted (by decide +kernel) (pa_cons (pe_callTy (call_dictP rfl) (by rfl) T.m_dict (by decide +kernel) (pa_cons (pe_lc rfl sc_L_due.nd (own := [("_law_place", 4)]) (pi_list (pe_op op_cat (pe_lst (pa_cons pe_int (pa_cons pe_int pa_nil))) (pv 2))) (blkOk_by (N := ["_law_a", "_law_b", "_law_primes", "_law_near", "_law_place"]) (sc := defScope s_L_due) (by decide +kernel)) (fun _ _ _ _ _ => pg_name (i := 4) sc_L_due.nd rfl (Or.inl rfl)) (fun _ _ _ _ _ => pts_nil) (fun _ _ _ _ _ => (pe_tup (pa_cons (pv 4) (pa_cons pe_bl pa_nil))))) pa_nil)) pa_nil)))
      (pss_one (ps_ret (pe_callTy call_tuple_of (by rfl) T.m_tuple (by decide +kernel) (pa_cons (pe_lc rfl sc_L_due.nd (own := [("_law_place", 4)]) (pi_list (pv 3)) (blkOk_by (N := ["_law_a", "_law_b", "_law_primes", "_law_near", "_law_place"]) (sc := defScope s_L_due) (by decide +kernel)) (fun _ _ _ _ _ => pg_name (i := 4) sc_L_due.nd rfl (Or.inl rfl)) (fun _ _ _ _ _ => pts_one (pt_cmp (pc_eqI (pe_cal C_L_own_sign (hr.mono (by decide)) (pa_cons (pv 0) (pa_cons (pv 1) (pa_cons (pv 4) pa_nil)))) (pe_un un_neg pe_int)))) (fun _ _ _ _ _ => (pv 4))) pa_nil))))), ?_⟩
    refine ⟨(by show 2 ≤ sizeLine; decide), fun c1 hc1 => ?_⟩
    have n1 : q ≠ c1 := ne_of_none hq hc1
    refine ⟨_, rfl, c1, q, _, _, rfl, rfl, upd_same, by rw [upd_ne n1]; exact hq, ?_, fun c2 hc2 => ?_⟩
    · refine Nat.le_trans (?_ : _ ≤ 50) (by decide)
      show 2 + (l.map V.int).length ≤ 50
      rw [List.length_map]
      omega
    have eX : [V.int 0, V.int 2] ++ l.map V.int = (0 :: 2 :: l).map V.int := rfl
    rw [eX]
    have k1 : Same H (upd (upd H c1 (.lst [.int 0, .int 2])) c2 (.lst ((0 :: 2 :: l).map V.int))) := (same_upd hc1).trans (same_upd hc2)
    refine ⟨c2, rfl, ⟨_, SqL.of upd_same⟩, fun D hD => ?_⟩
    have hDH : H D = none := k1.free hD
    have ncd : c2 ≠ D := fun z => by
      rw [← z, upd_same] at hD
      cases hD
    refine lc_list (K := K) (a := c2) (xs := (0 :: 2 :: l).map V.int) (fun i H' => Same H H' ∧ SqL K H' c2 ((0 :: 2 :: l).map V.int) ∧ ∃ ps : List Addr, H' D = some (.lst (ps.map V.ref)) ∧ Paired (fun p kv => H' p = some (.tup [kV kv.1, kv.2])) ps (((0 :: 2 :: l).take i).map kvT)) ⟨k1.trans (same_upd hD), sq_upd (SqL.of upd_same) ncd, [], upd_same, .nil⟩ (fun i H' _ hp => hp.2.1) (fun i v H' hv hp => ?_) (fun H' hp => ?_)
    · obtain ⟨e5, hL, ps, hDp, hps⟩ := hp
      obtain ⟨k, hk, rfl⟩ := int_at hv
      refine ⟨rfl, ?_⟩
      refine ⟨_, rfl, (by show 2 ≤ sizeLine; decide), fun t ht => ?_⟩
      have nDt : D ≠ t := ne_of_none hDp ht
      refine ⟨ps.map V.ref, by rw [upd_ne nDt]; exact hDp, ?_, ?_, ?_, ps ++ [t], ?_, ?_⟩
      · rw [List.length_map, Paired.length hps, List.length_map]
        have : ((0 :: 2 :: l).take i).length ≤ (0 :: 2 :: l).length := List.length_take_le' _ _
        simp only [List.length_cons] at this
        exact Nat.lt_of_le_of_lt (by omega : _ ≤ 50) (by decide)
      · intro b' o e
        rw [upd_ne (ne_of_none e hDH)]
        exact same_upd ht _ _ (e5 _ _ e)
      · exact sq_upd ((same_upd ht).seq hL) ncd
      · rw [upd_same, List.map_append]; rfl
      · rw [List.take_add_one, hk, List.map_append]
        refine Paired.snoc (Paired.mono (fun p kv e => ?_) hps) ?_
        · rw [upd_ne (fun z => by rw [z, hDp] at e; cases e)]
          exact same_upd ht _ _ e
        · rw [upd_ne nDt.symm, upd_same]; rfl
    · obtain ⟨e5, hL, ps, hDp, hps⟩ := hp
      rw [List.length_map, List.take_length] at hps
      refine ⟨D, ps, (0 :: 2 :: l).map kvT, rfl, SqL.of hDp, Paired.mono (fun p kv e => SqT.of e) hps, fun d hd => ?_⟩
      obtain ⟨ms, m1, m2, m3⟩ := merge_keys (0 :: 2 :: l) [] [] rfl List.nodup_nil
      have mlen : ms.length ≤ 30 := by
        have e := congrArg List.length m1
        rw [List.length_map, List.length_map] at e
        have := length_mergeK ((0 :: 2 :: l).map kvT) []
        rw [List.length_map] at this
        simp only [List.length_cons, List.length_nil] at this
        omega
      refine ⟨d, _, ms, rfl, .inl upd_same, m1, by omega, fun ys z hp hpw hz => ?_⟩
      have e6 : Same H (upd (upd H' d (.dK (mergeK [] ((0 :: 2 :: l).map kvT)))) z (.lst (ys.map V.int))) := (e5.trans (same_upd hd)).trans (same_upd hz)
      have ysS := strict_of hpw (hp.nodup_iff.mpr m2)
      have ysm : ∀ x, x ∈ ys ↔ x ∈ 0 :: 2 :: l := fun x => by rw [hp.mem_iff, m3]; simp
      have ysL : ∀ x ∈ ys, x ∈ L10 := fun x hx => by
        rcases List.mem_cons.mp ((ysm x).mp hx) with e | e
        · rw [e]; decide
        · rcases List.mem_cons.mp e with e | e
          · rw [e]; decide
          · exact List.mem_cons_of_mem 0 (h9 x e)
      refine ⟨_, rfl, z, rfl, ⟨_, SqL.of upd_same⟩, fun D2 hD2 => ?_⟩
      have hDH2 : H D2 = none := e6.free hD2
      have nzd : z ≠ D2 := fun y => by
        rw [← y, upd_same] at hD2
        cases hD2
      refine lc_list (K := K) (a := z) (xs := ys.map V.int) (fun i H' => Same H H' ∧ SqL K H' z (ys.map V.int) ∧ ∃ m : List Int, H' D2 = some (.lst (m.map V.int)) ∧ m.Sublist (ys.take i) ∧ ∀ k, k ∈ m ↔ k ∈ ys.take i ∧ HSign a b k (-1)) ⟨e6.trans (same_upd hD2), sq_upd (SqL.of upd_same) nzd, [], upd_same, List.Sublist.refl _, fun k => ⟨fun z => (by cases z), fun z => absurd z.1 (by simp)⟩⟩ (fun i H' _ hp => hp.2.1) (fun i v H' hv hp => ?_) (fun H' hp => ?_)
      · obtain ⟨e5, hL, m, hmd, msub, hmm⟩ := hp
        obtain ⟨k, hk, rfl⟩ := int_at hv
        have kL := ysL k (List.mem_of_getElem? hk)
        have kP := pl10 kL
        have et : ys.take (i + 1) = ys.take i ++ [k] := by rw [List.take_add_one, hk]; rfl
        refine ⟨rfl, _, rfl, _, rfl, _, rfl, ⟨a, b, k, rfl, a0, b0, a1, b1, place9 kL, fun r H6 hr e6 => ?_⟩⟩
        refine ⟨1, rfl, _, _, rfl, rfl, _, rfl, ifd (fun h => ?_) (fun h => ?_)⟩
        · have h : r = -1 := h
          subst h
          refine ⟨_, rfl, m.map V.int, e6 _ _ hmd, ?_, ?_, sq_upd (e6.seq hL) nzd, m ++ [k], ?_, ?_, fun j => ?_⟩
          · rw [List.length_map]
            have h1 := msub.length_le
            have h2 : (ys.take i).length ≤ ys.length := List.length_take_le' _ _
            have h3 := hp.length_eq
            exact Nat.lt_of_le_of_lt (by omega : m.length ≤ 70) (by decide)
          · intro b' o e
            rw [upd_ne (ne_of_none e hDH2)]
            exact e6 _ _ (e5 _ _ e)
          · rw [upd_same, List.map_append]; rfl
          · rw [et]
            exact msub.append (List.Sublist.refl _)
          · rw [et, List.mem_append, List.mem_append, hmm, List.mem_singleton]
            constructor
            · rintro (h | h)
              · exact ⟨.inl h.1, h.2⟩
              · exact ⟨.inr h, h ▸ hr⟩
            · rintro ⟨h | h, h2⟩
              · exact .inl ⟨h, h2⟩
              · exact .inr h
        · refine ⟨e5.trans e6, e6.seq hL, m, e6 _ _ hmd, ?_, fun j => ?_⟩
          · rw [et]
            exact msub.trans (List.sublist_append_left _ _)
          · rw [et, List.mem_append, hmm, List.mem_singleton]
            constructor
            · rintro h
              exact ⟨.inl h.1, h.2⟩
            · rintro ⟨h1 | h1, h2⟩
              · exact ⟨h1, h2⟩
              · subst h1
                exact absurd (hsign_unique kP hr h2) h
      · obtain ⟨e5, hL, m, hmd, msub, hmm⟩ := hp
        rw [List.length_map, List.take_length] at msub hmm
        refine ⟨D2, m.map V.int, rfl, .inl ⟨SqL.of hmd, fun t ht => ?_⟩⟩
        refine qq m t _ (places_sub ysS (fun k hk => pl10 (ysL k hk)) (fun p hp hn => ?_) msub hmm) (e5.trans (same_upd ht)) upd_same
        rw [ysm]
        rcases neg_place hp hn with e | e | ⟨hp, e⟩
        · rw [e]; exact List.mem_cons_self
        · rw [e]; exact List.mem_cons_of_mem _ List.mem_cons_self
        · exact List.mem_cons_of_mem _ (List.mem_cons_of_mem _ (hdiv p hp e))
end
end Sf

namespace Sf
open PySem PySem.Spec PyProof.Rows L2
theorem sf_square {n : Int} {l : List (Int × Nat)} (h : FactOf (absI n) l) : n = (if 0 < n then oddF l else -oddF l) * (rootF l * rootF l) ∧ rootF l ≠ 0 ∧ (if 0 < n then oddF l else -oddF l).natAbs ≤ n.natAbs ∧ (if 0 < n then oddF l else -oddF l) ≠ 0 := by
  have e := odd_root l
  have b := oddF_bound h.2.2
  have r := (rootF_bound h.2.2).1
  rw [h.1] at e b
  have e2 : oddF l * (rootF l * rootF l) = absI n := by rw [← e, Int.mul_assoc]
  have ab : absI n = if n < 0 then -n else n := rfl
  refine ⟨?_, by omega, ?_, ?_⟩
  · split
    · rw [e2, ab, if_neg (by omega)]
    · rw [Int.neg_mul, e2, ab]
      split <;> omega
  · have : absI n = n.natAbs := by rw [ab]; split <;> omega
    split <;> omega
  · split <;> omega
/-- the pairs without squares have the same places -/
theorem sf_places {a b x y k j : Int} {la lb l l' : List Int} (ha : Made a la) (hb : Made b lb) (ea : a = x * (k * k)) (eb : b = y * (j * j)) (x0 : x ≠ 0) (y0 : y ≠ 0) (k0 : k ≠ 0) (j0 : j ≠ 0) (h1 : PlacesOf a b l) (h2 : PlacesOf x y l') : l = l' := by
  have a0 := made_ne ha
  have b0 := made_ne hb
  refine places_same a0 b0 (fun p r hp h => ?_) h1 h2
  rcases hp with p0 | hp
  · rcases h with ⟨_, e⟩ | ⟨n, _⟩
    · refine .inl ⟨p0, ?_⟩
      have sg : ∀ {c z m : Int}, c = z * (m * m) → m ≠ 0 → (c < 0 ↔ z < 0) := fun {c z m} e m0 => by
        have kk : 0 < m * m := by
          rcases Int.lt_or_gt_of_ne m0 with c | c
          · exact Int.mul_pos_of_neg_of_neg c c
          · exact Int.mul_pos c c
        rw [e]
        constructor
        · intro w
          by_cases c : z < 0
          · exact c
          · have := Int.mul_nonneg (a := z) (b := m * m) (by omega) (by omega)
            omega
        · exact fun w => Int.mul_neg_of_neg_of_pos w kk
      have s1 := sg ea k0
      have s2 := sg eb j0
      rw [e]
      simp only [s1, s2]
    · exact absurd p0 n
  · have p2 := hp.1
    by_cases c : p = 2 ∨ a % p = 0 ∨ b % p = 0
    · have g : GoodPl p := by
        rcases c with c | c | c
        · exact good_of ha hp (.inl c)
        · exact good_of ha hp (.inr c)
        · exact good_of hb hp (.inr c)
      obtain ⟨_, he⟩ := g.resolve_left (by omega)
      exact hsign_bare hp he ⟨k, k0, ea⟩ ⟨j, j0, eb⟩ x0 y0 h
    · have n2 : p ≠ 2 := fun z => c (.inl z)
      have na : a % p ≠ 0 := fun z => c (.inr (.inl z))
      have nb : b % p ≠ 0 := fun z => c (.inr (.inr z))
      have er := sign_far hp n2 na nb h
      have dv : ∀ {c z m : Int}, c = z * (m * m) → c % p ≠ 0 → z % p ≠ 0 := fun {c z m} e hc w => hc (by rw [e]; exact Int.emod_eq_zero_of_dvd (Int.dvd_trans (Int.dvd_of_emod_eq_zero w) (Int.dvd_mul_right _ _)))
      obtain ⟨r', hr'⟩ := hsign_some x0 y0 (.inr hp)
      rw [er, ← sign_far hp n2 (dv ea na) (dv eb nb) hr']
      exact hr'
section
variable {P : Program} {w : World} {K : PySem.W.Frag} {mg : Str → Option Value} {base : Heap} {f : Addr} {fd : FuncData}
structure PairP (vs : List V) (H : Hp) (Q : VK) : Prop where
  ex : ∃ (a b : Int) (q : Addr) (la lb : List Int), vs = [.int a, .int b, .ref q] ∧ Made a la ∧ Made b lb ∧ a.natAbs ≤ 1000000000 ∧ b.natAbs ≤ 1000000000 ∧ H q = some (.lst ((la ++ lb).map V.int)) ∧ la.length ≤ 5 ∧ lb.length ≤ 5 ∧ ∀ H', Same H H' → Q (.bl true) H'
def spPair : Sp := fun vs H Q _ => PairP vs H Q
theorem tup_dp {K : PySem.W.Frag} {H : Hp} {t : Addr} {l : List Int} (h : H t = some (.tup (l.map V.int))) : Dp K H (.ref t) (.tuple (l.map PyData.int)) := dp_tup (SqT.of h)
theorem ok_pair_right (F : FnD K "_law_pair_right" "_law_pair_right" s_L_pair_right f fd) (T : Glob mg) (C_P_signed_places : Cal P w K mg base 5 "signed_places" ["a", "b"] spPlaces) (C_L_due : Cal P w K mg base 3 "_law_due" ["_law_a", "_law_b", "_law_primes"] spDue) (C_P_square_free : Cal P w K mg base 4 "square_free" ["number"] spSquareFree) :
    FnOk P w K mg base CX0 6 f fd ["_law_a", "_law_b", "_law_primes"] spPair := by
  refine F.ok sc_L_pair_right (fun vs H Q E h => ?_) (fun cdv A outer s H vs Q E hr h => ?_)
  · obtain ⟨a, b, q, la, lb, rfl, _⟩ := h.ex; rfl
  · obtain ⟨a, b, q, la, lb, rfl, ha, hb, a1, b1, hq, hla, hlb, qq⟩ := h.ex
    have a0 := made_ne ha
    have b0 := made_ne hb
    refine ⟨_, PSs.nox (pss_cons (ps_set (i := 3) sc_L_pair_right.nd rfl (Or.inl rfl) (pe_cal C_P_signed_places (hr.mono (by decide)) (pa_cons (pv 0) (pa_cons (pv 1) pa_nil))))
      (pss_cons (ps_if (PW.pt (pw_or (pt_cmpR (op_neD hr.units) (pv 3) (pe_cal C_L_due (hr.mono (by decide)) (pa_cons (pv 0) (pa_cons (pv 1) (pa_cons (pv 2) pa_nil)))) (nomark _)) (pw_or (pt_cmp (pc_neI (pe_op op_mod (pe_callB call_len_seq (by rfl) T.m_len (by decide +kernel) (pa_cons (pv 3) pa_nil)) pe_int) pe_int)) (pw_or1 (pt_cmpR (op_neD hr.units) (pe_cal C_P_signed_places (hr.mono (by decide)) (pa_cons (pv 1) (pa_cons (pv 0) pa_nil))) (pv 3) (nomark _)))))) (pss_one (ps_ret pe_bl)) pss_nil)
      (pss_one (ps_ret (pe_and (pe_cmpR (op_eqD hr.units) (pe_cal C_P_signed_places (hr.mono (by decide)) (pa_cons (pe_cal C_P_square_free (hr.mono (by decide)) (pa_cons (pv 0) pa_nil)) (pa_cons (pe_cal C_P_square_free (hr.mono (by decide)) (pa_cons (pv 1) pa_nil)) pa_nil))) (pv 3) (nomark _)) (pe_one (pe_cmpR (op_eqD hr.units) (pe_cal C_P_signed_places (hr.mono (by decide)) (pa_cons (pv 0) (pa_cons (pe_op op_sub pe_int (pv 0)) pa_nil))) (pe_tup pa_nil) (nomark _)))))))), ?_⟩
    refine ⟨_, rfl, _, rfl, ⟨a, b, rfl, a0, b0, a1, b1, fun lt pt H1 hpl hlen e1 hn1 ht1 => ?_⟩⟩
    refine ⟨_, rfl, _, rfl, _, rfl, _, rfl, ⟨a, b, q, la ++ lb, rfl, a0, b0, a1, b1, e1 _ _ hq, ?_, ?_, ?_, fun m tm H2 hm e2 htm => ?_⟩⟩
    · rw [List.length_append]; omega
    · intro x hx
      rcases List.mem_append.mp hx with hx | hx
      · exact ha.1 x hx
      · exact hb.1 x hx
    · rintro p hp (d | d)
      · exact List.mem_append_left _ (made_prime ha hp d)
      · exact List.mem_append_right _ (made_prime hb hp d)
    have em := places_unique hm hpl
    subst em
    refine ⟨_, _, tup_dp (e2 _ _ ht1), tup_dp htm, shp_tup _, shp_tup _, _, rfl, ?_⟩
    rw [eqv_tups, decide_eq_true rfl]
    refine ⟨_, rfl, pt, _, rfl, .inr (SqT.of (e2 _ _ ht1)), _, _, rfl, rfl, (by show (0 : Int) < 2; decide), _, _, rfl, rfl, _, rfl, ?_⟩
    have ev := even_places ha hb hpl
    refine ifn (fun h => absurd ?_ h) (fun _ => ?_)
    · show (((m.map V.int).length : Nat) : Int) % 2 = 0
      rw [List.length_map]
      omega
    refine ⟨_, rfl, _, rfl, ⟨b, a, rfl, b0, a0, b1, a1, fun l3 t3 H3 hp3 hlen3 e3 hn3 ht3 => ?_⟩⟩
    have em := places_same b0 a0 (fun p r _ h => hsign_comm h) hp3 hpl
    subst em
    refine ⟨_, rfl, _, _, tup_dp ht3, tup_dp (e3 _ _ (e2 _ _ ht1)), shp_tup _, shp_tup _, _, rfl, ?_⟩
    rw [eqv_tups, decide_eq_true rfl]
    refine ⟨_, rfl, a, rfl, a0, by omega, by omega, fun f1 H4 hf1 e4 => ?_⟩
    refine ⟨_, rfl, b, rfl, b0, by omega, by omega, fun f2 H5 hf2 e5 => ?_⟩
    obtain ⟨g1, g2, g3, g4⟩ := sf_square hf1
    obtain ⟨k1, k2, k3, k4⟩ := sf_square hf2
    refine ⟨⟨_, _, rfl, g4, k4, by omega, by omega, fun l6 t6 H6 hp6 hlen6 e6 hn6 ht6 => ?_⟩⟩
    have em := sf_places ha hb g1 k1 g4 k4 g2 k2 hpl hp6
    subst em
    refine ⟨_, rfl, _, _, tup_dp ht6, tup_dp (e6 _ _ (e5 _ _ (e4 _ _ (e3 _ _ (e2 _ _ ht1))))), shp_tup _, shp_tup _, ?_⟩
    rw [eqv_tups, decide_eq_true rfl]
    refine ⟨_, rfl, ?_⟩
    refine ⟨_, rfl, _, rfl, _, _, rfl, rfl, ⟨a, -a, by show [V.int a, V.int (0 - a)] = [V.int a, V.int (-a)]; rw [Int.zero_sub], a0, by omega, a1, by omega, fun l7 t7 H7 hp7 hlen7 e7 hn7 ht7 => ?_⟩⟩
    have em : l7 = [] := places_none (fun p r hp h => ?_) hp7
    · subst em
      refine ⟨(by show 0 ≤ sizeLine; decide), fun t8 ht8 => ?_⟩
      refine ⟨_, _, tup_dp (l := []) ?_, tup_dp (l := []) upd_same, shp_tup _, shp_tup _, ?_⟩
      · rw [upd_ne (ne_of_none ht7 ht8)]
        exact ht7
      · rw [eqv_tups, decide_eq_true rfl]
        exact qq _ (((((((e1.trans e2).trans e3).trans e4).trans e5).trans e6).trans e7).trans (same_upd ht8))
    · rcases hp with p0 | hp
      · exact hs_neg (.inl p0) a0 h
      · by_cases c : p = 2 ∨ a % p = 0
        · exact hs_neg (good_of ha hp c) a0 h
        · have n2 : p ≠ 2 := fun z => c (.inl z)
          have na : a % p ≠ 0 := fun z => c (.inr z)
          exact sign_far hp n2 na (fun z => na (Int.emod_eq_zero_of_dvd ((Int.dvd_neg).mp (Int.dvd_of_emod_eq_zero z)))) h
structure ProdsP (vs : List V) (H : Hp) (Q : VK) : Prop where
  ex : ∃ (a b c : Int) (q : Addr) (l : List Int), vs = [.int a, .int b, .int c, .ref q] ∧ a ≠ 0 ∧ b ≠ 0 ∧ c ≠ 0 ∧ a.natAbs ≤ 1000000000 ∧ b.natAbs ≤ 30000 ∧ c.natAbs ≤ 30000 ∧ H q = some (.lst (l.map V.int)) ∧ (∀ x ∈ l, x ∈ P9) ∧ l.length ≤ 20 ∧ ∀ H', Same H H' → Q (.bl true) H'
def spProds : Sp := fun vs H Q _ => ProdsP vs H Q
theorem ok_products_right (F : FnD K "_law_products_right" "_law_products_right" s_L_products_right f fd) (C_P_sign_at : Cal P w K mg base 5 "sign_at" ["a", "b", "place"] spSign) :
    FnOk P w K mg base CX0 6 f fd ["_law_a", "_law_b", "_law_c", "_law_primes"] spProds := by
  refine F.ok sc_L_products_right (fun vs H Q E h => ?_) (fun cdv A outer s H vs Q E hr h => ?_)
  · obtain ⟨a, b, c, q, l, rfl, _⟩ := h.ex; rfl
  · obtain ⟨a, b, c, q, l, rfl, a0, b0, c0, a1, b1, c1, hq, h9, hl, qq⟩ := h.ex
    refine ⟨_, PSs.nox (pss_cons (ps_for PassesOwn.never rfl (pi_list (pe_op op_cat (pe_lst (pa_cons pe_int (pa_cons pe_int (pa_cons pe_int (pa_cons pe_int pa_nil))))) (pv 3))) (pg_name (i := 4) sc_L_products_right.nd rfl (Or.inl rfl)) (pss_one (ps_if (pt_cmp (pc_neI (pe_cal C_P_sign_at (hr.mono (by decide)) (pa_cons (pv 0) (pa_cons (pe_op op_mulW (pv 1) (pv 2)) (pa_cons (pv 4) pa_nil)))) (pe_op op_mulW (pe_cal C_P_sign_at (hr.mono (by decide)) (pa_cons (pv 0) (pa_cons (pv 1) (pa_cons (pv 4) pa_nil)))) (pe_cal C_P_sign_at (hr.mono (by decide)) (pa_cons (pv 0) (pa_cons (pv 2) (pa_cons (pv 4) pa_nil))))))) (pss_one (ps_ret pe_bl)) pss_nil)))
      (pss_one (ps_ret pe_bl))), ?_⟩
    refine ⟨(by show 4 ≤ sizeLine; decide), fun d1 hd1 => ?_⟩
    have n1 : q ≠ d1 := ne_of_none hq hd1
    refine ⟨_, rfl, d1, q, _, _, rfl, rfl, upd_same, by rw [upd_ne n1]; exact hq, ?_, fun d2 hd2 => ?_⟩
    · refine Nat.le_trans (?_ : _ ≤ 50) (by decide)
      show 4 + (l.map V.int).length ≤ 50
      rw [List.length_map]
      omega
    have eX : [V.int 0, V.int 2, V.int 3, V.int 5] ++ l.map V.int = (0 :: 2 :: 3 :: 5 :: l).map V.int := rfl
    rw [eX]
    have k1 : Same H (upd (upd H d1 (.lst [.int 0, .int 2, .int 3, .int 5])) d2 (.lst ((0 :: 2 :: 3 :: 5 :: l).map V.int))) := (same_upd hd1).trans (same_upd hd2)
    have bc : (b * c).natAbs ≤ 900000000 := small_mul (A := 30000) (B := 30000) (by omega) (by omega)
    refine ⟨d2, rfl, ⟨_, SqL.of upd_same⟩, for_list (K := K) (a := d2) (xs := (0 :: 2 :: 3 :: 5 :: l).map V.int) (fun i σ H' => ∃ v, σ = [some (.int a), some (.int b), some (.int c), some (.ref q), v] ∧ Same H H' ∧ SqL K H' d2 ((0 :: 2 :: 3 :: 5 :: l).map V.int)) ⟨none, rfl, k1, SqL.of upd_same⟩ (fun i σ H' _ ⟨_, _, _, e⟩ => e) ?_ ?_⟩
    · rintro i v σ H' hv ⟨v0, rfl, e0, hL⟩
      obtain ⟨k, hk, rfl⟩ := int_at hv
      have kL : k ∈ L10 := by
        have hm := List.mem_of_getElem? hk
        have cases : k = 0 ∨ k = 2 ∨ k = 3 ∨ k = 5 ∨ k ∈ l := by simpa using hm
        rcases cases with e | e | e | e | e
        · rw [e]; decide
        · rw [e]; decide
        · rw [e]; decide
        · rw [e]; decide
        · exact List.mem_cons_of_mem 0 (h9 k e)
      have kp : k = 0 ∨ PrP k ∧ k ≤ 1000000000 := (pl10 kL).imp id fun z => ⟨z, by
        have : ∀ p ∈ L10, p ≤ 97 := by decide
        have := this k kL
        omega⟩
      refine ⟨_, rfl, _, rfl, _, rfl, _, _, rfl, rfl, CMulW.of (lt3000s (by omega) (by omega)) (lt3000s (by omega) (by omega)), _, rfl, ⟨a, b * c, k, rfl, a0, Int.mul_ne_zero b0 c0, a1, by omega, kp, fun r1 H1 g1 e1 => ?_⟩⟩
      refine ⟨_, rfl, _, rfl, _, rfl, ⟨a, b, k, rfl, a0, b0, a1, by omega, kp, fun r2 H2 g2 e2 => ?_⟩⟩
      refine ⟨_, rfl, _, rfl, _, rfl, ⟨a, c, k, rfl, a0, c0, a1, by omega, kp, fun r3 H3 g3 e3 => ?_⟩⟩
      have p2 := hsign_sq (pl10 kL) g2
      have p3 := hsign_sq (pl10 kL) g3
      refine ⟨_, _, rfl, rfl, CMulW.of (lt3000s (by omega) (by omega)) (lt3000s (by omega) (by omega)), _, _, rfl, rfl, _, rfl, ifn (fun h => absurd (hsign_unique (pl10 kL) g1 (hsign_mul (good10 k kL) b0 c0 g2 g3)) h) (fun _ => ?_)⟩
      exact ⟨_, rfl, ((e0.trans e1).trans e2).trans e3, (((e1.trans e2).trans e3).seq hL)⟩
    · rintro σ H' ⟨v0, rfl, e0, hL⟩
      exact qq _ e0
end
end Sf

namespace Sf
open PySem PySem.Spec PyProof.Rows L2
/-- the places by a list of the primes, with what is stripped -/
def PlD := List (Int × Nat × Nat × Int × Int)
def okD (a b : Int) (D : List (Int × Nat × Nat × Int × Int)) : Bool :=
  D.all (fun e => decide (2 ≤ e.1 ∧ a = e.1 ^ e.2.1 * e.2.2.2.1 ∧ e.2.2.2.1 % e.1 ≠ 0 ∧ b = e.1 ^ e.2.2.1 * e.2.2.2.2 ∧ e.2.2.2.2 % e.1 ≠ 0)) &&
  decide (a = prodI (D.map fun e => e.1 ^ e.2.1) ∨ a = -prodI (D.map fun e => e.1 ^ e.2.1)) && decide (b = prodI (D.map fun e => e.1 ^ e.2.2.1) ∨ b = -prodI (D.map fun e => e.1 ^ e.2.2.1)) && (D.any fun e => e.1 == 2)
def plD (a b : Int) (D : List (Int × Nat × Nat × Int × Int)) : List Int := (if a < 0 ∧ b < 0 then [0] else []) ++ (D.filter fun e => decide (sgnAt e.1 e.2.1 e.2.2.1 e.2.2.2.1 e.2.2.2.2 = -1)).map (·.1)
theorem prod_div {p : Int} (hp : PrP p) {α : Type} {f : α → Int} {g : α → Nat} : ∀ {D : List α}, (∀ e ∈ D, PrP (f e)) → p ∣ prodI (D.map fun e => f e ^ g e) → ∃ e ∈ D, f e = p
  | [], _, d => absurd d (prime_one hp)
  | x :: D, h, d => by
    rcases prime_mul hp (show p ∣ f x ^ g x * prodI (D.map fun e => f e ^ g e) from d) with d | d
    · exact ⟨x, List.mem_cons_self, (prime_dvd_prime hp (h x List.mem_cons_self) (prime_pow hp d)).symm⟩
    · obtain ⟨e, he, h2⟩ := prod_div hp (fun e he => h e (List.mem_cons_of_mem _ he)) d
      exact ⟨e, List.mem_cons_of_mem _ he, h2⟩
theorem places_by {a b : Int} {l : List Int} (D : List (Int × Nat × Nat × Int × Int)) (h : okD a b D = true) (hP : ∀ e ∈ D, PrP e.1) (hl : (plD a b D).Pairwise (· < ·)) (h1 : PlacesOf a b l) : l = plD a b D := by
  unfold okD at h
  rw [Bool.and_eq_true, Bool.and_eq_true, Bool.and_eq_true, List.all_eq_true] at h
  obtain ⟨⟨⟨k1, k2⟩, k3⟩, k4⟩ := h
  have hs : ∀ e ∈ D, HSign a b e.1 (sgnAt e.1 e.2.1 e.2.2.1 e.2.2.2.1 e.2.2.2.2) := fun e he => by
    obtain ⟨z0, z1, z2, z3, z4⟩ := of_decide_eq_true (k1 e he)
    exact .inr ⟨by omega, _, _, _, _, ⟨z1, z2⟩, ⟨z3, z4⟩, rfl⟩
  have sub : ∀ {n : Int} {g : Int × Nat × Nat × Int × Int → Nat} {p : Int}, PrP p → (n = prodI (D.map fun e => e.1 ^ g e) ∨ n = -prodI (D.map fun e => e.1 ^ g e)) → n % p = 0 → ∃ e ∈ D, e.1 = p := fun {n g p} hp e d => by
    refine prod_div hp hP ?_ (g := g)
    have d := Int.dvd_of_emod_eq_zero d
    rcases e with e | e
    · rw [← e]; exact d
    · exact (Int.dvd_neg).mp (by rw [← e]; exact d)
  have far : ∀ {p : Int}, PrP p → HSign a b p (-1) → ∃ e ∈ D, e.1 = p := fun {p} hp hn => by
    rcases neg_place (.inr hp) hn with e | e | ⟨_, e | e⟩
    · have := hp.1; omega
    · obtain ⟨x, hx, e2⟩ := List.any_eq_true.mp k4
      exact ⟨x, hx, (eq_of_beq e2).trans e.symm⟩
    · exact sub hp (of_decide_eq_true k2) e
    · exact sub hp (of_decide_eq_true k3) e
  refine asc_unique h1.1 hl fun p => ?_
  rw [h1.2]
  unfold plD
  rw [List.mem_append, List.mem_map]
  constructor
  · rintro ⟨hp, hn⟩
    rcases hp with p0 | hp
    · left
      rcases hn with ⟨_, e⟩ | ⟨n, _⟩
      · by_cases c : a < 0 ∧ b < 0
        · rw [if_pos c, p0]; exact List.mem_cons_self
        · rw [if_neg c] at e
          exact absurd e (by decide)
      · exact absurd p0 n
    · right
      obtain ⟨e, he, rfl⟩ := far hp hn
      refine ⟨e, List.mem_filter.mpr ⟨he, ?_⟩, rfl⟩
      rw [decide_eq_true_iff]
      exact hsign_unique (.inr hp) (hs e he) hn
  · rintro (hz | ⟨e, he, rfl⟩)
    · by_cases c : a < 0 ∧ b < 0
      · rw [if_pos c, List.mem_singleton] at hz
        exact ⟨.inl hz, .inl ⟨hz, by rw [if_pos c]⟩⟩
      · rw [if_neg c] at hz
        cases hz
    · obtain ⟨he, e2⟩ := List.mem_filter.mp he
      refine ⟨.inr (hP e he), ?_⟩
      rw [← of_decide_eq_true e2]
      exact hs e he
section
variable {P : Program} {w : World} {K : PySem.W.Frag} {mg : Str → Option Value} {base : Heap} {f : Addr} {fd : FuncData}
def spLaw (K : PySem.W.Frag) : Sp := fun vs H Q _ => ∃ (a : Addr) (ns : List Int), vs = [.ref a] ∧ SqL K H a (ns.map V.int) ∧ ns.length ≤ 63 ∧ ∀ H', Q (.bl true) H'
theorem keep_lst {p q : Addr} {H H' : Hp} {o : HO} (k : Keep p H H') (n : q ≠ p) (h : H q = some o) : H' q = some o := k q o h n
set_option maxHeartbeats 16000000 in
theorem ok_law (F : FnD K "law" "law" s_L_law f fd) (T : Glob mg) (C_L_sack : Cal P w K mg base 1 "_law_sack" ["_law_script", "_law_turn"] (spSack K)) (C_L_take : Cal P w K mg base 1 "_law_take" ["_law_sack_here", "_law_many"] spTake)
    (C_L_made : Cal P w K mg base 3 "_law_made" ["_law_sack_here", "_law_most"] spMade) (C_L_pair_right : Cal P w K mg base 6 "_law_pair_right" ["_law_a", "_law_b", "_law_primes"] spPair) (C_L_products_right : Cal P w K mg base 6 "_law_products_right" ["_law_a", "_law_b", "_law_c", "_law_primes"] spProds) (C_P_signed_places : Cal P w K mg base 5 "signed_places" ["a", "b"] spPlaces) :
    FnOk P w K mg base CX0 7 f fd ["_law_script"] (spLaw K) := by
  refine F.ok sc_L_law (fun vs H Q E h => ?_) (fun cdv A outer s H vs Q E hr h => ?_)
  · obtain ⟨a, ns, rfl, _⟩ := h; rfl
  · obtain ⟨a, ns, rfl, hS, hl, q⟩ := h
    refine ⟨_, PSs.nox (pss_cons (ps_for PassesOwn.never rfl (pi_range1 (by rfl) T.m_range (pa_cons (pe_callB (call_max2 rfl) (by rfl) T.m_max (by decide +kernel) (pa_cons pe_int (pa_cons (pe_callB (call_min2 rfl) (by rfl) T.m_min (by decide +kernel) (pa_cons pe_int (pa_cons (pe_callB call_len_seq (by rfl) T.m_len (by decide +kernel) (pa_cons (pv 0) pa_nil)) pa_nil))) pa_nil))) pa_nil)) (pg_name (i := 1) sc_L_law.nd rfl (Or.inl rfl)) (pss_cons (ps_set (i := 2) sc_L_law.nd rfl (Or.inl rfl) (pe_cal C_L_sack (hr.mono (by decide)) (pa_cons (pv 0) (pa_cons (pv 1) pa_nil))))
      (pss_cons (ps_asg (pe_cal C_L_made (hr.mono (by decide)) (pa_cons (pv 2) (pa_cons (pe_op op_powW pe_int pe_int) pa_nil))) (pg_tup (by rfl) (pgs_cons (pg_name (i := 3) sc_L_law.nd rfl (Or.inl rfl)) (pgs_cons (pg_name (i := 4) sc_L_law.nd rfl (Or.inl rfl)) pgs_nil))))
      (pss_cons (ps_asg (pe_cal C_L_made (hr.mono (by decide)) (pa_cons (pv 2) (pa_cons pe_int pa_nil))) (pg_tup (by rfl) (pgs_cons (pg_name (i := 5) sc_L_law.nd rfl (Or.inl rfl)) (pgs_cons (pg_name (i := 6) sc_L_law.nd rfl (Or.inl rfl)) pgs_nil))))
      (pss_cons (ps_asg (pe_cal C_L_made (hr.mono (by decide)) (pa_cons (pv 2) (pa_cons pe_int pa_nil))) (pg_tup (by rfl) (pgs_cons (pg_name (i := 7) sc_L_law.nd rfl (Or.inl rfl)) (pgs_cons (pg_name (i := 8) sc_L_law.nd rfl (Or.inl rfl)) pgs_nil))))
      (pss_cons (ps_if (PW.pt (pw_or (pt_not (pt_val (pe_cal C_L_pair_right (hr.mono (by decide)) (pa_cons (pv 3) (pa_cons (pv 5) (pa_cons (pe_op op_cat (pv 4) (pv 6)) pa_nil)))))) (pw_or1 (pt_not (pt_val (pe_cal C_L_products_right (hr.mono (by decide)) (pa_cons (pv 3) (pa_cons (pv 5) (pa_cons (pv 7) (pa_cons (pe_op op_cat (pe_op op_cat (pv 4) (pv 6)) (pv 8)) pa_nil)))))))))) (pss_one (ps_ret pe_bl)) pss_nil)
      (pss_cons (ps_set (i := 9) sc_L_law.nd rfl (Or.inl rfl) (pe_op op_add pe_int (pe_cal C_L_take (hr.mono (by decide)) (pa_cons (pv 2) (pa_cons pe_int pa_nil)))))
      (pss_cons (ps_if (pt_cmpR (op_neD hr.units) (pe_cal C_P_signed_places (hr.mono (by decide)) (pa_cons (pe_op op_mulW (pe_op op_mulW (pv 5) (pv 9)) (pv 9)) (pa_cons (pv 7) pa_nil))) (pe_cal C_P_signed_places (hr.mono (by decide)) (pa_cons (pv 5) (pa_cons (pv 7) pa_nil))) (nomark _)) (pss_one (ps_ret pe_bl)) pss_nil)
      (pss_one (ps_if (PW.pt (pw_and (pt_cmp (pc_neI (pv 5) pe_int)) (pw_and1 (pt_cmpR (op_neD hr.units) (pe_cal C_P_signed_places (hr.mono (by decide)) (pa_cons (pv 5) (pa_cons (pe_op op_sub pe_int (pv 5)) pa_nil))) (pe_tup pa_nil) (nomark _))))) (pss_one (ps_ret pe_bl)) pss_nil))))))))))
      (pss_cons (ps_set (i := 10) sc_L_law.nd rfl (Or.inl rfl) (pe_lst (pa_cons (pe_cal C_P_signed_places (hr.mono (by decide)) (pa_cons (pe_un un_neg pe_int) (pa_cons (pe_un un_neg pe_int) pa_nil))) (pa_cons (pe_cal C_P_signed_places (hr.mono (by decide)) (pa_cons (pe_un un_neg pe_int) (pa_cons (pe_un un_neg pe_int) pa_nil))) (pa_cons (pe_cal C_P_signed_places (hr.mono (by decide)) (pa_cons pe_int (pa_cons pe_int pa_nil))) (pa_cons (pe_cal C_P_signed_places (hr.mono (by decide)) (pa_cons pe_int (pa_cons (pe_un un_neg pe_int) pa_nil))) (pa_cons (pe_cal C_P_signed_places (hr.mono (by decide)) (pa_cons pe_int (pa_cons pe_int pa_nil))) pa_nil)))))))
      (pss_one (ps_ret (pe_and (pe_cmpR (op_eqD hr.units) (pv 10) (pe_lst (pa_cons (pe_tup (pa_cons pe_int (pa_cons pe_int pa_nil))) (pa_cons (pe_tup (pa_cons pe_int (pa_cons pe_int pa_nil))) (pa_cons (pe_tup (pa_cons pe_int (pa_cons pe_int pa_nil))) (pa_cons (pe_tup pa_nil) (pa_cons (pe_tup pa_nil) pa_nil)))))) (nomark _)) (pe_one (pe_cmpR (op_eqD hr.units) (pe_cal C_P_signed_places (hr.mono (by decide)) (pa_cons (pe_un un_neg pe_int) (pa_cons (pe_un un_neg pe_int) pa_nil))) (pe_tup (pa_cons pe_int (pa_cons pe_int (pa_cons pe_int (pa_cons pe_int pa_nil))))) (nomark _)))))))), ?_⟩
    have hT : ∀ n : Nat, ∃ t : Nat, (if (if (n : Int) < 3 then (n : Int) else 3) > 1 then (if (n : Int) < 3 then (n : Int) else 3) else 1) = (t : Int) ∧ t ≤ 3 := fun n => by
      by_cases c : n < 3
      · by_cases c2 : n > 1
        · exact ⟨n, by rw [if_pos (by omega : (n : Int) < 3), if_pos (by omega)], by omega⟩
        · exact ⟨1, by rw [if_pos (by omega : (n : Int) < 3), if_neg (by omega)]; rfl, by omega⟩
      · exact ⟨3, by rw [if_neg (by omega : ¬ (n : Int) < 3), if_pos (by decide)]; rfl, by omega⟩
    obtain ⟨t, et, ht⟩ := hT (ns.map V.int).length
    refine ⟨_, rfl, a, _, rfl, .inl hS, _, _, rfl, _, _, rfl, (t : Int), ?_, by omega, by omega, ?_⟩
    · rw [← et]
    refine for_range (lo := 0) (n := t) (fun i σ H' => ∃ v1 v2 v3 v4 v5 v6 v7 v8 v9, σ = [some (.ref a), v1, v2, v3, v4, v5, v6, v7, v8, v9, none] ∧ Same H H') ⟨none, none, none, none, none, none, none, none, none, rfl, Same.refl H⟩ ?_ ?_
    · rintro i σ H0 hi ⟨v1, v2, v3, v4, v5, v6, v7, v8, v9, rfl, hs0⟩
      refine ⟨_, rfl, _, rfl, a, ns, i, by rw [Int.zero_add]; rfl, hs0.seq hS, hl, by omega, fun p xs H1 e1 hpn hp1 hxs => ?_⟩
      have s1 : Sk p 0 H1 := ⟨xs, hp1, hxs⟩
      have k1 : Keep p H0 H1 := Keep.same e1
      refine ⟨_, rfl, 10, 9, rfl, rfl, ⟨by decide, by decide +kernel⟩, ⟨p, 0, 10 ^ (9 : Int).toNat, rfl, s1, by decide, by decide +kernel, by decide +kernel, fun x lx tx qx H2 mx bx nx k2 s2 tx1 qx1 htx hqx => ?_⟩⟩
      have bx' : x.natAbs ≤ 1000000000 := bx
      refine ⟨tx, _, rfl, .inl (.inl htx), rfl, _, _, rfl, _, _, rfl, rfl, ?_⟩
      refine ⟨_, rfl, ⟨p, 10, 30000, rfl, s2, by decide, by decide, by decide, fun y ly ty qy H3 my yb ny k3 s3 ty1 qy1 hty hqy => ?_⟩⟩
      have by' : y.natAbs ≤ 30000 := yb
      refine ⟨ty, _, rfl, .inl (.inl hty), rfl, _, _, rfl, _, _, rfl, rfl, ?_⟩
      refine ⟨_, rfl, ⟨p, 20, 30000, rfl, s3, by decide, by decide, by decide, fun z lz tz qz H4 mz zb nz k4 s4 tz1 qz1 htz hqz => ?_⟩⟩
      have bz' : z.natAbs ≤ 30000 := zb
      refine ⟨tz, _, rfl, .inl (.inl htz), rfl, _, _, rfl, _, _, rfl, rfl, ?_⟩
      have x0 := made_ne mx
      have y0 := made_ne my
      have z0 := made_ne mz
      have hqx4 : H4 qx = some (.lst (lx.map V.int)) := k4 _ _ (k3 _ _ hqx qx1) qx1
      have hqy4 : H4 qy = some (.lst (ly.map V.int)) := k4 _ _ hqy qy1
      -- the pair
      refine ⟨_, rfl, _, rfl, _, rfl, _, rfl, qx, qy, _, _, rfl, rfl, hqx4, hqy4, ?_, fun c1 hc1 => ?_⟩
      · refine Nat.le_trans (?_ : _ ≤ 50) (by decide)
        rw [List.length_map, List.length_map]
        omega
      have eL1 : lx.map V.int ++ ly.map V.int = (lx ++ ly).map V.int := by rw [List.map_append]
      rw [eL1]
      refine ⟨⟨x, y, c1, lx, ly, rfl, mx, my, bx', by omega, upd_same, nx, ny, fun H5 e5 => ⟨_, rfl, ?_⟩⟩⟩
      have e45 : Same H4 H5 := (same_upd hc1).trans e5
      -- the products
      refine ⟨_, rfl, _, rfl, _, rfl, _, rfl, _, rfl, qx, qy, _, _, rfl, rfl, e45 _ _ hqx4, e45 _ _ hqy4, ?_, fun c2 hc2 => ?_⟩
      · refine Nat.le_trans (?_ : _ ≤ 50) (by decide)
        rw [List.length_map, List.length_map]
        omega
      have n2 : qz ≠ c2 := ne_of_none (e45 _ _ hqz) hc2
      refine ⟨_, rfl, c2, qz, _, _, rfl, rfl, upd_same, by rw [upd_ne n2]; exact e45 _ _ hqz, ?_, fun c3 hc3 => ?_⟩
      · refine Nat.le_trans (?_ : _ ≤ 50) (by decide)
        rw [List.length_append, List.length_map, List.length_map, List.length_map]
        omega
      have eL2 : lx.map V.int ++ ly.map V.int ++ lz.map V.int = (lx ++ ly ++ lz).map V.int := by rw [List.map_append, List.map_append]
      rw [eL2]
      refine ⟨⟨x, y, z, c3, lx ++ ly ++ lz, rfl, x0, y0, z0, bx', by' , bz', upd_same, ?_, ?_, fun H6 e6 => ⟨_, rfl, ?_⟩⟩⟩
      · intro w hw
        rcases List.mem_append.mp hw with hw | hw
        · rcases List.mem_append.mp hw with hw | hw
          · exact mx.1 w hw
          · exact my.1 w hw
        · exact mz.1 w hw
      · rw [List.length_append, List.length_append]
        omega
      have e46 : Same H4 H6 := ((e45.trans (same_upd hc2)).trans (same_upd hc3)).trans e6
      have s6 := s4.same e46
      refine ⟨_, rfl, take_of s6 (by decide) (by decide) (by decide +kernel) fun r H7 r0 r1 k7 s7 _ => ⟨_, _, rfl, rfl, ?_⟩⟩
      have yr : (y * (1 + r)).natAbs ≤ 30000 * 170 := small_mul (A := 30000) (B := 170) (by omega) (by omega)
      have yrr : (y * (1 + r) * (1 + r)).natAbs ≤ 30000 * 170 * 170 := small_mul (A := 30000 * 170) (B := 170) (by omega) (by omega)
      have hr1 : (1 : Int) + r ≠ 0 := by omega
      have yne : y * (1 + r) * (1 + r) ≠ 0 := Int.mul_ne_zero (Int.mul_ne_zero y0 hr1) hr1
      refine ⟨_, rfl, _, rfl, _, _, rfl, rfl, CMulW.of (lt3000s (by omega) (by omega)) (lt3000s (by omega) (by omega)), _, rfl, _, _, rfl, rfl, CMulW.of (lt3000s (by omega) (by omega)) (lt3000s (by omega) (by omega)), _, rfl, ⟨y * (1 + r) * (1 + r), z, rfl, yne, z0, by omega, by omega, fun l8 t8 H8 p8 n8 e8 f8 h8 => ?_⟩⟩
      refine ⟨_, rfl, _, rfl, ⟨y, z, rfl, y0, z0, by omega, by omega, fun l9 t9 H9 p9 n9 e9 f9 h9 => ?_⟩⟩
      have em : l8 = l9 := places_same yne z0 (fun p r' hp h => square_sign (la := lz) (lb := ly) mz my hr1 (Int.mul_assoc _ _ _) hp h) p8 p9
      subst em
      refine ⟨_, _, tup_dp (e9 _ _ h8), tup_dp h9, shp_tup _, shp_tup _, _, rfl, ?_⟩
      rw [eqv_tups, decide_eq_true rfl]
      have fin : ∀ {H' : Hp}, Same H9 H' → Same H H' := fun {H'} e b' o eb => by
        have h0 := hs0 b' o eb
        have nb : b' ≠ p := ne_of_none h0 hpn
        exact e _ _ (e9 _ _ (e8 _ _ (k7 _ _ (e46 _ _ (k4 _ _ (k3 _ _ (k2 _ _ (k1 _ _ h0 nb) nb) nb) nb)) nb)))
      refine ⟨_, rfl, _, _, rfl, rfl, _, rfl, ifn (fun h1 => ?_) (fun h1 => ?_)⟩
      · refine ⟨_, rfl, _, rfl, _, _, rfl, rfl, ⟨y, 1 - y, rfl, y0, by omega, by omega, by omega, fun l10 t10 H10 p10 n10 e10 f10 h10 => ?_⟩⟩
        have em : l10 = [] := places_none (fun p r' hp h => hs_flip hp y0 h1 h) p10
        subst em
        refine ⟨(by show 0 ≤ sizeLine; decide), fun t11 ht11 => ?_⟩
        refine ⟨_, _, tup_dp (l := []) ?_, tup_dp (l := []) upd_same, shp_tup _, shp_tup _, _, rfl, ?_⟩
        · rw [upd_ne (ne_of_none h10 ht11)]
          exact h10
        · rw [eqv_tups, decide_eq_true rfl]
          exact ⟨_, _, _, _, _, _, _, _, _, rfl, fin (e10.trans (same_upd ht11))⟩
      · exact ⟨_, _, _, _, _, _, _, _, _, rfl, fin (Same.refl _)⟩
    · rintro σ H0 ⟨v1, v2, v3, v4, v5, v6, v7, v8, v9, rfl, hs0⟩
      have D1 : ∀ {a b : Int} {l : List Int} (D : List (Int × Nat × Nat × Int × Int)) (m : List Int), okD a b D = true → (∀ e ∈ D, e.1 ∈ P9) → m.Pairwise (· < ·) → plD a b D = m → PlacesOf a b l → l = m := fun {a b l} D m h1 h2 h3 h4 h5 => by
        rw [← h4]
        exact places_by D h1 (fun e he => prime9 _ (h2 e he)) (by rw [h4]; exact h3) h5
      refine ⟨1, rfl, 1, rfl, ⟨-1, -1, rfl, by decide, by decide, by decide, by decide, fun l1 t1 H1 p1 n1 e1 f1 h1 => ?_⟩⟩
      refine ⟨1, rfl, 11, rfl, ⟨-1, -11, rfl, by decide, by decide, by decide, by decide, fun l2 t2 H2 p2 n2 e2 f2 h2 => ?_⟩⟩
      refine ⟨⟨2, 5, rfl, by decide, by decide, by decide, by decide, fun l3 t3 H3 p3 n3 e3 f3 h3 => ?_⟩⟩
      refine ⟨1, rfl, ⟨5, -1, rfl, by decide, by decide, by decide, by decide, fun l4 t4 H4 p4 n4 e4 f4 h4 => ?_⟩⟩
      refine ⟨⟨1, 999999937, rfl, by decide, by decide, by decide, by decide, fun l5 t5 H5 p5 n5 e5 f5 h5 => ?_⟩⟩
      have q1 := D1 [(2, 0, 0, -1, -1)] [0, 2] (by decide +kernel) (by decide) (by decide) (by decide +kernel) p1
      have q2 := D1 [(2, 0, 0, -1, -11), (11, 0, 1, -1, -1)] [0, 11] (by decide +kernel) (by decide) (by decide) (by decide +kernel) p2
      have q3 := D1 [(2, 1, 0, 1, 5), (5, 0, 1, 2, 1)] [2, 5] (by decide +kernel) (by decide) (by decide) (by decide +kernel) p3
      have q4 := D1 [(2, 0, 0, 5, -1), (5, 1, 0, 1, -1)] [] (by decide +kernel) (by decide) (by decide) (by decide +kernel) p4
      have q5 : l5 = [] := places_none (fun p r hp h => hs_one hp h) p5
      subst q1 q2 q3 q4 q5
      refine ⟨(by show 5 ≤ sizeLine; decide), fun L hL => ?_⟩
      refine ⟨_, rfl, (by show 2 ≤ sizeLine; decide), fun u1 hu1 => ⟨(by show 2 ≤ sizeLine; decide), fun u2 hu2 => ⟨(by show 2 ≤ sizeLine; decide), fun u3 hu3 => ⟨(by show 0 ≤ sizeLine; decide), fun u4 hu4 => ⟨(by show 0 ≤ sizeLine; decide), fun u5 hu5 => ⟨(by show 5 ≤ sizeLine; decide), fun M hM => ?_⟩⟩⟩⟩⟩⟩
      have s0 := same_upd hL (o := .lst [.ref t1, .ref t2, .ref t3, .ref t4, .ref t5])
      have s1 := same_upd hu1 (o := .tup [.int 0, .int 2])
      have s2 := same_upd hu2 (o := .tup [.int 0, .int 11])
      have s3 := same_upd hu3 (o := .tup [.int 2, .int 5])
      have s4 := same_upd hu4 (o := .tup [])
      have s5 := same_upd hu5 (o := .tup [])
      have s6 := same_upd hM (o := .lst [.ref u1, .ref u2, .ref u3, .ref u4, .ref u5])
      have fL := ((((s1.trans s2).trans s3).trans s4).trans s5).trans s6
      refine ⟨.list [.tuple ([0, 2].map PyData.int), .tuple ([0, 11].map PyData.int), .tuple ([2, 5].map PyData.int), .tuple (([] : List Int).map PyData.int), .tuple (([] : List Int).map PyData.int)],
        .list [.tuple ([0, 2].map PyData.int), .tuple ([0, 11].map PyData.int), .tuple ([2, 5].map PyData.int), .tuple (([] : List Int).map PyData.int), .tuple (([] : List Int).map PyData.int)], ?_, ?_, by decide +kernel, by decide +kernel, ?_⟩
      · exact .lst (SqL.of (fL _ _ upd_same)) (.cons (tup_dp (l := [0, 2]) (fL _ _ (s0 _ _ (e5 _ _ (e4 _ _ (e3 _ _ (e2 _ _ h1))))))) (.cons (tup_dp (l := [0, 11]) (fL _ _ (s0 _ _ (e5 _ _ (e4 _ _ (e3 _ _ h2)))))) (.cons (tup_dp (l := [2, 5]) (fL _ _ (s0 _ _ (e5 _ _ (e4 _ _ h3))))) (.cons (tup_dp (l := []) (fL _ _ (s0 _ _ (e5 _ _ h4)))) (.cons (tup_dp (l := []) (fL _ _ (s0 _ _ h5))) .nil)))))
      · exact .lst (SqL.of upd_same) (.cons (tup_dp (l := [0, 2]) (s6 _ _ (s5 _ _ (s4 _ _ (s3 _ _ (s2 _ _ upd_same)))))) (.cons (tup_dp (l := [0, 11]) (s6 _ _ (s5 _ _ (s4 _ _ (s3 _ _ upd_same))))) (.cons (tup_dp (l := [2, 5]) (s6 _ _ (s5 _ _ (s4 _ _ upd_same)))) (.cons (tup_dp (l := []) (s6 _ _ (s5 _ _ upd_same))) (.cons (tup_dp (l := []) (s6 _ _ upd_same)) .nil)))))
      · rw [show PyData.eqv (.list [.tuple ([0, 2].map PyData.int), .tuple ([0, 11].map PyData.int), .tuple ([2, 5].map PyData.int), .tuple (([] : List Int).map PyData.int), .tuple (([] : List Int).map PyData.int)]) (.list [.tuple ([0, 2].map PyData.int), .tuple ([0, 11].map PyData.int), .tuple ([2, 5].map PyData.int), .tuple (([] : List Int).map PyData.int), .tuple (([] : List Int).map PyData.int)]) = true by decide +kernel]
        refine ⟨_, rfl, ?_⟩
        refine ⟨3, rfl, 10, rfl, ⟨-3, -10, rfl, by decide, by decide, by decide, by decide, fun l6 t6 H6 p6 n6 e6 f6 h6 => ?_⟩⟩
        have q6 := D1 [(2, 0, 1, -3, -5), (3, 1, 0, -1, -10), (5, 0, 1, -3, -2)] [0, 2, 3, 5] (by decide +kernel) (by decide) (by decide) (by decide +kernel) p6
        subst q6
        refine ⟨(by show 4 ≤ sizeLine; decide), fun u6 hu6 => ?_⟩
        refine ⟨_, _, tup_dp (l := [0, 2, 3, 5]) (same_upd hu6 _ _ h6), tup_dp (l := [0, 2, 3, 5]) upd_same, shp_tup _, shp_tup _, ?_⟩
        rw [eqv_tups, decide_eq_true rfl]
        exact q _
end
end Sf

namespace Sf
open PySem PySem.Spec PyProof.Rows L2
theorem facts {P : Program} {w : World} {K : PySem.W.Frag} {h : Heap} {mg : Str → Option Value} {f : Addr} (X : K.In h) (G : h.Ns mainGlobals mg) (hfa : mg ("law" : Str) = some (.ref f)) (c : He.SaysD fa fn K) (z : ex K = true) :
    ∃ fd : FuncData, (∀ (s : Shared) (v : Value), BindsTo s fd ⟨[v], []⟩ [("_law_script", v)]) ∧ ∀ base : Heap, K.In base → base.Ns mainGlobals mg → FnOk P w K mg base CX0 7 f fd ["_law_script"] (spLaw K) := by
  obtain ⟨fd_L_sack, F_L_sack⟩ := c.def_ 0 (d := d_L_sack) rfl
  have g_L_sack := He.glo_ok X G (c.fact 0 (f := .glo "_law_sack") rfl)
  obtain ⟨fd_L_take, F_L_take⟩ := c.def_ 1 (d := d_L_take) rfl
  have g_L_take := He.glo_ok X G (c.fact 1 (f := .glo "_law_take") rfl)
  obtain ⟨fd_L_one_of, F_L_one_of⟩ := c.def_ 2 (d := d_L_one_of) rfl
  have g_L_one_of := He.glo_ok X G (c.fact 2 (f := .glo "_law_one_of") rfl)
  obtain ⟨fd_L_made, F_L_made⟩ := c.def_ 3 (d := d_L_made) rfl
  have g_L_made := He.glo_ok X G (c.fact 3 (f := .glo "_law_made") rfl)
  obtain ⟨fd_P_is_integer, F_P_is_integer⟩ := c.def_ 4 (d := d_P_is_integer) rfl
  have g_P_is_integer := He.glo_ok X G (c.fact 4 (f := .glo "is_integer") rfl)
  obtain ⟨fd_P_check_number, F_P_check_number⟩ := c.def_ 5 (d := d_P_check_number) rfl
  have g_P_check_number := He.glo_ok X G (c.fact 5 (f := .glo "check_number") rfl)
  obtain ⟨fd_P_stripped, F_P_stripped⟩ := c.def_ 6 (d := d_P_stripped) rfl
  have g_P_stripped := He.glo_ok X G (c.fact 6 (f := .glo "stripped") rfl)
  obtain ⟨fd_P_next_divisor, F_P_next_divisor⟩ := c.def_ 7 (d := d_P_next_divisor) rfl
  have g_P_next_divisor := He.glo_ok X G (c.fact 7 (f := .glo "next_divisor") rfl)
  obtain ⟨fd_P_prime_powers, F_P_prime_powers⟩ := c.def_ 8 (d := d_P_prime_powers) rfl
  have g_P_prime_powers := He.glo_ok X G (c.fact 8 (f := .glo "prime_powers") rfl)
  obtain ⟨fd_P_factors, F_P_factors⟩ := c.def_ 9 (d := d_P_factors) rfl
  have g_P_factors := He.glo_ok X G (c.fact 9 (f := .glo "factors") rfl)
  obtain ⟨fd_P_quarter, F_P_quarter⟩ := c.def_ 10 (d := d_P_quarter) rfl
  have g_P_quarter := He.glo_ok X G (c.fact 10 (f := .glo "quarter") rfl)
  obtain ⟨fd_P_eighth, F_P_eighth⟩ := c.def_ 11 (d := d_P_eighth) rfl
  have g_P_eighth := He.glo_ok X G (c.fact 11 (f := .glo "eighth") rfl)
  obtain ⟨fd_P_sign_at_two, F_P_sign_at_two⟩ := c.def_ 12 (d := d_P_sign_at_two) rfl
  have g_P_sign_at_two := He.glo_ok X G (c.fact 12 (f := .glo "sign_at_two") rfl)
  obtain ⟨fd_P_power_modulo, F_P_power_modulo⟩ := c.def_ 13 (d := d_P_power_modulo) rfl
  have g_P_power_modulo := He.glo_ok X G (c.fact 13 (f := .glo "power_modulo") rfl)
  obtain ⟨fd_P_rest_sign, F_P_rest_sign⟩ := c.def_ 14 (d := d_P_rest_sign) rfl
  have g_P_rest_sign := He.glo_ok X G (c.fact 14 (f := .glo "rest_sign") rfl)
  obtain ⟨fd_P_sign_at_odd, F_P_sign_at_odd⟩ := c.def_ 15 (d := d_P_sign_at_odd) rfl
  have g_P_sign_at_odd := He.glo_ok X G (c.fact 15 (f := .glo "sign_at_odd") rfl)
  obtain ⟨fd_P_sign, F_P_sign⟩ := c.def_ 16 (d := d_P_sign) rfl
  have g_P_sign := He.glo_ok X G (c.fact 16 (f := .glo "sign") rfl)
  obtain ⟨fd_P_signed_places, F_P_signed_places⟩ := c.def_ 17 (d := d_P_signed_places) rfl
  have g_P_signed_places := He.glo_ok X G (c.fact 17 (f := .glo "signed_places") rfl)
  obtain ⟨fd_L_parted, F_L_parted⟩ := c.def_ 18 (d := d_L_parted) rfl
  have g_L_parted := He.glo_ok X G (c.fact 18 (f := .glo "_law_parted") rfl)
  obtain ⟨fd_L_sign, F_L_sign⟩ := c.def_ 19 (d := d_L_sign) rfl
  have g_L_sign := He.glo_ok X G (c.fact 19 (f := .glo "_law_sign") rfl)
  obtain ⟨fd_L_own_sign, F_L_own_sign⟩ := c.def_ 20 (d := d_L_own_sign) rfl
  have g_L_own_sign := He.glo_ok X G (c.fact 20 (f := .glo "_law_own_sign") rfl)
  obtain ⟨fd_L_due, F_L_due⟩ := c.def_ 21 (d := d_L_due) rfl
  have g_L_due := He.glo_ok X G (c.fact 21 (f := .glo "_law_due") rfl)
  obtain ⟨fd_P_free_part, F_P_free_part⟩ := c.def_ 22 (d := d_P_free_part) rfl
  have g_P_free_part := He.glo_ok X G (c.fact 22 (f := .glo "free_part") rfl)
  obtain ⟨fd_P_square_free, F_P_square_free⟩ := c.def_ 23 (d := d_P_square_free) rfl
  have g_P_square_free := He.glo_ok X G (c.fact 23 (f := .glo "square_free") rfl)
  obtain ⟨fd_L_pair_right, F_L_pair_right⟩ := c.def_ 24 (d := d_L_pair_right) rfl
  have g_L_pair_right := He.glo_ok X G (c.fact 24 (f := .glo "_law_pair_right") rfl)
  obtain ⟨fd_P_is_prime, F_P_is_prime⟩ := c.def_ 25 (d := d_P_is_prime) rfl
  have g_P_is_prime := He.glo_ok X G (c.fact 25 (f := .glo "is_prime") rfl)
  obtain ⟨fd_P_check_place, F_P_check_place⟩ := c.def_ 26 (d := d_P_check_place) rfl
  have g_P_check_place := He.glo_ok X G (c.fact 26 (f := .glo "check_place") rfl)
  obtain ⟨fd_P_sign_at, F_P_sign_at⟩ := c.def_ 27 (d := d_P_sign_at) rfl
  have g_P_sign_at := He.glo_ok X G (c.fact 27 (f := .glo "sign_at") rfl)
  obtain ⟨fd_L_products_right, F_L_products_right⟩ := c.def_ 28 (d := d_L_products_right) rfl
  have g_L_products_right := He.glo_ok X G (c.fact 28 (f := .glo "_law_products_right") rfl)
  obtain ⟨fd_L_law, F_L_law⟩ := c.def_ 29 (d := d_L_law) rfl
  have g_L_law := He.glo_ok X G (c.fact 29 (f := .glo "law") rfl)
  have e := hfa.symm.trans g_L_law
  cases e
  have z0 := z
  have T : Glob mg := ⟨He.free_ok X G (c.fact 30 (f := .free "isinstance") rfl), He.free_ok X G (c.fact 31 (f := .free "int") rfl), He.free_ok X G (c.fact 32 (f := .free "bool") rfl), He.free_ok X G (c.fact 33 (f := .free "abs") rfl), He.free_ok X G (c.fact 34 (f := .free "sorted") rfl), He.free_ok X G (c.fact 35 (f := .free "tuple") rfl), He.free_ok X G (c.fact 36 (f := .free "set") rfl), He.free_ok X G (c.fact 37 (f := .free "max") rfl), He.free_ok X G (c.fact 38 (f := .free "len") rfl), He.free_ok X G (c.fact 39 (f := .free "sum") rfl), He.free_ok X G (c.fact 40 (f := .free "range") rfl), He.free_ok X G (c.fact 41 (f := .free "dict") rfl), He.free_ok X G (c.fact 42 (f := .free "min") rfl), He.int_ok X G (c.fact 43 (f := .int "MAX_NUMBER" 1000000000) rfl)⟩
  have b := FunD.bindsA (ps := ["_law_script"]) F_L_law fun _ _ _ _ _ _ us hl => match us, hl with | [_], _ => rfl
  refine ⟨fd_L_law, fun s v => b s [v] rfl, fun base _ _ => ?_⟩
  have C_L_sack : Cal P w K mg base 1 "_law_sack" ["_law_script", "_law_turn"] (spSack K) := ⟨_, fd_L_sack, ok_sack F_L_sack T, g_L_sack, F_L_sack.kp, F_L_sack.bindsN fun _ _ _ _ _ _ us hl => match us, hl with | [_, _], _ => rfl⟩
  have C_L_take : Cal P w K mg base 1 "_law_take" ["_law_sack_here", "_law_many"] spTake := ⟨_, fd_L_take, ok_take F_L_take T, g_L_take, F_L_take.kp, F_L_take.bindsN fun _ _ _ _ _ _ us hl => match us, hl with | [_, _], _ => rfl⟩
  have C_L_one_of : Cal P w K mg base 2 "_law_one_of" ["_law_sack_here", "_law_items"] (spOneOf K) := ⟨_, fd_L_one_of, ok_one_of F_L_one_of T C_L_take, g_L_one_of, F_L_one_of.kp, F_L_one_of.bindsN fun _ _ _ _ _ _ us hl => match us, hl with | [_, _], _ => rfl⟩
  have C_L_made : Cal P w K mg base 3 "_law_made" ["_law_sack_here", "_law_most"] spMade := ⟨_, fd_L_made, ok_made F_L_made T C_L_take C_L_one_of, g_L_made, F_L_made.kp, F_L_made.bindsN fun _ _ _ _ _ _ us hl => match us, hl with | [_, _], _ => rfl⟩
  have C_P_is_integer : Cal P w K mg base 1 "is_integer" ["value"] (spIsInt K) := ⟨_, fd_P_is_integer, ok_is_integer F_P_is_integer T, g_P_is_integer, F_P_is_integer.kp, F_P_is_integer.bindsN fun _ _ _ _ _ _ us hl => match us, hl with | [_], _ => rfl⟩
  have C_P_check_number : Cal P w K mg base 2 "check_number" ["value"] spCheckNumber := ⟨_, fd_P_check_number, ok_check_number F_P_check_number T C_P_is_integer, g_P_check_number, F_P_check_number.kp, F_P_check_number.bindsN fun _ _ _ _ _ _ us hl => match us, hl with | [_], _ => rfl⟩
  have C_P_stripped : Cal P w K mg base 1 "stripped" ["number", "prime"] spStripped := ⟨_, fd_P_stripped, ok_stripped F_P_stripped , g_P_stripped, F_P_stripped.kp, F_P_stripped.bindsN fun _ _ _ _ _ _ us hl => match us, hl with | [_, _], _ => rfl⟩
  have C_P_next_divisor : Cal P w K mg base 1 "next_divisor" ["divisor"] spNext := ⟨_, fd_P_next_divisor, ok_next F_P_next_divisor , g_P_next_divisor, F_P_next_divisor.kp, F_P_next_divisor.bindsN fun _ _ _ _ _ _ us hl => match us, hl with | [_], _ => rfl⟩
  have C_P_prime_powers : Cal P w K mg base 2 "prime_powers" ["number"] spFactors := ⟨_, fd_P_prime_powers, ok_prime_powers F_P_prime_powers T C_P_stripped C_P_next_divisor, g_P_prime_powers, F_P_prime_powers.kp, F_P_prime_powers.bindsN fun _ _ _ _ _ _ us hl => match us, hl with | [_], _ => rfl⟩
  have C_P_factors : Cal P w K mg base 3 "factors" ["number"] spFactors := ⟨_, fd_P_factors, ok_factors F_P_factors C_P_check_number C_P_prime_powers, g_P_factors, F_P_factors.kp, F_P_factors.bindsN fun _ _ _ _ _ _ us hl => match us, hl with | [_], _ => rfl⟩
  have C_P_quarter : Cal P w K mg base 1 "quarter" ["unit"] spQuarter := ⟨_, fd_P_quarter, ok_quarter F_P_quarter , g_P_quarter, F_P_quarter.kp, F_P_quarter.bindsN fun _ _ _ _ _ _ us hl => match us, hl with | [_], _ => rfl⟩
  have C_P_eighth : Cal P w K mg base 1 "eighth" ["unit"] spEighth := ⟨_, fd_P_eighth, ok_eighth F_P_eighth , g_P_eighth, F_P_eighth.kp, F_P_eighth.bindsN fun _ _ _ _ _ _ us hl => match us, hl with | [_], _ => rfl⟩
  have C_P_sign_at_two : Cal P w K mg base 2 "sign_at_two" ["a", "b"] (spSgn true) := ⟨_, fd_P_sign_at_two, ok_sign_at_two F_P_sign_at_two C_P_stripped C_P_quarter C_P_eighth, g_P_sign_at_two, F_P_sign_at_two.kp, F_P_sign_at_two.bindsN fun _ _ _ _ _ _ us hl => match us, hl with | [_, _], _ => rfl⟩
  have C_P_power_modulo : Cal P w K mg base 1 "power_modulo" ["number", "many", "modulus"] spPowMod := ⟨_, fd_P_power_modulo, ok_powmod F_P_power_modulo , g_P_power_modulo, F_P_power_modulo.kp, F_P_power_modulo.bindsN fun _ _ _ _ _ _ us hl => match us, hl with | [_, _, _], _ => rfl⟩
  have C_P_rest_sign : Cal P w K mg base 2 "rest_sign" ["number", "prime"] spRestSign := ⟨_, fd_P_rest_sign, ok_rest_sign F_P_rest_sign C_P_power_modulo, g_P_rest_sign, F_P_rest_sign.kp, F_P_rest_sign.bindsN fun _ _ _ _ _ _ us hl => match us, hl with | [_, _], _ => rfl⟩
  have C_P_sign_at_odd : Cal P w K mg base 3 "sign_at_odd" ["a", "b", "prime"] (spSgn false) := ⟨_, fd_P_sign_at_odd, ok_sign_at_odd F_P_sign_at_odd C_P_stripped C_P_rest_sign, g_P_sign_at_odd, F_P_sign_at_odd.kp, F_P_sign_at_odd.bindsN fun _ _ _ _ _ _ us hl => match us, hl with | [_, _, _], _ => rfl⟩
  have C_P_sign : Cal P w K mg base 4 "sign" ["a", "b", "place"] spSign := ⟨_, fd_P_sign, ok_sign F_P_sign C_P_sign_at_two C_P_sign_at_odd, g_P_sign, F_P_sign.kp, F_P_sign.bindsN fun _ _ _ _ _ _ us hl => match us, hl with | [_, _, _], _ => rfl⟩
  have C_P_signed_places : Cal P w K mg base 5 "signed_places" ["a", "b"] spPlaces := ⟨_, fd_P_signed_places, ok_signed_places F_P_signed_places T C_P_check_number C_P_factors C_P_sign, g_P_signed_places, F_P_signed_places.kp, F_P_signed_places.bindsN fun _ _ _ _ _ _ us hl => match us, hl with | [_, _], _ => rfl⟩
  have C_L_parted : Cal P w K mg base 1 "_law_parted" ["_law_number", "_law_prime"] spParted := ⟨_, fd_L_parted, ok_parted F_L_parted T, g_L_parted, F_L_parted.kp, F_L_parted.bindsN fun _ _ _ _ _ _ us hl => match us, hl with | [_, _], _ => rfl⟩
  have C_L_sign : Cal P w K mg base 1 "_law_sign" ["_law_number", "_law_prime"] spLSign := ⟨_, fd_L_sign, ok_l_sign F_L_sign T, g_L_sign, F_L_sign.kp, F_L_sign.bindsN fun _ _ _ _ _ _ us hl => match us, hl with | [_, _], _ => rfl⟩
  have C_L_own_sign : Cal P w K mg base 2 "_law_own_sign" ["_law_a", "_law_b", "_law_place"] spOwn := ⟨_, fd_L_own_sign, ok_own_sign F_L_own_sign C_L_parted C_L_sign, g_L_own_sign, F_L_own_sign.kp, F_L_own_sign.bindsN fun _ _ _ _ _ _ us hl => match us, hl with | [_, _, _], _ => rfl⟩
  have C_L_due : Cal P w K mg base 3 "_law_due" ["_law_a", "_law_b", "_law_primes"] spDue := ⟨_, fd_L_due, ok_due F_L_due T C_L_own_sign, g_L_due, F_L_due.kp, F_L_due.bindsN fun _ _ _ _ _ _ us hl => match us, hl with | [_, _, _], _ => rfl⟩
  have C_P_free_part : Cal P w K mg base 3 "free_part" ["number"] spSquareFree := ⟨_, fd_P_free_part, ok_free_part F_P_free_part C_P_prime_powers, g_P_free_part, F_P_free_part.kp, F_P_free_part.bindsN fun _ _ _ _ _ _ us hl => match us, hl with | [_], _ => rfl⟩
  have C_P_square_free : Cal P w K mg base 4 "square_free" ["number"] spSquareFree := ⟨_, fd_P_square_free, ok_square_free F_P_square_free C_P_check_number C_P_free_part, g_P_square_free, F_P_square_free.kp, F_P_square_free.bindsN fun _ _ _ _ _ _ us hl => match us, hl with | [_], _ => rfl⟩
  have C_L_pair_right : Cal P w K mg base 6 "_law_pair_right" ["_law_a", "_law_b", "_law_primes"] spPair := ⟨_, fd_L_pair_right, ok_pair_right F_L_pair_right T C_P_signed_places C_L_due C_P_square_free, g_L_pair_right, F_L_pair_right.kp, F_L_pair_right.bindsN fun _ _ _ _ _ _ us hl => match us, hl with | [_, _, _], _ => rfl⟩
  have C_P_is_prime : Cal P w K mg base 2 "is_prime" ["value"] (spIsPrime K) := ⟨_, fd_P_is_prime, ok_is_prime F_P_is_prime T C_P_is_integer C_P_next_divisor, g_P_is_prime, F_P_is_prime.kp, F_P_is_prime.bindsN fun _ _ _ _ _ _ us hl => match us, hl with | [_], _ => rfl⟩
  have C_P_check_place : Cal P w K mg base 3 "check_place" ["value"] spCheckPlace := ⟨_, fd_P_check_place, ok_check_place F_P_check_place C_P_is_prime C_P_is_integer, g_P_check_place, F_P_check_place.kp, F_P_check_place.bindsN fun _ _ _ _ _ _ us hl => match us, hl with | [_], _ => rfl⟩
  have C_P_sign_at : Cal P w K mg base 5 "sign_at" ["a", "b", "place"] spSign := ⟨_, fd_P_sign_at, ok_sign_at F_P_sign_at C_P_check_number C_P_check_place C_P_sign, g_P_sign_at, F_P_sign_at.kp, F_P_sign_at.bindsN fun _ _ _ _ _ _ us hl => match us, hl with | [_, _, _], _ => rfl⟩
  have C_L_products_right : Cal P w K mg base 6 "_law_products_right" ["_law_a", "_law_b", "_law_c", "_law_primes"] spProds := ⟨_, fd_L_products_right, ok_products_right F_L_products_right C_P_sign_at, g_L_products_right, F_L_products_right.kp, F_L_products_right.bindsN fun _ _ _ _ _ _ us hl => match us, hl with | [_, _, _, _], _ => rfl⟩
  exact ok_law F_L_law T C_L_sack C_L_take C_L_made C_L_pair_right C_L_products_right C_P_signed_places
end Sf
open PySem PySem.W PySem.Calls PyProof.Rows
set_option maxHeartbeats 0 in
theorem PySem.Challenge.cw_signfours_k04_whole_places_even_in_numbe_holds : PySem.Challenge.rw_signfours_k04_whole_places_even_in_numbe.Holds := by
  w_on; o_law
  refine HandSHeadRun.head_any (r := OpenLaw.row PySem.Challenge.rw_signfours_k04_whole_places_even_in_numbe) (q := view (OpenLaw.row PySem.Challenge.rw_signfours_k04_whole_places_even_in_numbe).prog [37]) (H := Sf.hk) (ob := Sf.ob) (M := 20000) (loose := Sf.loose) (d := HandSHeadRun.topDef (OpenLaw.row PySem.Challenge.rw_signfours_k04_whole_places_even_in_numbe).prog 37) (kwd := []) Sf.ob_eq
    (by kernel_rfl) (fun s => by kernel_rfl) Sf.run (by kernel_rfl) (by kernel_rfl) (by kernel_rfl) (by rfl) (by first | assumption | decide +kernel) (by decide +kernel) ⟨rfl, rfl, rfl, rfl, rfl, by decide +kernel⟩ ?hw ?hc
  case hw => w_witness2
  case hc =>
    refine L2.walk_ofE (l := PySem.Challenge.rw_signfours_k04_whole_places_even_in_numbe) (n := 63) (k := 7) (x := "_law_script") (CX := L2.CX0) rfl (by decide) (by kernel_rfl) ⟨rfl, by decide, by decide⟩ ?F (fun _ _ _ _ z => z)
    intro w mg fa h Y G hmg0
    obtain ⟨K, KX, c, z⟩ := Y
    have hmg : mg ("law" : PySem.Str) = some (.ref fa) := by
      have e : (HandSHeadRun.topDef (OpenLaw.row PySem.Challenge.rw_signfours_k04_whole_places_even_in_numbe).prog 37).name = ("law" : PySem.Str) := by kernel_rfl
      rw [← e]
      exact hmg0
    obtain ⟨fd, hb, hF⟩ := Sf.facts (P := (PySem.Challenge.rw_signfours_k04_whole_places_even_in_numbe).prog) (w := w) KX G hmg c z
    exact ⟨K, fd, Sf.spLaw K, KX, hb, fun H a ns hl _ hS => ⟨a, ns, rfl, hS, hl, fun _ => rfl⟩, hF⟩
