import PyProof.Rows.All
import Wide.All
import OpenK.AllK
import Wide.FinOn
import KE.KStateDown
import Lean
import HandS.Base
import HandS.Call
import HandS.List
import HandS.Comp
import HandS.Ends
import HandS.Evl
import HandS.Dict
import HandS.Iter
import HandS.Text
import HandS.More
import HandS.DictComp
import HandS.Words
import HandS.WordsList
import HandS.WordsExc
import HandS.WordsDict
import HandS.Defaults
import HandS.IsInst
import HandS.Small
import HandS.Wide
import HandS.Style
import HandS.SortInts
import HandS.Set
import HandS.SetFor
import HandS.Strs
import HandS.Star
import HandS.Head0
import HandS.Head1
import HandS.Head2
import HandS.Head3
import HandS.HeadEnd
import HandS.HeadHook1
import HandS.HeadHook2
import KE.KOpsOwn
import KE.GoesMore
import KE.KFmtOwn
import HandS.OwnEq
import HandS.Records
import HandS.Gcd
import HandS.TupAny
import HandS.Walk
import HandS.Zip
import HandS.Zip0
import KE.KDictZip
import PyProof.CollectWalk
import PyProof.ListNew
import HandS.FStr
import HandS.StrMore
import HandS.Flow
import HandS.RaiseMore
import HandS.Exc
import HandS.TryMany
import HandS.Lambda
import PySem.Challenge.RW_signfours_k26_whole_common_roots
set_option Elab.async false
set_option linter.all false
set_option maxRecDepth 100000
set_option maxHeartbeats 4000000
namespace Sf
open PySem PySem.Spec PyProof.Rows L2
/-- a def of the text that lets no exception out, ready to be called -/
structure Cal (P : Program) (w : World) (K : PySem.W.Frag) (mg : Str → Option Value) (base : Heap) (k : Nat) (x : Str) (ps : List Str) (sp : Sp) where
  f : Addr
  fd : FuncData
  ok : FnOk P w K mg base CX0 k f fd ps sp
  g : mg x = some (.ref f)
  kp : PySem.W.keepIn K (.ref f) = true
  b : Binds K fd ps []
section
variable {X : Cx} {k : Nat} {x : Str} {ps : List Str} {sp : Sp} {e : Expr} {es : List Expr} {t : TA} {p pos : Pos}
theorem pe_cal (C : Cal X.prog X.w X.K X.mg X.base k x ps sp) (hr : Room k X.A) (ha : PA X (e :: es) t) (hg : Gl X x := by rfl) (hdb : (x == ("__debug__" : Str)) = false := by decide)
    (he : starEach (e :: es) X.env = (false, eval e X.env) :: starEach es X.env := by rfl) (hpl : (backTo pos (starEach es X.env)).any (·.1) = false := by rfl) :
    PE X (.Call (.Name x p) (e :: es) [] pos) (tCall sp [] E0 t) :=
  pe_call C.ok hr hg C.g C.kp C.b .nil pass0 ha hdb he hpl
theorem pe_cal0 (C : Cal X.prog X.w X.K X.mg X.base k x ps sp) (hr : Room k X.A) (hg : Gl X x := by rfl) (hdb : (x == ("__debug__" : Str)) = false := by decide) :
    PE X (.Call (.Name x p) [] [] pos) (tCall sp [] E0 tNil) :=
  pe_call0 C.ok hr hg C.g C.kp C.b .nil pass0 hdb
/-- a power of any size that the machine's line takes -/
def CPowW (i j : Int) : Prop := 0 ≤ j ∧ (Builtin.Int.intBits i : Int) * j ≤ 2 ^ 27
theorem op_powW : OpR X (binaryOp .Pow) (rI CPowW fun i j => .int (i ^ j.toNat)) := opI fun _ _ _ _ _ _ _ hc q => pow_int hc.1 hc.2 q
/-- a dict that a call has just made, frozen from here on -/
theorem pe_frz {e : Expr} {te : TE} (h : PE X e te) : PE X e (fun σ H Q => te σ H fun x H1 => ∃ d u, x = .ref d ∧ H1 d = some u ∧ Mut (some u) ∧ ∀ od, Q x (upd H1 d (.frz od u))) := by
  refine ⟨fun pins s σ H Q I hw => ?_⟩
  refine thn (h.run pins s σ _ _ I hw) fun v s1 ⟨y, H1, I1, r, d, u, e1, hd, mu, q⟩ => ?_
  obtain ⟨od, I2⟩ := I1.lock hd mu
  exact ⟨y, _, I2, r, q od⟩
end
section
variable {X : Cx} {e : Expr}
/-- an expression, with a word behind it: what follows is shown once -/
def tMid (t : TE) : TE := fun σ H Q => ∃ Mid : V → Hp → Prop, t σ H Mid ∧ ∀ v H', Mid v H' → Q v H'
theorem pe_cut {t : TE} (h : PE X e t) : PE X e (tMid t) :=
  ⟨fun pins s σ H Q I ⟨Mid, hm, hu⟩ => thn (h.run pins s σ H Mid I hm) fun u s1 ⟨x, H1, I1, r, q⟩ => ⟨x, H1, I1, r, hu x H1 q⟩⟩
def tMidT (t : TT) : TT := fun σ H Q => ∃ Mid : Bool → Hp → Prop, t σ H Mid ∧ ∀ v H', Mid v H' → Q v H'
theorem pt_mid {t : TT} (h : PT X e t) : PT X e (tMidT t) :=
  ⟨fun pins s σ H Q I ⟨Mid, hm, hu⟩ => thn (h.run pins s σ H Mid I hm) fun b s1 ⟨H1, I1, q⟩ => ⟨H1, I1, hu b H1 q⟩⟩
end
theorem same_upd {H : Hp} {p : Addr} {o : HO} (h : H p = none) : Same H (upd H p o) := fun b x e => by
  rw [upd_ne (ne_of_none e h)]
  exact e
theorem CMulW.of {i j : Int} (hi : i.natAbs < 2 ^ 3000) (hj : j.natAbs < 2 ^ 3000) : CMulW i j := wide_mul hi hj (by decide) (by decide) (by decide)
theorem CDivW.of {i j : Int} (h0 : 0 < j) (hj : j.natAbs < 2 ^ 3000) : CDivW i j := wide_div h0 hj (by decide) (by decide)
theorem two3000 : (10 : Nat) ^ 600 < 2 ^ 3000 := by decide +kernel
end Sf
namespace Sf
open PySem PySem.Spec PyProof.Rows L2
/-- an if whose test is a decision -/
theorem ifd {p : Prop} [Decidable p] {A B : Prop} (h1 : p → A) (h2 : ¬ p → B) : if decide p = true then A else B := by
  by_cases h : p
  · rw [if_pos (decide_eq_true h)]; exact h1 h
  · rw [if_neg (by simpa using h)]; exact h2 h
theorem ifn {p : Prop} [Decidable p] {A B : Prop} (h1 : ¬ p → A) (h2 : p → B) : if (!decide p) = true then A else B := by
  by_cases h : p
  · rw [if_neg (by simpa using h)]; exact h2 h
  · rw [if_pos (by simpa using h)]; exact h1 h
theorem ifb {b : Bool} {A B : Prop} (h1 : b = true → A) (h2 : b = false → B) : if b = true then A else B := by
  cases b with
  | true => rw [if_pos rfl]; exact h1 rfl
  | false => rw [if_neg Bool.false_ne_true]; exact h2 rfl
end Sf
namespace Sf
open PySem PySem.Spec PyProof.Rows L2
/-! the head's facts and one more Bool -/
abbrev AlO : Type := He.AlD × Bool
/-- what is looked at: the module's names, what they name, so on; a code object's own things are left out -/
def refsN (o : Obj) : List Addr := match o.data with
  | .dict es _ => es.toList.flatMap fun e => He.refV e.val
  | .func fd => He.refV fd.code ++ He.refV fd.defaults
  | .cls cd => cd.ns :: cd.mro.flatMap He.refV
  | _ => []
def stepN (g : Addr → Option Obj) (as : List Addr) : List Addr := as.flatMap fun a => match g a with
  | some o => refsN o
  | none => []
def asN (g : Addr → Option Obj) : Nat → List Addr → List Addr
  | 0, as => as
  | n + 1, as => as ++ asN g n (stepN g as)
def obsO (n : Nat) (fa : List He.Fa) (fn : List He.DefD) (ex : PySem.W.Frag → Bool) (g : Addr → Option Obj) : AlO := (He.obsD fa fn (He.frG g (asN g n [mainGlobals])), ex (He.frG g (asN g n [mainGlobals])))
def hookO (n : Nat) (fa : List He.Fa) (fn : List He.DefD) (ex : PySem.W.Frag → Bool) : PySem.W.Hook where
  α := AlO
  obs := fun s => obsO n fa fn ex s.heap.get?
  val := fun _ => (He.valD fn, true)
  says := fun _ h => ∃ K : PySem.W.Frag, K.In h ∧ He.SaysD fa fn K ∧ ex K = true
  of := fun _ _ e => ⟨_, He.frG_in, congrArg (fun z : AlO => z.1) e, congrArg (fun z : AlO => z.2) e⟩
  keeps := fun _ _ _ ⟨K, hK, c⟩ k => ⟨K, PySem.W.Frag.In.keeps hK k, c⟩
theorem obsO_eq {n : Nat} {fa : List He.Fa} {fn : List He.DefD} {ex : PySem.W.Frag → Bool} {g : Addr → Option Obj} {s : Shared} (h : ∀ a, g a = s.heap.get? a) : obsO n fa fn ex g = (hookO n fa fn ex).obs s := by
  have e : g = s.heap.get? := funext h
  rw [e] <;> rfl
def ownB (K : PySem.W.Frag) (x : Str) : Bool := PySem.W.selfFirst K (He.ga K x) && (decide (PySem.W.subIn K (.type "int") (.ref (He.ga K x)) = some false) && (He.eqO (PySem.W.findIn K (.ref (He.ga K x)) "__ne__") (some (some (.builtin "object.__ne__"))) &&
  (decide (PySem.W.mroIn K (He.ga K x) (.type "object") = some true) && (He.eqO (PySem.W.findIn K (.ref (He.ga K x)) "__class__") (some (some (.builtin "object.__class__"))) && (He.eqO (PySem.W.specialIn K (.builtin "object.__class__") "__get__") (some (some (.builtin "getset_descriptor.__get__"))) &&
  (decide (PySem.W.takesIn K (.builtin "object.__class__") = some true) && (decide (PySem.W.kitOne K (.ref (He.ga K x)) (.ref (He.ga K x)) = some true) && decide (PySem.W.kitOne K (.type "int") (.ref (He.ga K x)) = some false))))))))
/-- a module's name that holds a built-in function -/
def gblB (K : PySem.W.Frag) (x : Str) (id : String) : Bool := He.eqO (PySem.W.nsIn K mainGlobals x) (some (some (.builtin id)))
theorem gblB_ok {K : PySem.W.Frag} {h : Heap} {mg : Str → Option Value} (X : K.In h) (G : h.Ns mainGlobals mg) {x : Str} {id : String} (c : gblB K x id = true) : mg x = some (.builtin id) := PySem.W.mg_of X G (He.eqO_ok c)
end Sf

namespace Sf
open PySem PySem.Spec PyProof.Rows L2
def top (i : Nat) : Stmt := PySem.Challenge.pw_signfours_k26_whole_common_roots.main.body.getD i (.Pass ⟨0, 0, 0, 0⟩)
abbrev s_P__wall : Stmt := top 1
theorem sc_P__wall : FnScope ["k"] ["k"] (defScope s_P__wall) := ⟨rfl, rfl, rfl, by decide +kernel, rfl, by decide +kernel, by decide +kernel⟩
abbrev s_P_is_integer : Stmt := top 3
theorem sc_P_is_integer : FnScope ["value"] ["value"] (defScope s_P_is_integer) := ⟨rfl, rfl, rfl, by decide +kernel, rfl, by decide +kernel, by decide +kernel⟩
abbrev s_P_InvalidNumber___init__ : Stmt := inClass (top 7) 0
theorem sc_P_InvalidNumber___init__ : FnScope ["self", "given"] ["self", "given"] (defScope s_P_InvalidNumber___init__) := ⟨rfl, rfl, rfl, by decide +kernel, rfl, by decide +kernel, by decide +kernel⟩
abbrev s_P_TooMany___init__ : Stmt := inClass (top 8) 0
theorem sc_P_TooMany___init__ : FnScope ["self", "most"] ["self", "most"] (defScope s_P_TooMany___init__) := ⟨rfl, rfl, rfl, by decide +kernel, rfl, by decide +kernel, by decide +kernel⟩
abbrev s_P_is_prime : Stmt := top 11
theorem sc_P_is_prime : FnScope ["value", "divisor"] ["value"] (defScope s_P_is_prime) := ⟨rfl, rfl, rfl, by decide +kernel, rfl, by decide +kernel, by decide +kernel⟩
abbrev s_P_factors : Stmt := top 12
theorem sc_P_factors : FnScope ["number"] ["number"] (defScope s_P_factors) := ⟨rfl, rfl, rfl, by decide +kernel, rfl, by decide +kernel, by decide +kernel⟩
abbrev s_P_prime_powers : Stmt := top 13
theorem sc_P_prime_powers : FnScope ["number", "rest", "found", "divisor"] ["number"] (defScope s_P_prime_powers) := ⟨rfl, rfl, rfl, by decide +kernel, rfl, by decide +kernel, by decide +kernel⟩
abbrev s_P_check_number : Stmt := top 14
theorem sc_P_check_number : FnScope ["value"] ["value"] (defScope s_P_check_number) := ⟨rfl, rfl, rfl, by decide +kernel, rfl, by decide +kernel, by decide +kernel⟩
abbrev s_P_next_divisor : Stmt := top 15
theorem sc_P_next_divisor : FnScope ["divisor"] ["divisor"] (defScope s_P_next_divisor) := ⟨rfl, rfl, rfl, by decide +kernel, rfl, by decide +kernel, by decide +kernel⟩
abbrev s_P_stripped : Stmt := top 16
theorem sc_P_stripped : FnScope ["number", "prime", "many"] ["number", "prime"] (defScope s_P_stripped) := ⟨rfl, rfl, rfl, by decide +kernel, rfl, by decide +kernel, by decide +kernel⟩
abbrev s_P_rest_sign : Stmt := top 17
theorem sc_P_rest_sign : FnScope ["number", "prime"] ["number", "prime"] (defScope s_P_rest_sign) := ⟨rfl, rfl, rfl, by decide +kernel, rfl, by decide +kernel, by decide +kernel⟩
abbrev s_P_power_modulo : Stmt := top 18
theorem sc_P_power_modulo : FnScope ["number", "many", "modulus", "made", "square"] ["number", "many", "modulus"] (defScope s_P_power_modulo) := ⟨rfl, rfl, rfl, by decide +kernel, rfl, by decide +kernel, by decide +kernel⟩
abbrev s_P_square_unit : Stmt := top 20
theorem sc_P_square_unit : FnScope ["unit", "prime"] ["unit", "prime"] (defScope s_P_square_unit) := ⟨rfl, rfl, rfl, by decide +kernel, rfl, by decide +kernel, by decide +kernel⟩
abbrev s_P_signed_places : Stmt := top 22
theorem sc_P_signed_places : FnScope ["a", "b", "divisors", "place"] ["a", "b"] (defScope s_P_signed_places) := ⟨rfl, rfl, rfl, by decide +kernel, rfl, by decide +kernel, by decide +kernel⟩
abbrev s_P_is_square_at : Stmt := top 23
theorem sc_P_is_square_at : FnScope ["number", "place", "many", "unit"] ["number", "place"] (defScope s_P_is_square_at) := ⟨rfl, rfl, rfl, by decide +kernel, rfl, by decide +kernel, by decide +kernel⟩
abbrev s_P_check_place : Stmt := top 24
theorem sc_P_check_place : FnScope ["value"] ["value"] (defScope s_P_check_place) := ⟨rfl, rfl, rfl, by decide +kernel, rfl, by decide +kernel, by decide +kernel⟩
abbrev s_P_sign : Stmt := top 25
theorem sc_P_sign : FnScope ["a", "b", "place"] ["a", "b", "place"] (defScope s_P_sign) := ⟨rfl, rfl, rfl, by decide +kernel, rfl, by decide +kernel, by decide +kernel⟩
abbrev s_P_sign_at_two : Stmt := top 26
theorem sc_P_sign_at_two : FnScope ["a", "b", "s", "one", "t", "other", "told"] ["a", "b"] (defScope s_P_sign_at_two) := ⟨rfl, rfl, rfl, by decide +kernel, rfl, by decide +kernel, by decide +kernel⟩
abbrev s_P_quarter : Stmt := top 27
theorem sc_P_quarter : FnScope ["unit"] ["unit"] (defScope s_P_quarter) := ⟨rfl, rfl, rfl, by decide +kernel, rfl, by decide +kernel, by decide +kernel⟩
abbrev s_P_eighth : Stmt := top 28
theorem sc_P_eighth : FnScope ["unit"] ["unit"] (defScope s_P_eighth) := ⟨rfl, rfl, rfl, by decide +kernel, rfl, by decide +kernel, by decide +kernel⟩
abbrev s_P_sign_at_odd : Stmt := top 29
theorem sc_P_sign_at_odd : FnScope ["a", "b", "prime", "s", "one", "t", "other", "told"] ["a", "b", "prime"] (defScope s_P_sign_at_odd) := ⟨rfl, rfl, rfl, by decide +kernel, rfl, by decide +kernel, by decide +kernel⟩
abbrev s_P_Algebra___init__ : Stmt := inClass (top 31) 0
theorem sc_P_Algebra___init__ : FnScope ["self", "a", "b"] ["self", "a", "b"] (defScope s_P_Algebra___init__) := ⟨rfl, rfl, rfl, by decide +kernel, rfl, by decide +kernel, by decide +kernel⟩
abbrev s_P_Algebra_basis : Stmt := inClass (top 31) 1
theorem sc_P_Algebra_basis : FnScope ["self"] ["self"] (defScope s_P_Algebra_basis) := ⟨rfl, rfl, rfl, by decide +kernel, rfl, by decide +kernel, by decide +kernel⟩
abbrev s_P_Algebra___eq__ : Stmt := inClass (top 31) 2
theorem sc_P_Algebra___eq__ : FnScope ["self", "value"] ["self", "value"] (defScope s_P_Algebra___eq__) := ⟨rfl, rfl, rfl, by decide +kernel, rfl, by decide +kernel, by decide +kernel⟩
abbrev s_P_Algebra___str__ : Stmt := inClass (top 31) 3
theorem sc_P_Algebra___str__ : FnScope ["self"] ["self"] (defScope s_P_Algebra___str__) := ⟨rfl, rfl, rfl, by decide +kernel, rfl, by decide +kernel, by decide +kernel⟩
abbrev s_P_check_algebra : Stmt := top 32
theorem sc_P_check_algebra : FnScope ["value"] ["value"] (defScope s_P_check_algebra) := ⟨rfl, rfl, rfl, by decide +kernel, rfl, by decide +kernel, by decide +kernel⟩
abbrev s_P_product_of_primes : Stmt := top 33
theorem sc_P_product_of_primes : FnScope ["places", "made", "place"] ["places"] (defScope s_P_product_of_primes) := ⟨rfl, rfl, rfl, by decide +kernel, rfl, by decide +kernel, by decide +kernel⟩
abbrev s_P_has_root : Stmt := top 38
theorem sc_P_has_root : FnScope ["algebra", "number"] ["algebra", "number"] (defScope s_P_has_root) := ⟨rfl, rfl, rfl, by decide +kernel, rfl, by decide +kernel, by decide +kernel⟩
abbrev s_P_common_root : Stmt := top 39
theorem sc_P_common_root : FnScope ["one", "other", "places", "start", "place", "number"] ["one", "other"] (defScope s_P_common_root) := ⟨rfl, rfl, rfl, by decide +kernel, rfl, by decide +kernel, by decide +kernel⟩
abbrev s_P_is_common_root : Stmt := top 40
theorem sc_P_is_common_root : FnScope ["one", "other", "value"] ["one", "other", "value"] (defScope s_P_is_common_root) := ⟨rfl, rfl, rfl, by decide +kernel, rfl, by decide +kernel, by decide +kernel⟩
abbrev s_P_check_sides : Stmt := top 41
theorem sc_P_check_sides : FnScope ["one", "other"] ["one", "other"] (defScope s_P_check_sides) := ⟨rfl, rfl, rfl, by decide +kernel, rfl, by decide +kernel, by decide +kernel⟩
abbrev s_P_check_root : Stmt := top 42
theorem sc_P_check_root : FnScope ["algebra", "number"] ["algebra", "number"] (defScope s_P_check_root) := ⟨rfl, rfl, rfl, by decide +kernel, rfl, by decide +kernel, by decide +kernel⟩
abbrev s_P_check_side : Stmt := top 43
theorem sc_P_check_side : FnScope ["algebra"] ["algebra"] (defScope s_P_check_side) := ⟨rfl, rfl, rfl, by decide +kernel, rfl, by decide +kernel, by decide +kernel⟩
abbrev s_P_is_square : Stmt := top 44
theorem sc_P_is_square : FnScope ["number"] ["number"] (defScope s_P_is_square) := ⟨rfl, rfl, rfl, by decide +kernel, rfl, by decide +kernel, by decide +kernel⟩
abbrev s_P_square_places : Stmt := top 45
theorem sc_P_square_places : FnScope ["places", "number", "place"] ["places", "number"] (defScope s_P_square_places) := ⟨rfl, rfl, rfl, by decide +kernel, rfl, by decide +kernel, by decide +kernel⟩
abbrev s_P_places_of_both : Stmt := top 46
theorem sc_P_places_of_both : FnScope ["one", "other"] ["one", "other"] (defScope s_P_places_of_both) := ⟨rfl, rfl, rfl, by decide +kernel, rfl, by decide +kernel, by decide +kernel⟩
abbrev s_L_jug : Stmt := top 48
theorem sc_L_jug : FnScope ["_law_script", "_law_spot", "_law_cell", "_law_great", "_law_mixed"] ["_law_script", "_law_spot"] (defScope s_L_jug) := ⟨rfl, rfl, rfl, by decide +kernel, rfl, by decide +kernel, by decide +kernel⟩
abbrev s_L_pour : Stmt := top 49
theorem sc_L_pour : FnScope ["_law_jug_here", "_law_many", "_law_found", "_law_one", "_law_two"] ["_law_jug_here", "_law_many"] (defScope s_L_pour) := ⟨rfl, rfl, rfl, by decide +kernel, rfl, by decide +kernel, by decide +kernel⟩
abbrev s_L_of : Stmt := top 50
theorem sc_L_of : FnScope ["_law_jug_here", "_law_items"] ["_law_jug_here", "_law_items"] (defScope s_L_of) := ⟨rfl, rfl, rfl, by decide +kernel, rfl, by decide +kernel, by decide +kernel⟩
abbrev s_L_parts : Stmt := top 51
theorem sc_L_parts : FnScope ["_law_number", "_law_found", "_law_left", "_law_prime", "_law_many"] ["_law_number"] (defScope s_L_parts) := ⟨rfl, rfl, rfl, by decide +kernel, rfl, by decide +kernel, by decide +kernel⟩
abbrev s_L_residue : Stmt := top 52
theorem sc_L_residue : FnScope ["_law_number", "_law_prime", "_law_found", "_law_base", "_law_left"] ["_law_number", "_law_prime"] (defScope s_L_residue) := ⟨rfl, rfl, rfl, by decide +kernel, rfl, by decide +kernel, by decide +kernel⟩
abbrev s_L_bare : Stmt := top 53
theorem sc_L_bare : FnScope ["_law_number", "_law_prime", "_law_many"] ["_law_number", "_law_prime"] (defScope s_L_bare) := ⟨rfl, rfl, rfl, by decide +kernel, rfl, by decide +kernel, by decide +kernel⟩
abbrev s_L_sign : Stmt := top 54
theorem sc_L_sign : FnScope ["_law_a", "_law_b", "_law_place", "_law_s", "_law_left", "_law_t", "_law_right_here", "_law_odd", "_law_marks", "_law_found"] ["_law_a", "_law_b", "_law_place"] (defScope s_L_sign) := ⟨rfl, rfl, rfl, by decide +kernel, rfl, by decide +kernel, by decide +kernel⟩
abbrev s_L_places : Stmt := top 55
theorem sc_L_places : FnScope ["_law_a", "_law_b", "_law_near", "_law_part", "_law_place"] ["_law_a", "_law_b"] (defScope s_L_places) := ⟨rfl, rfl, rfl, by decide +kernel, rfl, by decide +kernel, by decide +kernel⟩
abbrev s_L_is_local_square : Stmt := top 56
theorem sc_L_is_local_square : FnScope ["_law_number", "_law_place", "_law_many", "_law_left"] ["_law_number", "_law_place"] (defScope s_L_is_local_square) := ⟨rfl, rfl, rfl, by decide +kernel, rfl, by decide +kernel, by decide +kernel⟩
abbrev s_L_drawn : Stmt := top 57
theorem sc_L_drawn : FnScope ["_law_jug_here", "_law_most", "_law_found"] ["_law_jug_here", "_law_most"] (defScope s_L_drawn) := ⟨rfl, rfl, rfl, by decide +kernel, rfl, by decide +kernel, by decide +kernel⟩
abbrev s_L_pair : Stmt := top 58
theorem sc_L_pair : FnScope ["_law_jug_here", "_law_most"] ["_law_jug_here"] (defScope s_L_pair) := ⟨rfl, rfl, rfl, by decide +kernel, rfl, by decide +kernel, by decide +kernel⟩
abbrev s_L_partner : Stmt := top 59
theorem sc_L_partner : FnScope ["_law_jug_here", "_law_a", "_law_b", "_law_x", "_law_y", "_law_way", "_law_norm"] ["_law_jug_here", "_law_a", "_law_b"] (defScope s_L_partner) := ⟨rfl, rfl, rfl, by decide +kernel, rfl, by decide +kernel, by decide +kernel⟩
abbrev s_L_is_square : Stmt := top 60
theorem sc_L_is_square : FnScope ["_law_number", "_law_root"] ["_law_number"] (defScope s_L_is_square) := ⟨rfl, rfl, rfl, by decide +kernel, rfl, by decide +kernel, by decide +kernel⟩
abbrev s_L_is_due : Stmt := top 61
theorem sc_L_is_due : FnScope ["_law_one", "_law_other", "_law_value", "_law_some", "_law_place"] ["_law_one", "_law_other", "_law_value"] (defScope s_L_is_due) := ⟨rfl, rfl, rfl, by decide +kernel, rfl, by decide +kernel, by decide +kernel⟩
abbrev s_L_right : Stmt := top 62
theorem sc_L_right : FnScope ["_law_jug_here", "_law_a", "_law_b", "_law_c", "_law_d", "_law_one", "_law_other", "_law_told", "_law_values", "_law_turn", "_law_value"] ["_law_jug_here"] (defScope s_L_right) := ⟨rfl, rfl, rfl, by decide +kernel, rfl, by decide +kernel, by decide +kernel⟩
abbrev s_L_law : Stmt := top 63
theorem sc_L_law : FnScope ["_law_script", "_law_spot", "_law_plain", "_law_eleven", "_law_value"] ["_law_script"] (defScope s_L_law) := ⟨rfl, rfl, rfl, by decide +kernel, rfl, by decide +kernel, by decide +kernel⟩
end Sf

namespace Sf
open PySem PySem.Spec PyProof.Rows L2
def d_L_jug : He.DefD := ⟨("_law_jug", none), "_law_jug", "_law_jug", defArgs s_L_jug, defBody s_L_jug, defScope s_L_jug, [], []⟩
def d_L_pour : He.DefD := ⟨("_law_pour", none), "_law_pour", "_law_pour", defArgs s_L_pour, defBody s_L_pour, defScope s_L_pour, [], []⟩
def d_L_of : He.DefD := ⟨("_law_of", none), "_law_of", "_law_of", defArgs s_L_of, defBody s_L_of, defScope s_L_of, [], []⟩
def d_L_drawn : He.DefD := ⟨("_law_drawn", none), "_law_drawn", "_law_drawn", defArgs s_L_drawn, defBody s_L_drawn, defScope s_L_drawn, [], []⟩
def d_L_pair : He.DefD := ⟨("_law_pair", none), "_law_pair", "_law_pair", defArgs s_L_pair, defBody s_L_pair, defScope s_L_pair, [], []⟩
def d_L_partner : He.DefD := ⟨("_law_partner", none), "_law_partner", "_law_partner", defArgs s_L_partner, defBody s_L_partner, defScope s_L_partner, [], []⟩
def d_P_check_algebra : He.DefD := ⟨("check_algebra", none), "check_algebra", "check_algebra", defArgs s_P_check_algebra, defBody s_P_check_algebra, defScope s_P_check_algebra, [], []⟩
def d_P_check_side : He.DefD := ⟨("check_side", none), "check_side", "check_side", defArgs s_P_check_side, defBody s_P_check_side, defScope s_P_check_side, [], []⟩
def d_P_check_sides : He.DefD := ⟨("check_sides", none), "check_sides", "check_sides", defArgs s_P_check_sides, defBody s_P_check_sides, defScope s_P_check_sides, [], []⟩
def d_P_places_of_both : He.DefD := ⟨("places_of_both", none), "places_of_both", "places_of_both", defArgs s_P_places_of_both, defBody s_P_places_of_both, defScope s_P_places_of_both, [], []⟩
def d_P_is_integer : He.DefD := ⟨("is_integer", none), "is_integer", "is_integer", defArgs s_P_is_integer, defBody s_P_is_integer, defScope s_P_is_integer, [], []⟩
def d_P_check_number : He.DefD := ⟨("check_number", none), "check_number", "check_number", defArgs s_P_check_number, defBody s_P_check_number, defScope s_P_check_number, [], []⟩
def d_P_next_divisor : He.DefD := ⟨("next_divisor", none), "next_divisor", "next_divisor", defArgs s_P_next_divisor, defBody s_P_next_divisor, defScope s_P_next_divisor, [], []⟩
def d_P_is_prime : He.DefD := ⟨("is_prime", none), "is_prime", "is_prime", defArgs s_P_is_prime, defBody s_P_is_prime, defScope s_P_is_prime, [], []⟩
def d_P_check_place : He.DefD := ⟨("check_place", none), "check_place", "check_place", defArgs s_P_check_place, defBody s_P_check_place, defScope s_P_check_place, [], []⟩
def d_P_stripped : He.DefD := ⟨("stripped", none), "stripped", "stripped", defArgs s_P_stripped, defBody s_P_stripped, defScope s_P_stripped, [], []⟩
def d_P_power_modulo : He.DefD := ⟨("power_modulo", none), "power_modulo", "power_modulo", defArgs s_P_power_modulo, defBody s_P_power_modulo, defScope s_P_power_modulo, [], []⟩
def d_P_rest_sign : He.DefD := ⟨("rest_sign", none), "rest_sign", "rest_sign", defArgs s_P_rest_sign, defBody s_P_rest_sign, defScope s_P_rest_sign, [], []⟩
def d_P_square_unit : He.DefD := ⟨("square_unit", none), "square_unit", "square_unit", defArgs s_P_square_unit, defBody s_P_square_unit, defScope s_P_square_unit, [], []⟩
def d_P_is_square_at : He.DefD := ⟨("is_square_at", none), "is_square_at", "is_square_at", defArgs s_P_is_square_at, defBody s_P_is_square_at, defScope s_P_is_square_at, [], []⟩
def d_P_square_places : He.DefD := ⟨("square_places", none), "square_places", "square_places", defArgs s_P_square_places, defBody s_P_square_places, defScope s_P_square_places, [], []⟩
def d_P_common_root : He.DefD := ⟨("common_root", none), "common_root", "common_root", defArgs s_P_common_root, defBody s_P_common_root, defScope s_P_common_root, [], []⟩
def d_P_is_square : He.DefD := ⟨("is_square", none), "is_square", "is_square", defArgs s_P_is_square, defBody s_P_is_square, defScope s_P_is_square, [], []⟩
def d_P_is_common_root : He.DefD := ⟨("is_common_root", none), "is_common_root", "is_common_root", defArgs s_P_is_common_root, defBody s_P_is_common_root, defScope s_P_is_common_root, [], []⟩
def d_L_is_square : He.DefD := ⟨("_law_is_square", none), "_law_is_square", "_law_is_square", defArgs s_L_is_square, defBody s_L_is_square, defScope s_L_is_square, [], []⟩
def d_L_parts : He.DefD := ⟨("_law_parts", none), "_law_parts", "_law_parts", defArgs s_L_parts, defBody s_L_parts, defScope s_L_parts, [], []⟩
def d_L_bare : He.DefD := ⟨("_law_bare", none), "_law_bare", "_law_bare", defArgs s_L_bare, defBody s_L_bare, defScope s_L_bare, [], []⟩
def d_L_residue : He.DefD := ⟨("_law_residue", none), "_law_residue", "_law_residue", defArgs s_L_residue, defBody s_L_residue, defScope s_L_residue, [], []⟩
def d_L_sign : He.DefD := ⟨("_law_sign", none), "_law_sign", "_law_sign", defArgs s_L_sign, defBody s_L_sign, defScope s_L_sign, [], []⟩
def d_L_places : He.DefD := ⟨("_law_places", none), "_law_places", "_law_places", defArgs s_L_places, defBody s_L_places, defScope s_L_places, [], []⟩
def d_L_is_local_square : He.DefD := ⟨("_law_is_local_square", none), "_law_is_local_square", "_law_is_local_square", defArgs s_L_is_local_square, defBody s_L_is_local_square, defScope s_L_is_local_square, [], []⟩
def d_L_is_due : He.DefD := ⟨("_law_is_due", none), "_law_is_due", "_law_is_due", defArgs s_L_is_due, defBody s_L_is_due, defScope s_L_is_due, [], []⟩
def d_P_check_root : He.DefD := ⟨("check_root", none), "check_root", "check_root", defArgs s_P_check_root, defBody s_P_check_root, defScope s_P_check_root, [], []⟩
def d_P_has_root : He.DefD := ⟨("has_root", none), "has_root", "has_root", defArgs s_P_has_root, defBody s_P_has_root, defScope s_P_has_root, [], []⟩
def d_P_prime_powers : He.DefD := ⟨("prime_powers", none), "prime_powers", "prime_powers", defArgs s_P_prime_powers, defBody s_P_prime_powers, defScope s_P_prime_powers, [], []⟩
def d_P_factors : He.DefD := ⟨("factors", none), "factors", "factors", defArgs s_P_factors, defBody s_P_factors, defScope s_P_factors, [], []⟩
def d_P_quarter : He.DefD := ⟨("quarter", none), "quarter", "quarter", defArgs s_P_quarter, defBody s_P_quarter, defScope s_P_quarter, [], []⟩
def d_P_eighth : He.DefD := ⟨("eighth", none), "eighth", "eighth", defArgs s_P_eighth, defBody s_P_eighth, defScope s_P_eighth, [], []⟩
def d_P_sign_at_two : He.DefD := ⟨("sign_at_two", none), "sign_at_two", "sign_at_two", defArgs s_P_sign_at_two, defBody s_P_sign_at_two, defScope s_P_sign_at_two, [], []⟩
def d_P_sign_at_odd : He.DefD := ⟨("sign_at_odd", none), "sign_at_odd", "sign_at_odd", defArgs s_P_sign_at_odd, defBody s_P_sign_at_odd, defScope s_P_sign_at_odd, [], []⟩
def d_P_sign : He.DefD := ⟨("sign", none), "sign", "sign", defArgs s_P_sign, defBody s_P_sign, defScope s_P_sign, [], []⟩
def d_P_signed_places : He.DefD := ⟨("signed_places", none), "signed_places", "signed_places", defArgs s_P_signed_places, defBody s_P_signed_places, defScope s_P_signed_places, [], []⟩
def d_P_product_of_primes : He.DefD := ⟨("product_of_primes", none), "product_of_primes", "product_of_primes", defArgs s_P_product_of_primes, defBody s_P_product_of_primes, defScope s_P_product_of_primes, [], []⟩
def d_P_Algebra___init__ : He.DefD := ⟨("Algebra", some "__init__"), "__init__", "Algebra.__init__", defArgs s_P_Algebra___init__, defBody s_P_Algebra___init__, defScope s_P_Algebra___init__, [], []⟩
def d_L_right : He.DefD := ⟨("_law_right", none), "_law_right", "_law_right", defArgs s_L_right, defBody s_L_right, defScope s_L_right, [], []⟩
def d_L_law : He.DefD := ⟨("law", none), "law", "law", defArgs s_L_law, defBody s_L_law, defScope s_L_law, [], []⟩
def fn : List He.DefD := [d_L_jug, d_L_pour, d_L_of, d_L_drawn, d_L_pair, d_L_partner, d_P_check_algebra, d_P_check_side, d_P_check_sides, d_P_places_of_both, d_P_is_integer, d_P_check_number, d_P_next_divisor, d_P_is_prime, d_P_check_place, d_P_stripped, d_P_power_modulo, d_P_rest_sign, d_P_square_unit, d_P_is_square_at, d_P_square_places, d_P_common_root, d_P_is_square, d_P_is_common_root, d_L_is_square, d_L_parts, d_L_bare, d_L_residue, d_L_sign, d_L_places, d_L_is_local_square, d_L_is_due, d_P_check_root, d_P_has_root, d_P_prime_powers, d_P_factors, d_P_quarter, d_P_eighth, d_P_sign_at_two, d_P_sign_at_odd, d_P_sign, d_P_signed_places, d_P_product_of_primes, d_P_Algebra___init__, d_L_right, d_L_law]
def fa : List He.Fa := ([.glo "_law_jug", .glo "_law_pour", .glo "_law_of", .glo "_law_drawn", .glo "_law_pair", .glo "_law_partner", .glo "check_algebra", .glo "check_side", .glo "check_sides", .glo "places_of_both", .glo "is_integer", .glo "check_number", .glo "next_divisor", .glo "is_prime", .glo "check_place", .glo "stripped", .glo "power_modulo", .glo "rest_sign", .glo "square_unit", .glo "is_square_at", .glo "square_places", .glo "common_root", .glo "is_square", .glo "is_common_root", .glo "_law_is_square", .glo "_law_parts", .glo "_law_bare", .glo "_law_residue", .glo "_law_sign", .glo "_law_places"] : List He.Fa) ++ ([.glo "_law_is_local_square", .glo "_law_is_due", .glo "check_root", .glo "has_root", .glo "prime_powers", .glo "factors", .glo "quarter", .glo "eighth", .glo "sign_at_two", .glo "sign_at_odd", .glo "sign", .glo "signed_places", .glo "product_of_primes", .glo "_law_right", .glo "law", .free "isinstance", .free "int", .free "bool", .free "abs", .free "sorted", .free "tuple", .free "set", .free "len", .free "max", .free "sum", .free "range", .free "repr", .free "min", .int "MAX_NUMBER" 1000000000, .int "MOST_START" 100000] : List He.Fa) ++ ([.int "MAX_COMMON" 1000000000, .int "MAX_SIDE" 10000, .glo "Algebra", .cls "Algebra", .noat "Algebra" "places", .noat "Algebra" "a", .noat "Algebra" "b", .noat "Algebra" "discriminant", .noat "Algebra" "is_tables", .noat "Algebra" "is_definite", .mkr "Algebra"] : List He.Fa)
def ex (K : PySem.W.Frag) : Bool := gblB K "isqrt" "math.isqrt" && (ownB K "Algebra" && (true))
abbrev R : PySem.W.OpenRow := PySem.W.OpenLaw.row PySem.Challenge.rw_signfours_k26_whole_common_roots
abbrev hk : PySem.W.Hook := hookO 4 fa fn ex
def ob (s : PySem.W.SharedT) : AlO := obsO 4 fa fn ex (HandSHeadRun.getT s)
theorem ob_eq (s : PySem.W.SharedT) : ob s = hk.obs s.abs := obsO_eq (HandSHeadRun.getT_eq s)
def loose : List Str := (["_wall", "is_integer", "FourError", "InvalidAlgebra", "InvalidNumber", "TooMany", "MAX_NUMBER", "is_prime", "factors", "prime_powers", "check_number", "next_divisor", "stripped", "rest_sign", "power_modulo", "square_unit", "signed_places", "is_square_at", "check_place", "sign", "sign_at_two", "quarter", "eighth", "sign_at_odd", "Algebra", "check_algebra", "product_of_primes", "MAX_SIDE", "MAX_COMMON", "MOST_START"] : List Str) ++ (["has_root", "common_root", "is_common_root", "check_sides", "check_root", "check_side", "is_square", "square_places", "places_of_both", "_law_jug", "_law_pour", "_law_of", "_law_parts", "_law_residue", "_law_bare", "_law_sign", "_law_places", "_law_is_local_square", "_law_drawn", "_law_pair", "_law_partner", "_law_is_square", "_law_is_due", "_law_right"] : List Str)
set_option maxHeartbeats 0 in
theorem run (w : World) : HandSHeadRun.RunEqI R (PySem.W.view R.prog [0, 63]) hk ob 20000 loose w := by
  unfold HandSHeadRun.RunEqI
  kernel_rfl
end Sf

namespace Sf
open PySem PySem.Spec PyProof.Rows L2
abbrev FnD (K : PySem.W.Frag) (x qual : Str) (st : Stmt) (f : Addr) (fd : FuncData) : Prop := FunD K x qual (defArgs st) (defBody st) (defScope st) [] [] f fd
/-- a def with defaults -/
abbrev FnDD (K : PySem.W.Frag) (x qual : Str) (st : Stmt) (dvs : List V) (f : Addr) (fd : FuncData) : Prop := FunD K x qual (defArgs st) (defBody st) (defScope st) dvs [] f fd
theorem lt3000 {a : Int} (h0 : 0 ≤ a) (h : a < 10 ^ 400) : a.natAbs < 2 ^ 3000 := by
  have h1 : (10 : Int) ^ 400 < 2 ^ 3000 := by decide +kernel
  have h2 : ((a.natAbs : Nat) : Int) < ((2 ^ 3000 : Nat) : Int) := by
    rw [Int.natAbs_of_nonneg h0]
    exact Int.lt_trans h h1
  exact Int.ofNat_lt.mp h2
theorem lt3000s {a : Int} (h0 : -1000000000000000000000000000000 < a) (h : a < 1000000000000000000000000000000) : a.natAbs < 2 ^ 3000 := Nat.lt_trans (by omega : a.natAbs < 1000000000000000000000000000000) (by decide +kernel)
theorem inV_two (x a b : Int) : inV (.int x) [.int a, .int b] = decide (x = a ∨ x = b) := by
  show ((a == x) || ((b == x) || false)) = _
  rw [Bool.or_false, Bool.eq_iff_iff]
  simp only [Bool.or_eq_true, beq_iff_eq, decide_eq_true_eq]
  constructor
  · rintro (h | h)
    · exact .inl h.symm
    · exact .inr h.symm
  · rintro (h | h)
    · exact .inl h.symm
    · exact .inr h.symm
theorem inV_ints (x : Int) (l : List Int) : inV (.int x) (l.map V.int) = decide (x ∈ l) := by
  unfold inV
  rw [List.any_map, Bool.eq_iff_iff, List.any_eq_true]
  simp only [decide_eq_true_eq]
  constructor
  · rintro ⟨y, hy, e⟩
    have e2 : (y == x) = true := e
    rw [← beq_iff_eq.mp e2]
    exact hy
  · intro h
    refine ⟨x, h, ?_⟩
    show (x == x) = true
    exact beq_self_eq_true x
theorem all_flat (l : List Int) : (l.map V.int).all flatV = true := by
  rw [List.all_map, List.all_eq_true]
  intro x _
  rfl
end Sf

namespace Sf
open PySem PySem.Spec PyProof.Rows L2
section
variable {P : Program} {w : World} {K : PySem.W.Frag} {mg : Str → Option Value} {base : Heap} {f : Addr} {fd : FuncData}
def spNext : Sp := fun vs H Q _ => ∃ d : Int, vs = [.int d] ∧ Q (.int (if d = 2 then 3 else d + 2)) H
theorem ok_next (F : FnD K "next_divisor" "next_divisor" s_P_next_divisor f fd) : FnOk P w K mg base CX0 1 f fd ["divisor"] spNext := by
  refine F.ok sc_P_next_divisor (fun vs H Q E h => ?_) (fun cdv A outer s H vs Q E hr h => ?_)
  · obtain ⟨d, rfl, _⟩ := h; rfl
  · obtain ⟨d, rfl, q⟩ := h
    refine ⟨_, PSs.nox (pss_one (ps_ret (pe_ifExp (pt_cmp (pc_eqI (pv 0) pe_int)) pe_int (pe_op op_add (pv 0) pe_int)))), ?_⟩
    refine ⟨_, rfl, _, _, rfl, rfl, _, rfl, ifd (fun h => ?_) (fun h => ?_)⟩
    · rw [if_pos h] at q
      exact q
    · rw [if_neg h] at q
      exact ⟨_, rfl, _, _, rfl, rfl, q⟩
end
end Sf

namespace Sf
open PySem PySem.Spec PyProof.Rows L2
section
variable {P : Program} {w : World} {K : PySem.W.Frag} {mg : Str → Option Value} {base : Heap} {f : Addr} {fd : FuncData}
/-- what is left of a number other than 0, and how often p was taken out -/
def Strip (n p : Int) (m : Nat) (u : Int) : Prop := n = p ^ m * u ∧ u % p ≠ 0
def spStripped : Sp := fun vs H Q _ => ∃ n p : Int, vs = [.int n, .int p] ∧ n ≠ 0 ∧ 2 ≤ p ∧ p.natAbs < 2 ^ 3000 ∧
  ∀ (m : Nat) (u : Int) (a : Addr), Strip n p m u → H a = none → Q (.ref a) (upd H a (.tup [.int m, .int u]))
theorem strip_less {u p : Int} (hu : u ≠ 0) (hp : 2 ≤ p) (h : u % p = 0) : (u / p).natAbs < u.natAbs ∧ u / p ≠ 0 ∧ u = p * (u / p) := by
  have e : u = p * (u / p) := by
    have := Int.emod_add_mul_ediv u p
    omega
  have h2 : u / p ≠ 0 := fun z => by
    rw [z] at e
    omega
  refine ⟨?_, h2, e⟩
  have e2 : u.natAbs = p.natAbs * (u / p).natAbs := by
    conv => lhs; rw [e]
    exact Int.natAbs_mul _ _
  have h3 : 0 < (u / p).natAbs := by omega
  have h4 : 2 ≤ p.natAbs := by omega
  have h5 : 2 * (u / p).natAbs ≤ p.natAbs * (u / p).natAbs := Nat.mul_le_mul_right _ h4
  omega
theorem ok_stripped (F : FnD K "stripped" "stripped" s_P_stripped f fd) : FnOk P w K mg base CX0 1 f fd ["number", "prime"] spStripped := by
  refine F.ok sc_P_stripped (fun vs H Q E h => ?_) (fun cdv A outer s H vs Q E hr h => ?_)
  · obtain ⟨n, p, rfl, _⟩ := h; rfl
  · obtain ⟨n, p, rfl, hn, hp, hb, q⟩ := h
    refine ⟨_, PSs.nox (pss_cons (ps_set (i := 2) sc_P_stripped.nd rfl (Or.inl rfl) pe_int)
      (pss_cons (ps_while PassesOwn.never (pt_cmp (pc_eqI (pe_op op_mod (pv 0) (pv 1)) pe_int)) (pss_cons (ps_set (i := 2) sc_P_stripped.nd rfl (Or.inl rfl) (pe_op op_add (pv 2) pe_int))
      (pss_one (ps_set (i := 0) sc_P_stripped.nd rfl (Or.inl rfl) (pe_op op_fdivW (pv 0) (pv 1))))))
      (pss_one (ps_ret (pe_tup (pa_cons (pv 2) (pa_cons (pv 0) pa_nil))))))), ?_⟩
    refine ⟨fun c σ H' => H' = H ∧ ∃ (m : Nat) (u : Int), σ = [some (.int u), some (.int p), some (.int m)] ∧ n = p ^ m * u ∧ u ≠ 0 ∧ c = u.natAbs, ⟨_, rfl, 0, n, rfl, by simp, hn, rfl⟩, ?_⟩
    rintro c σ _ ⟨rfl, m, u, rfl, e, hu, rfl⟩
    refine ⟨_, rfl, _, rfl, _, _, rfl, rfl, (by omega), _, _, rfl, rfl, _, rfl, ifd (fun h => ⟨_, fun _ _ z => z, ?_⟩) (fun h => ?_)⟩
    · have hl := strip_less hu hp h
      refine ⟨_, rfl, _, _, rfl, rfl, _, rfl, _, rfl, _, _, rfl, rfl, CDivW.of (by omega) hb, ?_⟩
      refine ⟨_, hl.1, rfl, m + 1, u / p, rfl, ?_, hl.2.1, rfl⟩
      rw [e, Int.pow_succ, Int.mul_assoc, ← hl.2.2]
    · refine ⟨_, rfl, _, rfl, (by show 2 ≤ sizeLine; decide), fun a ha => ?_⟩
      exact q m u a ⟨e, h⟩ ha
end
end Sf

namespace Sf
open PySem PySem.Spec PyProof.Rows L2
section
variable {P : Program} {w : World} {K : PySem.W.Frag} {mg : Str → Option Value} {base : Heap} {f : Addr} {fd : FuncData}
theorem pow_mod (a m : Int) (k : Nat) : (a % m) ^ k % m = a ^ k % m := by
  induction k with
  | zero => rw [Int.pow_zero, Int.pow_zero]
  | succ k ih => rw [Int.pow_succ, Int.pow_succ, Int.mul_emod, ih, Int.emod_emod_of_dvd _ (Int.dvd_refl _), ← Int.mul_emod]
/-- a power, reduced -/
def spPowMod : Sp := fun vs H Q _ => ∃ n k m : Int, vs = [.int n, .int k, .int m] ∧ 0 ≤ k ∧ 1 ≤ m ∧ m.natAbs < 2 ^ 1000 ∧ Q (.int (n ^ k.toNat % m)) H
theorem mod_lt3000 {a m : Int} (h1 : 1 ≤ m) (hb : m.natAbs < 2 ^ 1000) : (a % m).natAbs < 2 ^ 3000 := by
  have h2 := Int.emod_nonneg a (by omega : m ≠ 0)
  have h3 := Int.emod_lt_of_pos a (by omega : 0 < m)
  have h4 : (a % m).natAbs < 2 ^ 1000 := by omega
  exact Nat.lt_trans h4 (by decide +kernel)
theorem pow_half (a : Int) (k : Int) (hk : 0 < k) : a ^ k.toNat = (a * a) ^ (k / 2).toNat * a ^ (k % 2).toNat := by
  have e : k.toNat = (k / 2).toNat + (k / 2).toNat + (k % 2).toNat := by omega
  rw [e, Int.pow_add, Int.pow_add, Int.mul_pow]
theorem ok_powmod (F : FnD K "power_modulo" "power_modulo" s_P_power_modulo f fd) : FnOk P w K mg base CX0 1 f fd ["number", "many", "modulus"] spPowMod := by
  refine F.ok sc_P_power_modulo (fun vs H Q E h => ?_) (fun cdv A outer s H vs Q E hr h => ?_)
  · obtain ⟨n, k, m, rfl, _⟩ := h; rfl
  · obtain ⟨n, k, m, rfl, hk, hm, hb, q⟩ := h
    refine ⟨_, PSs.nox (pss_cons (ps_set (i := 3) sc_P_power_modulo.nd rfl (Or.inl rfl) (pe_op op_mod pe_int (pv 2)))
      (pss_cons (ps_set (i := 4) sc_P_power_modulo.nd rfl (Or.inl rfl) (pe_op op_mod (pv 0) (pv 2)))
      (pss_cons (ps_while PassesOwn.never (pt_cmp (pc_gt (pv 1) pe_int)) (pss_cons (ps_if (pt_cmp (pc_eqI (pe_op op_mod (pv 1) pe_int) pe_int)) (pss_one (ps_set (i := 3) sc_P_power_modulo.nd rfl (Or.inl rfl) (pe_op op_mod (pe_op op_mulW (pv 3) (pv 4)) (pv 2)))) pss_nil)
      (pss_cons (ps_set (i := 4) sc_P_power_modulo.nd rfl (Or.inl rfl) (pe_op op_mod (pe_op op_mulW (pv 4) (pv 4)) (pv 2)))
      (pss_one (ps_set (i := 1) sc_P_power_modulo.nd rfl (Or.inl rfl) (pe_op op_fdivW (pv 1) pe_int))))))
      (pss_one (ps_ret (pv 3)))))), ?_⟩
    have hm0 : (0 : Int) < m := by omega
    refine ⟨_, rfl, _, _, rfl, rfl, hm0, _, rfl, _, rfl, _, _, rfl, rfl, hm0, ?_⟩
    refine ⟨fun c σ H' => H' = H ∧ ∃ k' made sq : Int, σ = [some (.int n), some (.int k'), some (.int m), some (.int made), some (.int sq)] ∧ 0 ≤ k' ∧ (made * sq ^ k'.toNat) % m = n ^ k.toNat % m ∧ made % m = made ∧ made.natAbs < 2 ^ 3000 ∧ sq.natAbs < 2 ^ 3000 ∧ c = k'.toNat,
      ⟨_, rfl, k, 1 % m, n % m, rfl, hk, ?_, Int.emod_emod_of_dvd _ (Int.dvd_refl _), mod_lt3000 hm hb, mod_lt3000 hm hb, rfl⟩, ?_⟩
    · rw [Int.mul_emod, Int.emod_emod_of_dvd _ (Int.dvd_refl _), ← Int.mul_emod, Int.one_mul]
      exact pow_mod _ _ _
    rintro c σ _ ⟨rfl, k', made, sq, rfl, hk', e, em, b1, b2, rfl⟩
    refine ⟨_, rfl, _, _, rfl, rfl, _, rfl, ifd (fun h => ⟨_, fun _ _ z => z, ?_⟩) (fun h => ?_)⟩
    · have hh := pow_half sq k' h
      have hsq : ((sq * sq) ^ (k' / 2).toNat) % m = ((sq * sq % m) ^ (k' / 2).toNat) % m := (pow_mod _ _ _).symm
      refine ⟨_, rfl, _, _, rfl, rfl, (by show (0 : Int) < 2; decide), _, _, rfl, rfl, _, rfl, ifd (fun h2 => ?_) (fun h2 => ?_)⟩
      · refine ⟨_, rfl, _, rfl, _, _, rfl, rfl, CMulW.of b1 b2, _, rfl, _, _, rfl, rfl, hm0, ?_⟩
        refine ⟨_, rfl, _, rfl, _, _, rfl, rfl, CMulW.of b2 b2, _, rfl, _, _, rfl, rfl, hm0, ?_⟩
        refine ⟨_, rfl, _, _, rfl, rfl, CDivW.of (by decide) (by decide +kernel), ?_⟩
        refine ⟨_, ?_, rfl, k' / 2, _, _, rfl, by omega, ?_, Int.emod_emod_of_dvd _ (Int.dvd_refl _), mod_lt3000 hm hb, mod_lt3000 hm hb, rfl⟩
        · omega
        · rw [← e, hh, h2]
          show made * sq % m * (sq * sq % m) ^ (k' / 2).toNat % m = made * ((sq * sq) ^ (k' / 2).toNat * sq ^ 1) % m
          rw [Int.mul_emod, ← hsq, Int.emod_emod_of_dvd _ (Int.dvd_refl _), ← Int.mul_emod, Int.pow_one]
          congr 1
          rw [Int.mul_assoc, Int.mul_comm sq]
      · refine ⟨_, rfl, _, rfl, _, _, rfl, rfl, CMulW.of b2 b2, _, rfl, _, _, rfl, rfl, hm0, ?_⟩
        refine ⟨_, rfl, _, _, rfl, rfl, CDivW.of (by decide) (by decide +kernel), ?_⟩
        refine ⟨_, ?_, rfl, k' / 2, _, _, rfl, by omega, ?_, em, b1, mod_lt3000 hm hb, rfl⟩
        · omega
        · have h3 : k' % 2 = 0 := by omega
          rw [← e, hh, h3]
          show made * (sq * sq % m) ^ (k' / 2).toNat % m = made * ((sq * sq) ^ (k' / 2).toNat * sq ^ 0) % m
          rw [Int.mul_emod, ← hsq, ← Int.mul_emod, Int.pow_zero, Int.mul_one]
    · have h3 : k' = 0 := by omega
      subst h3
      have e2 : made = n ^ k.toNat % m := by
        rw [← e]
        show made = made * sq ^ 0 % m
        rw [Int.pow_zero, Int.mul_one, em]
      refine ⟨_, rfl, ?_⟩
      rw [e2]
      exact q
end
end Sf

namespace Sf
/-! primes by trial -/
def PrP (n : Int) : Prop := 2 ≤ n ∧ ∀ k : Int, 2 ≤ k → k < n → n % k ≠ 0
theorem prp_of_trial {n d : Int} (hn : 2 ≤ n) (hd : 2 ≤ d) (h : ∀ k : Int, 2 ≤ k → k < d → n % k ≠ 0) (hl : n < d * d) : PrP n := by
  refine ⟨hn, fun k h2 hk hz => ?_⟩
  by_cases hkd : k < d
  · exact h k h2 hkd hz
  · have e : n = k * (n / k) := by
      have := Int.emod_add_mul_ediv n k
      omega
    have hm0 : 0 < n / k := by
      rcases Int.lt_or_le 0 (n / k) with z | z
      · exact z
      · have : k * (n / k) ≤ 0 := Int.mul_nonpos_of_nonneg_of_nonpos (by omega) z
        omega
    have hm1 : n / k ≠ 1 := fun z => by
      rw [z] at e
      omega
    have h3 : d * (n / k) ≤ k * (n / k) := Int.mul_le_mul_of_nonneg_right (by omega) (by omega)
    have h4 : d * (n / k) < d * d := by omega
    have h5 : n / k < d := Int.lt_of_mul_lt_mul_left h4 (by omega)
    refine h (n / k) (by omega) h5 ?_
    rw [e]
    exact Int.emod_eq_zero_of_dvd ⟨k, by rw [Int.mul_ediv_cancel_left _ (by omega : k ≠ 0)]; exact Int.mul_comm _ _⟩
/-- no divisor below d; d is 2 or odd -/
def NoDiv (n d : Int) : Prop := 2 ≤ d ∧ (d = 2 ∨ d % 2 = 1) ∧ ∀ k : Int, 2 ≤ k → k < d → n % k ≠ 0
theorem nodiv2 (n : Int) : NoDiv n 2 := ⟨by omega, .inl rfl, fun k h1 h2 => by omega⟩
theorem mod_of_dvd {n a b : Int} (h : n % b = 0) (hb : b % a = 0) : n % a = 0 := by
  have h1 : b ∣ n := Int.dvd_of_emod_eq_zero h
  have h2 : a ∣ b := Int.dvd_of_emod_eq_zero hb
  exact Int.emod_eq_zero_of_dvd (Int.dvd_trans h2 h1)
theorem nodiv_next {n d : Int} (h : NoDiv n d) (hd : n % d ≠ 0) : NoDiv n (if d = 2 then 3 else d + 2) := by
  obtain ⟨h1, h2, h3⟩ := h
  by_cases e : d = 2
  · rw [if_pos e]
    refine ⟨by omega, .inr rfl, fun k a b => ?_⟩
    have : k = d := by omega
    rw [this]
    exact hd
  · rw [if_neg e]
    refine ⟨by omega, .inr (by omega), fun k a b => ?_⟩
    by_cases c : k < d
    · exact h3 k a c
    · by_cases c2 : k = d
      · rw [c2]
        exact hd
      · intro z
        exact h3 2 (by omega) (by omega) (mod_of_dvd z (by omega))
theorem nodiv_prime {n d : Int} (h : NoDiv n d) (hd : n % d = 0) : PrP d := by
  refine ⟨h.1, fun k a b z => ?_⟩
  exact h.2.2 k a b (mod_of_dvd hd z)
theorem nodiv_of {n u d : Int} (h : NoDiv n d) (hu : n % u = 0) : NoDiv u d := ⟨h.1, h.2.1, fun k a b z => h.2.2 k a b (mod_of_dvd hu z)⟩
theorem nodiv_lt {n d : Int} (h : NoDiv n d) (hn : 2 ≤ n) : d ≤ n := by
  rcases Int.lt_or_le n d with z | z
  · exact absurd Int.emod_self (h.2.2 n hn z)
  · exact z
/-! factors -/
def prodF : List (Int × Nat) → Int
  | [] => 1
  | q :: l => q.1 ^ q.2 * prodF l
theorem prodF_append : ∀ l m : List (Int × Nat), prodF (l ++ m) = prodF l * prodF m
  | [], m => by
    show prodF m = 1 * prodF m
    rw [Int.one_mul]
  | q :: l, m => by
    show q.1 ^ q.2 * prodF (l ++ m) = q.1 ^ q.2 * prodF l * prodF m
    rw [prodF_append l m, Int.mul_assoc]
def Sorted (l : List (Int × Nat)) : Prop := l.Pairwise fun a b => a.1 < b.1
def Primes (l : List (Int × Nat)) : Prop := ∀ q ∈ l, PrP q.1 ∧ 1 ≤ q.2
def FactOf (n : Int) (l : List (Int × Nat)) : Prop := prodF l = n ∧ Sorted l ∧ Primes l
theorem pow_pos_int {p : Int} (h : 0 < p) (e : Nat) : 0 < p ^ e := Int.pow_pos h
theorem pow_ge {p : Int} (h : 2 ≤ p) : ∀ {e : Nat}, 1 ≤ e → 2 ≤ p ^ e
  | 0, h0 => by omega
  | e + 1, _ => by
    rw [Int.pow_succ]
    have h1 : 0 < p ^ e := pow_pos_int (by omega) e
    have h2 : 1 * 2 ≤ p ^ e * p := Int.mul_le_mul (by omega) h (by omega) (by omega)
    omega
theorem prodF_len : ∀ {l : List (Int × Nat)}, Primes l → (2 : Int) ^ l.length ≤ prodF l
  | [], _ => Int.le_refl _
  | q :: l, h => by
    have ih := prodF_len (l := l) fun r hr => h r (List.mem_cons_of_mem _ hr)
    obtain ⟨hp, he⟩ := h q List.mem_cons_self
    have h1 : 2 ≤ q.1 ^ q.2 := pow_ge hp.1 he
    show (2 : Int) ^ (l.length + 1) ≤ q.1 ^ q.2 * prodF l
    rw [Int.pow_succ, Int.mul_comm]
    have h0 : (0 : Int) < 2 ^ l.length := pow_pos_int (by omega) _
    exact Int.mul_le_mul h1 ih (by omega) (by omega)
theorem len_of_prod {l : List (Int × Nat)} (h : Primes l) (hb : prodF l ≤ 1000000000) : l.length < 30 := by
  have h1 := prodF_len h
  rcases Nat.lt_or_ge l.length 30 with z | z
  · exact z
  · have e : l.length = 30 + (l.length - 30) := by omega
    have h3 : (2 : Int) ^ 30 = 1073741824 := by decide
    have h4 : (0 : Int) < 2 ^ (l.length - 30) := pow_pos_int (by omega) _
    rw [e, Int.pow_add, h3] at h1
    omega
end Sf

namespace Sf
open PySem PySem.Spec PyProof.Rows L2
/-- what the module's names hold -/
structure Glob (mg : Str → Option Value) : Prop where
  m_isinstance : mg "isinstance" = none
  m_int : mg "int" = none
  m_bool : mg "bool" = none
  m_abs : mg "abs" = none
  m_sorted : mg "sorted" = none
  m_tuple : mg "tuple" = none
  m_set : mg "set" = none
  m_len : mg "len" = none
  m_max : mg "max" = none
  m_sum : mg "sum" = none
  m_range : mg "range" = none
  m_repr : mg "repr" = none
  m_min : mg "min" = none
  m_isqrt : mg "isqrt" = some (.builtin "math.isqrt")
  m_MAX_NUMBER : ∃ t, mg "MAX_NUMBER" = some (.int 1000000000 t)
  m_MOST_START : ∃ t, mg "MOST_START" = some (.int 100000 t)
  m_MAX_COMMON : ∃ t, mg "MAX_COMMON" = some (.int 1000000000 t)
  m_MAX_SIDE : ∃ t, mg "MAX_SIDE" = some (.int 10000 t)
/-- what isinstance(x, int) and not isinstance(x, bool) comes to -/
def IntB (K : PySem.W.Frag) (H : Hp) (x : V) (b : Bool) : Prop := ∃ (t : Value) (bi bb : Bool), TyX K H x t ∧ PySem.W.kitOne K t (.type "int") = some bi ∧ PySem.W.kitOne K t (.type "bool") = some bb ∧ b = (bi && !bb)
theorem IntB.int {K : PySem.W.Frag} {H : Hp} (i : Int) : IntB K H (.int i) true := ⟨.type "int", true, false, .base (.int i), kit_ty (by decide +kernel), kit_ty (by decide +kernel), rfl⟩
theorem IntB.bl {K : PySem.W.Frag} {H : Hp} (i : Bool) : IntB K H (.bl i) false := ⟨.type "bool", true, true, .base (.bl i), kit_ty (by decide +kernel), kit_ty (by decide +kernel), rfl⟩
theorem IntB.non {K : PySem.W.Frag} {H : Hp} : IntB K H .non false := ⟨.type "NoneType", false, false, .base .non, kit_ty (by decide +kernel), kit_ty (by decide +kernel), rfl⟩
theorem IntB.str {K : PySem.W.Frag} {H : Hp} (x : Str) : IntB K H (.str x) false := ⟨.type "str", false, false, .base (.str x), kit_ty (by decide +kernel), kit_ty (by decide +kernel), rfl⟩
theorem IntB.lst {K : PySem.W.Frag} {H : Hp} {a : Addr} {xs : List V} (h : H a = some (.lst xs)) : IntB K H (.ref a) false := ⟨.type "list", false, false, .base (.lst h), kit_ty (by decide +kernel), kit_ty (by decide +kernel), rfl⟩
theorem IntB.tup {K : PySem.W.Frag} {H : Hp} {a : Addr} {xs : List V} (h : H a = some (.tup xs)) : IntB K H (.ref a) false := ⟨.type "tuple", false, false, .base (.tup h), kit_ty (by decide +kernel), kit_ty (by decide +kernel), rfl⟩
theorem IntB.dK {K : PySem.W.Frag} {H : Hp} {a : Addr} {xs : List (Key × V)} (h : H a = some (.dK xs)) : IntB K H (.ref a) false := ⟨.type "dict", false, false, .base (.dK h), kit_ty (by decide +kernel), kit_ty (by decide +kernel), rfl⟩
end Sf

namespace Sf
open PySem PySem.Spec PyProof.Rows L2
section
variable {P : Program} {w : World} {K : PySem.W.Frag} {mg : Str → Option Value} {base : Heap} {f : Addr} {fd : FuncData}
def spIsInt (K : PySem.W.Frag) : Sp := fun vs H Q _ => ∃ (x : V) (b : Bool), vs = [x] ∧ IntB K H x b ∧ Q (.bl b) H
theorem ok_is_integer (F : FnD K "is_integer" "is_integer" s_P_is_integer f fd) (T : Glob mg) : FnOk P w K mg base CX0 1 f fd ["value"] (spIsInt K) := by
  refine F.ok sc_P_is_integer (fun vs H Q E h => ?_) (fun cdv A outer s H vs Q E hr h => ?_)
  · obtain ⟨x, b, rfl, _⟩ := h; rfl
  · obtain ⟨x, b, rfl, ⟨t, bi, bb, ty, h1, h2, rfl⟩, q⟩ := h
    refine ⟨_, PSs.nox (pss_one (ps_ret (pe_and (pe_callB call_isi (by rfl) T.m_isinstance (by decide +kernel) (pa_cons (pv 0) (pa_cons (pe_bltn (v := .ty "int") (u := .type "int") (by rfl) T.m_int (by decide +kernel) rfl) pa_nil))) (pe_one (pe_not (pe_callB call_isi (by rfl) T.m_isinstance (by decide +kernel) (pa_cons (pv 0) (pa_cons (pe_bltn (v := .ty "bool") (u := .type "bool") (by rfl) T.m_bool (by decide +kernel) rfl) pa_nil)))))))), ?_⟩
    refine ⟨_, rfl, _, _, _, _, _, rfl, .ty "int", ty, h1, _, rfl, ifb (fun e => ?_) (fun e => ?_)⟩
    · refine ⟨_, rfl, _, _, _, _, _, rfl, .ty "bool", ty, h2, _, rfl, ?_⟩
      rw [e] at q
      exact q
    · rw [e] at q
      exact q
end
end Sf

namespace Sf
open PySem PySem.Spec PyProof.Rows L2
section
variable {P : Program} {w : World} {K : PySem.W.Frag} {mg : Str → Option Value} {base : Heap} {f : Addr} {fd : FuncData}
def spIsPrime (K : PySem.W.Frag) : Sp := fun vs H Q _ => ∃ (x : V) (b : Bool), vs = [x] ∧ IntB K H x b ∧ (b = true → ∃ n, x = .int n) ∧ ∀ r : Bool, (r = true ↔ ∃ n, x = .int n ∧ PrP n ∧ n ≤ 1000000000) → Q (.bl r) H
theorem ok_is_prime (F : FnD K "is_prime" "is_prime" s_P_is_prime f fd) (T : Glob mg) (C_P_is_integer : Cal P w K mg base 1 "is_integer" ["value"] (spIsInt K)) (C_P_next_divisor : Cal P w K mg base 1 "next_divisor" ["divisor"] spNext) :
    FnOk P w K mg base CX0 2 f fd ["value"] (spIsPrime K) := by
  refine F.ok sc_P_is_prime (fun vs H Q E h => ?_) (fun cdv A outer s H vs Q E hr h => ?_)
  · obtain ⟨x, b, rfl, _⟩ := h; rfl
  · obtain ⟨x, b, rfl, hx, hi, q⟩ := h
    obtain ⟨tM, hc_MAX_NUMBER⟩ := T.m_MAX_NUMBER
    refine ⟨_, PSs.nox (pss_cons (ps_if (PW.pt (pw_or (pt_not (pt_val (pe_cal C_P_is_integer (hr.mono (by decide)) (pa_cons (pv 0) pa_nil)))) (pw_or (pt_cmp (pc_lt (pv 0) pe_int)) (pw_or1 (pt_cmp (pc_gt (pv 0) (pe_glob (v := .int 1000000000) rfl hc_MAX_NUMBER ⟨_, rfl⟩))))))) (pss_one (ps_ret pe_bl)) pss_nil)
      (pss_cons (ps_set (i := 1) sc_P_is_prime.nd rfl (Or.inl rfl) pe_int)
      (pss_cons (ps_while PassesOwn.never (pt_cmp (pc_le (pe_op op_mulW (pv 1) (pv 1)) (pv 0))) (pss_cons (ps_if (pt_cmp (pc_eqI (pe_op op_mod (pv 0) (pv 1)) pe_int)) (pss_one (ps_ret pe_bl)) pss_nil)
      (pss_one (ps_set (i := 1) sc_P_is_prime.nd rfl (Or.inl rfl) (pe_cal C_P_next_divisor (hr.mono (by decide)) (pa_cons (pv 1) pa_nil))))))
      (pss_one (ps_ret pe_bl))))), ?_⟩
    refine ⟨_, rfl, x, b, rfl, hx, _, rfl, ?_⟩
    cases b with
    | false =>
      refine iteT (q false ⟨fun z => Bool.noConfusion z, fun ⟨n, e, _⟩ => ?_⟩)
      subst e
      obtain ⟨t, bi, bb, ty, k1, k2, k3⟩ := hx
      cases ty with
      | base ty => cases ty with
        | int _ =>
          have e1 : PySem.W.kitOne K (.type "int") (.type "int") = some true := kit_ty (by decide +kernel)
          have e2 : PySem.W.kitOne K (.type "int") (.type "bool") = some false := kit_ty (by decide +kernel)
          rw [e1] at k1
          rw [e2] at k2
          cases k1
          cases k2
          cases k3
    | true =>
      obtain ⟨n, rfl⟩ := hi rfl
      have qf : ¬ (PrP n ∧ n ≤ 1000000000) → Q (.bl false) H := fun hn => q false ⟨fun z => Bool.noConfusion z, fun ⟨m, e, h⟩ => by
        cases e
        exact absurd h hn⟩
      refine iteF ⟨_, rfl, _, _, rfl, rfl, _, rfl, ifd (fun e => qf fun z => ?_) (fun e => ⟨_, rfl, _, _, rfl, rfl, _, rfl, ifd (fun e2 => qf fun z => ?_) (fun e2 => ?_)⟩)⟩
      · have := z.1.1
        omega
      · have := z.2
        omega
      · refine ⟨fun c σ H' => H' = H ∧ ∃ d : Int, σ = [some (.int n), some (.int d)] ∧ NoDiv n d ∧ d ≤ n + 2 ∧ c = (n + 2 - d).toNat, ⟨_, rfl, 2, rfl, nodiv2 n, by omega, rfl⟩, ?_⟩
        rintro c σ _ ⟨rfl, d, rfl, hd, hdn, rfl⟩
        have hd2 := hd.1
        have hdb : d.natAbs < 2 ^ 3000 := Nat.lt_trans (by omega : d.natAbs < 2 ^ 31) (by decide +kernel)
        refine ⟨_, rfl, _, rfl, _, _, rfl, rfl, CMulW.of hdb hdb, _, rfl, _, _, rfl, rfl, _, rfl, ifd (fun h => ⟨_, fun _ _ z => z, ?_⟩) (fun h => ?_)⟩
        · refine ⟨_, rfl, _, rfl, _, _, rfl, rfl, (by omega), _, _, rfl, rfl, _, rfl, ifd (fun h2 => ?_) (fun h2 => ?_)⟩
          · refine qf fun z => ?_
            have h3 : d < n := by
              have : d * 2 ≤ d * d := Int.mul_le_mul_of_nonneg_left hd2 (by omega)
              omega
            exact z.1.2 d hd2 h3 h2
          · refine ⟨_, rfl, d, rfl, ?_⟩
            have hlt : d ≤ n := by
              have : d * 1 ≤ d * d := Int.mul_le_mul_of_nonneg_left (by omega) (by omega)
              omega
            have hnx := nodiv_next hd h2
            refine ⟨_, ?_, rfl, _, rfl, hnx, ?_, rfl⟩
            · split <;> omega
            · split <;> omega
        · refine q true ⟨fun _ => ⟨n, rfl, prp_of_trial (by omega) hd2 hd.2.2 (by omega), by omega⟩, fun _ => rfl⟩
end
end Sf

namespace Sf
open PySem PySem.Spec PyProof.Rows L2
section
variable {P : Program} {w : World} {K : PySem.W.Frag} {mg : Str → Option Value} {base : Heap} {f : Addr} {fd : FuncData}
def spCheckNumber : Sp := fun vs H Q _ => ∃ n : Int, vs = [.int n] ∧ n ≠ 0 ∧ -1000000000 ≤ n ∧ n ≤ 1000000000 ∧ Q .non H
theorem ok_check_number (F : FnD K "check_number" "check_number" s_P_check_number f fd) (T : Glob mg) (C_P_is_integer : Cal P w K mg base 1 "is_integer" ["value"] (spIsInt K)) : FnOk P w K mg base CX0 2 f fd ["value"] spCheckNumber := by
  refine F.ok sc_P_check_number (fun vs H Q E h => ?_) (fun cdv A outer s H vs Q E hr h => ?_)
  · obtain ⟨n, rfl, _⟩ := h; rfl
  · obtain ⟨n, rfl, h0, h1, h2, q⟩ := h
    obtain ⟨tM, hc_MAX_NUMBER⟩ := T.m_MAX_NUMBER
    refine ⟨_, PSs.nox (pss_one (ps_if (PW.pt (pw_or (pt_not (pt_val (pe_cal C_P_is_integer (hr.mono (by decide)) (pa_cons (pv 0) pa_nil)))) (pw_or (pt_cmp (pc_eqI (pv 0) pe_int)) (pw_or1 (pt_cmp (pc_gt (pe_callB call_abs (by rfl) T.m_abs (by decide +kernel) (pa_cons (pv 0) pa_nil)) (pe_glob (v := .int 1000000000) rfl hc_MAX_NUMBER ⟨_, rfl⟩))))))) (pss_one ps_never) pss_nil)), ?_⟩
    refine ⟨_, rfl, .int n, true, rfl, .int n, _, rfl, iteF ?_⟩
    refine ⟨_, rfl, _, _, rfl, rfl, _, rfl, ifd (fun e => absurd e h0) (fun _ => ?_)⟩
    refine ⟨_, rfl, n, rfl, _, _, rfl, rfl, _, rfl, ifd (fun e => ?_) (fun e => ?_)⟩
    · exfalso
      split at e <;> omega
    · exact q
end
end Sf

namespace Sf
open PySem PySem.Spec PyProof.Rows L2
section
variable {P : Program} {w : World} {K : PySem.W.Frag} {mg : Str → Option Value} {base : Heap} {f : Addr} {fd : FuncData}
/-- the residue sign by a power -/
def restSign (n p : Int) : Int := if n % p = 0 then 0 else if p = 2 then (if n % 8 = 1 ∨ n % 8 = 7 then 1 else -1) else if n ^ ((p - 1) / 2).toNat % p = 1 then 1 else -1
def spRestSign : Sp := fun vs H Q _ => ∃ n p : Int, vs = [.int n, .int p] ∧ 2 ≤ p ∧ p.natAbs < 2 ^ 1000 ∧ ∀ H', Same H H' → Q (.int (restSign n p)) H'
theorem ok_rest_sign (F : FnD K "rest_sign" "rest_sign" s_P_rest_sign f fd) (C_P_power_modulo : Cal P w K mg base 1 "power_modulo" ["number", "many", "modulus"] spPowMod) : FnOk P w K mg base CX0 2 f fd ["number", "prime"] spRestSign := by
  refine F.ok sc_P_rest_sign (fun vs H Q E h => ?_) (fun cdv A outer s H vs Q E hr h => ?_)
  · obtain ⟨n, p, rfl, _⟩ := h; rfl
  · obtain ⟨n, p, rfl, hp, hb, q⟩ := h
    refine ⟨_, PSs.nox (pss_cons (ps_if (pt_cmp (pc_eqI (pe_op op_mod (pv 0) (pv 1)) pe_int)) (pss_one (ps_ret pe_int)) pss_nil)
      (pss_cons (ps_if (pt_cmp (pc_eqI (pv 1) pe_int)) (pss_one (ps_ret (pe_ifExp (pt_cmpR op_in_seq (pe_op op_mod (pv 0) pe_int) (pe_tup (pa_cons pe_int (pa_cons pe_int pa_nil))) (by rfl)) pe_int (pe_un un_neg pe_int)))) pss_nil)
      (pss_one (ps_ret (pe_ifExp (pt_cmp (pc_eqI (pe_cal C_P_power_modulo (hr.mono (by decide)) (pa_cons (pv 0) (pa_cons (pe_op op_fdivW (pe_op op_sub (pv 1) pe_int) pe_int) (pa_cons (pv 1) pa_nil)))) pe_int)) pe_int (pe_un un_neg pe_int)))))), ?_⟩
    unfold restSign at q
    refine ⟨_, rfl, _, rfl, _, _, rfl, rfl, (by omega), _, _, rfl, rfl, _, rfl, ifd (fun h => ?_) (fun h => ?_)⟩
    · rw [if_pos h] at q
      exact q H (Same.refl H)
    · rw [if_neg h] at q
      refine ⟨_, rfl, _, _, rfl, rfl, _, rfl, ifd (fun h2 => ?_) (fun h2 => ?_)⟩
      · rw [if_pos h2] at q
        refine ⟨_, rfl, _, _, rfl, rfl, (by show (0 : Int) < 8; decide), (by show 2 ≤ sizeLine; decide), fun a ha => ?_⟩
        refine ⟨a, _, rfl, .inr (.inl (.inl upd_same)), rfl, rfl, _, rfl, ?_⟩
        rw [inV_two]
        refine ifd (fun e => ?_) (fun e => ?_)
        · rw [if_pos e] at q
          exact q _ (same_upd ha)
        · rw [if_neg e] at q
          exact ⟨_, rfl, q _ (same_upd ha)⟩
      · rw [if_neg h2] at q
        refine ⟨_, rfl, _, rfl, _, _, rfl, rfl, _, _, rfl, rfl, CDivW.of (by decide) (by decide +kernel), _, rfl, n, (p - 1) / 2, p, rfl, by omega, by omega, hb, _, _, rfl, rfl, _, rfl, ifd (fun h3 => ?_) (fun h3 => ?_)⟩
        · rw [if_pos h3] at q
          exact q H (Same.refl H)
        · rw [if_neg h3] at q
          exact ⟨_, rfl, q H (Same.refl H)⟩
end
end Sf

namespace Sf
open PySem PySem.Spec PyProof.Rows L2
section
variable {P : Program} {w : World} {K : PySem.W.Frag} {mg : Str → Option Value} {base : Heap} {f : Addr} {fd : FuncData}
def spCheckPlace : Sp := fun vs H Q _ => ∃ p : Int, vs = [.int p] ∧ (p = 0 ∨ (PrP p ∧ p ≤ 1000000000)) ∧ Q .non H
theorem ok_check_place (F : FnD K "check_place" "check_place" s_P_check_place f fd) (C_P_is_prime : Cal P w K mg base 2 "is_prime" ["value"] (spIsPrime K)) (C_P_is_integer : Cal P w K mg base 1 "is_integer" ["value"] (spIsInt K)) : FnOk P w K mg base CX0 3 f fd ["value"] spCheckPlace := by
  refine F.ok sc_P_check_place (fun vs H Q E h => ?_) (fun cdv A outer s H vs Q E hr h => ?_)
  · obtain ⟨n, rfl, _⟩ := h; rfl
  · obtain ⟨n, rfl, h0, q⟩ := h
    refine ⟨_, PSs.nox (pss_one (ps_if (PW.pt (pw_and (pt_not (pt_val (pe_cal C_P_is_prime (hr.mono (by decide)) (pa_cons (pv 0) pa_nil)))) (pw_and1 (pt_not (PW.pt (pw_and (pt_val (pe_cal C_P_is_integer (hr.mono (by decide)) (pa_cons (pv 0) pa_nil))) (pw_and1 (pt_cmp (pc_eqI (pv 0) pe_int))))))))) (pss_one ps_never) pss_nil)), ?_⟩
    refine ⟨_, rfl, .int n, true, rfl, .int n, fun _ => ⟨n, rfl⟩, fun r hr => ⟨_, rfl, ?_⟩⟩
    cases r with
    | true => exact q
    | false =>
      have e0 : n = 0 := by
        rcases h0 with h0 | h0
        · exact h0
        · exact absurd (hr.mpr ⟨n, rfl, h0.1, h0.2⟩) Bool.false_ne_true
      subst e0
      refine ⟨_, rfl, .int 0, true, rfl, .int 0, _, rfl, ?_⟩
      exact ⟨_, rfl, _, _, rfl, rfl, _, rfl, q⟩
end
end Sf

namespace Sf
open PySem PySem.Spec PyProof.Rows L2
/-- the sack of draws: three numbers, so many draws made -/
def SackO (n : Nat) (xs : List V) : Prop := ∃ a b c : Int, xs = [.int a, .int b, .int c] ∧ 0 ≤ a ∧ a < 10 ^ 500 ∧ 0 ≤ b ∧ b < 1000000000000000000000000 ∧ 0 ≤ c ∧ c ≤ n
theorem sq_upd {K : PySem.W.Frag} {H : Hp} {a p : Addr} {xs : List V} {o : HO} (h : SqL K H a xs) (n : a ≠ p) : SqL K (upd H p o) a xs := by
  rcases h with (h | ⟨u, h⟩) | h
  · exact .inl (.inl (by rw [upd_ne n]; exact h))
  · exact .inl (.inr ⟨u, by rw [upd_ne n]; exact h⟩)
  · exact .inr h
end Sf

namespace Sf
open PySem PySem.Spec PyProof.Rows L2
/-- all but the thing at p stays -/
def Keep (p : Addr) (H H' : Hp) : Prop := ∀ b o, H b = some o → b ≠ p → H' b = some o
theorem Keep.refl (p : Addr) (H : Hp) : Keep p H H := fun _ _ h _ => h
theorem Keep.trans {p : Addr} {H H1 H2 : Hp} (a : Keep p H H1) (b : Keep p H1 H2) : Keep p H H2 := fun c o h n => b c o (a c o h n) n
theorem Keep.same {p : Addr} {H H' : Hp} (s : Same H H') : Keep p H H' := fun c o h _ => s c o h
theorem Keep.upd {p : Addr} {H : Hp} {o : HO} : Keep p H (upd H p o) := fun c u h n => by rw [upd_ne n]; exact h
theorem Keep.new {p q : Addr} {H : Hp} {o : HO} (h : H q = none) : Keep p H (L2.upd H q o) := Keep.same (same_upd h)
/-- the sack stands at p, n draws made at most -/
def Sk (p : Addr) (n : Nat) (H : Hp) : Prop := ∃ xs, H p = some (.lst xs) ∧ SackO n xs
theorem SackO.mono {n m : Nat} {xs : List V} (h : SackO n xs) (l : n ≤ m) : SackO m xs := by
  obtain ⟨a, b, c, e, h1, h2, h3, h4, h5, h6⟩ := h
  exact ⟨a, b, c, e, h1, h2, h3, h4, h5, by omega⟩
theorem Sk.mono {p : Addr} {n m : Nat} {H : Hp} (h : Sk p n H) (l : n ≤ m) : Sk p m H := let ⟨xs, a, b⟩ := h; ⟨xs, a, b.mono l⟩
theorem Sk.same {p : Addr} {n : Nat} {H H' : Hp} (h : Sk p n H) (s : Same H H') : Sk p n H' := let ⟨xs, a, b⟩ := h; ⟨xs, s _ _ a, b⟩
theorem Sk.ne {p q : Addr} {n : Nat} {H : Hp} (h : Sk p n H) (hq : H q = none) : p ≠ q := let ⟨_, a, _⟩ := h; ne_of_none a hq
theorem Keep.free {p q : Addr} {n : Nat} {H H' : Hp} (k : Keep p H H') (s : Sk p n H') (h : H' q = none) : H q = none := by
  cases e : H q with
  | none => rfl
  | some o =>
    have n : q ≠ p := fun z => by
      obtain ⟨_, a, _⟩ := s
      rw [z, a] at h
      cases h
    rw [k q o e n] at h
    cases h
end Sf

namespace Sf
/-! the state of trial division: what was found, what is left -/
structure Trial (N : Int) (l : List (Int × Nat)) (r d : Int) : Prop where
  prod : prodF l * r = N
  pos : 1 ≤ r
  le : r ≤ N
  srt : Sorted l
  prm : Primes l
  low : ∀ q ∈ l, q.1 < d
  nod : NoDiv r d
theorem trial_start {N : Int} (h : 1 ≤ N) : Trial N [] N 2 := ⟨by show 1 * N = N; omega, h, Int.le_refl _, List.Pairwise.nil, (fun _ h => by cases h), (fun _ h => by cases h), nodiv2 N⟩
theorem sorted_snoc {l : List (Int × Nat)} {p : Int} {e : Nat} (h : Sorted l) (hl : ∀ q ∈ l, q.1 < p) : Sorted (l ++ [(p, e)]) := by
  unfold Sorted at *
  rw [List.pairwise_append]
  refine ⟨h, List.pairwise_singleton _ _, fun a ha b hb => ?_⟩
  rw [List.mem_singleton] at hb
  rw [hb]
  exact hl a ha
theorem primes_snoc {l : List (Int × Nat)} {p : Int} {e : Nat} (h : Primes l) (hp : PrP p) (he : 1 ≤ e) : Primes (l ++ [(p, e)]) := fun q hq => by
  rcases List.mem_append.mp hq with z | z
  · exact h q z
  · rw [List.mem_singleton] at z
    rw [z]
    exact ⟨hp, he⟩
theorem prodF_one (p : Int) (e : Nat) : prodF [(p, e)] = p ^ e := by
  show p ^ e * 1 = p ^ e
  rw [Int.mul_one]
theorem next_gt {d : Int} (h : 2 ≤ d) : d < (if d = 2 then 3 else d + 2) := by split <;> omega
theorem trial_pass {N r d : Int} {l : List (Int × Nat)} (h : Trial N l r d) (hd : r % d ≠ 0) : Trial N l r (if d = 2 then 3 else d + 2) :=
  ⟨h.prod, h.pos, h.le, h.srt, h.prm, fun q hq => Int.lt_trans (h.low q hq) (next_gt h.nod.1), nodiv_next h.nod hd⟩
theorem trial_take {N r d u : Int} {m : Nat} {l : List (Int × Nat)} (h : Trial N l r d) (hd : r % d = 0) (e : r = d ^ m * u) (hu : u % d ≠ 0) : Trial N (l ++ [(d, m)]) u (if d = 2 then 3 else d + 2) ∧ 1 ≤ m ∧ u ≤ r := by
  have hd2 := h.nod.1
  have hr := h.pos
  have hm : 1 ≤ m := by
    rcases Nat.eq_zero_or_pos m with z | z
    · subst z
      rw [Int.pow_zero, Int.one_mul] at e
      rw [e] at hd
      exact absurd hd hu
    · exact z
  have hdm : 0 < d ^ m := pow_pos_int (by omega) m
  have hu0 : 1 ≤ u := by
    rcases Int.lt_or_le 0 u with z | z
    · omega
    · have := Int.mul_nonpos_of_nonneg_of_nonpos (Int.le_of_lt hdm) z
      omega
  have hur : u ≤ r := by
    have : 1 * u ≤ d ^ m * u := Int.mul_le_mul_of_nonneg_right (by omega) (by omega)
    omega
  have hdu : r % u = 0 := Int.emod_eq_zero_of_dvd ⟨d ^ m, by rw [e]; exact Int.mul_comm _ _⟩
  refine ⟨⟨?_, hu0, Int.le_trans hur h.le, sorted_snoc h.srt h.low, primes_snoc h.prm (nodiv_prime h.nod hd) hm, fun q hq => ?_, nodiv_next (nodiv_of h.nod hdu) hu⟩, hm, hur⟩
  · rw [prodF_append, prodF_one, Int.mul_assoc, ← e]
    exact h.prod
  · have hn := next_gt hd2
    rcases List.mem_append.mp hq with z | z
    · exact Int.lt_trans (h.low q z) hn
    · rw [List.mem_singleton] at z
      rw [z]
      exact hn
theorem trial_end1 {N d : Int} {l : List (Int × Nat)} (h : Trial N l 1 d) : FactOf N l := ⟨by have := h.prod; rw [Int.mul_one] at this; exact this, h.srt, h.prm⟩
theorem trial_end {N r d : Int} {l : List (Int × Nat)} (h : Trial N l r d) (hr : 1 < r) (hd : r < d * d) : FactOf N (l ++ [(r, 1)]) ∧ ∀ q ∈ l, q.1 < r := by
  have h2 := nodiv_lt h.nod (by omega)
  have hl : ∀ q ∈ l, q.1 < r := fun q hq => Int.lt_of_lt_of_le (h.low q hq) h2
  have hp : PrP r := prp_of_trial (by omega) h.nod.1 h.nod.2.2 hd
  refine ⟨⟨?_, sorted_snoc h.srt hl, primes_snoc h.prm hp (by omega)⟩, hl⟩
  rw [prodF_append, prodF_one, Int.pow_succ, Int.pow_zero, Int.one_mul]
  exact h.prod
theorem prodF_pos {l : List (Int × Nat)} (h : Primes l) : 1 ≤ prodF l := by
  have h1 := prodF_len h
  have h2 : (0 : Int) < 2 ^ l.length := pow_pos_int (by omega) _
  omega
theorem trial_len {N r d : Int} {l : List (Int × Nat)} (h : Trial N l r d) (hN : N ≤ 1000000000) : l.length < 30 := by
  refine len_of_prod h.prm ?_
  have h1 := prodF_pos h.prm
  have h2 := h.prod
  have h3 := h.pos
  have h4 : prodF l * 1 ≤ prodF l * r := Int.mul_le_mul_of_nonneg_left h3 (by omega)
  omega
theorem fact_len {N : Int} {l : List (Int × Nat)} (h : FactOf N l) (hN : N ≤ 1000000000) : l.length < 30 := len_of_prod h.2.2 (by rw [h.1]; exact hN)
/-- the product of the primes with an odd power -/
def oddF : List (Int × Nat) → Int
  | [] => 1
  | q :: l => (if q.2 % 2 = 1 then q.1 else 1) * oddF l
theorem oddF_append : ∀ l m : List (Int × Nat), oddF (l ++ m) = oddF l * oddF m
  | [], m => by
    show oddF m = 1 * oddF m
    rw [Int.one_mul]
  | q :: l, m => by
    show (if q.2 % 2 = 1 then q.1 else 1) * oddF (l ++ m) = (if q.2 % 2 = 1 then q.1 else 1) * oddF l * oddF m
    rw [oddF_append l m, Int.mul_assoc]
theorem pow_split (p : Int) (e : Nat) : p ^ e = (if e % 2 = 1 then p else 1) * (p ^ (e / 2) * p ^ (e / 2)) := by
  have e1 : e = e % 2 + (e / 2 + e / 2) := by omega
  conv => lhs; rw [e1]
  rw [Int.pow_add, Int.pow_add]
  congr 1
  split
  · rename_i h
    rw [h, Int.pow_succ, Int.pow_zero, Int.one_mul]
  · rename_i h
    rw [show e % 2 = 0 by omega, Int.pow_zero]
theorem oddF_bound {l : List (Int × Nat)} : Primes l → 1 ≤ oddF l ∧ oddF l ≤ prodF l := by
  induction l with
  | nil => intro _; exact ⟨Int.le_refl _, Int.le_refl _⟩
  | cons q l ih =>
    intro h
    have ih := ih fun r hr => h r (List.mem_cons_of_mem _ hr)
    obtain ⟨hp, he⟩ := h q List.mem_cons_self
    have hp2 := hp.1
    have h1 : 1 ≤ (if q.2 % 2 = 1 then q.1 else 1) := by split <;> omega
    have h2 : (if q.2 % 2 = 1 then q.1 else 1) ≤ q.1 ^ q.2 := by
      rw [pow_split q.1 q.2]
      have h3 : 0 < q.1 ^ (q.2 / 2) := pow_pos_int (by omega) _
      have h4 : 0 < q.1 ^ (q.2 / 2) * q.1 ^ (q.2 / 2) := Int.mul_pos h3 h3
      have h5 : (if q.2 % 2 = 1 then q.1 else 1) * 1 ≤ (if q.2 % 2 = 1 then q.1 else 1) * (q.1 ^ (q.2 / 2) * q.1 ^ (q.2 / 2)) := Int.mul_le_mul_of_nonneg_left h4 (by omega)
      omega
    show 1 ≤ (if q.2 % 2 = 1 then q.1 else 1) * oddF l ∧ (if q.2 % 2 = 1 then q.1 else 1) * oddF l ≤ q.1 ^ q.2 * prodF l
    refine ⟨?_, Int.mul_le_mul h2 ih.2 (by omega) (by omega)⟩
    have := Int.mul_pos (show 0 < (if q.2 % 2 = 1 then q.1 else 1) by omega) (show 0 < oddF l by omega)
    omega
theorem prodF_take {l : List (Int × Nat)} (h : Primes l) (i : Nat) : prodF (l.take i) ≤ prodF l := by
  have e : prodF l = prodF (l.take i) * prodF (l.drop i) := by rw [← prodF_append, List.take_append_drop]
  have h1 : 1 ≤ prodF (l.take i) := prodF_pos fun q hq => h q (List.mem_of_mem_take hq)
  have h2 : 1 ≤ prodF (l.drop i) := prodF_pos fun q hq => h q (List.mem_of_mem_drop hq)
  have h3 : prodF (l.take i) * 1 ≤ prodF (l.take i) * prodF (l.drop i) := Int.mul_le_mul_of_nonneg_left h2 (by omega)
  omega
theorem self_le_pow {p : Int} (h : 2 ≤ p) : ∀ {e : Nat}, 1 ≤ e → p ≤ p ^ e
  | 0, h0 => by omega
  | e + 1, _ => by
    rw [Int.pow_succ]
    have h1 : 0 < p ^ e := pow_pos_int (by omega) e
    have h2 : 1 * p ≤ p ^ e * p := Int.mul_le_mul_of_nonneg_right (by omega) (by omega)
    omega
theorem prodF_mem : ∀ {l : List (Int × Nat)}, Primes l → ∀ q ∈ l, q.1 ≤ prodF l
  | [], _, q, hq => by cases hq
  | r :: l, h, q, hq => by
    have h1 : 1 ≤ prodF l := prodF_pos fun q hq => h q (List.mem_cons_of_mem _ hq)
    obtain ⟨hp, he⟩ := h r List.mem_cons_self
    have hp2 := hp.1
    have h2 := self_le_pow hp2 he
    show q.1 ≤ r.1 ^ r.2 * prodF l
    rcases List.mem_cons.mp hq with z | z
    · subst z
      have h3 : q.1 ^ q.2 * 1 ≤ q.1 ^ q.2 * prodF l := Int.mul_le_mul_of_nonneg_left h1 (by omega)
      omega
    · have h3 := prodF_mem (l := l) (fun q hq => h q (List.mem_cons_of_mem _ hq)) q z
      have h4 : 1 * prodF l ≤ r.1 ^ r.2 * prodF l := Int.mul_le_mul_of_nonneg_right (by omega) (by omega)
      omega
theorem nat_lt_pow {p : Int} (h : 2 ≤ p) : ∀ e : Nat, (e : Int) < p ^ e
  | 0 => by rw [Int.pow_zero]; decide
  | e + 1 => by
    have ih := nat_lt_pow h e
    rw [Int.pow_succ]
    have h1 : 0 < p ^ e := pow_pos_int (by omega) e
    have h2 : p ^ e * 2 ≤ p ^ e * p := Int.mul_le_mul_of_nonneg_left h (by omega)
    omega
theorem prodF_mem2 : ∀ {l : List (Int × Nat)}, Primes l → ∀ q ∈ l, (q.2 : Int) < prodF l
  | [], _, q, hq => by cases hq
  | r :: l, h, q, hq => by
    have h1 : 1 ≤ prodF l := prodF_pos fun q hq => h q (List.mem_cons_of_mem _ hq)
    obtain ⟨hp, he⟩ := h r List.mem_cons_self
    have hp2 := hp.1
    have h2 := self_le_pow hp2 he
    show (q.2 : Int) < r.1 ^ r.2 * prodF l
    rcases List.mem_cons.mp hq with z | z
    · subst z
      have h3 : q.1 ^ q.2 * 1 ≤ q.1 ^ q.2 * prodF l := Int.mul_le_mul_of_nonneg_left h1 (by omega)
      have h4 := nat_lt_pow hp2 q.2
      omega
    · have h3 := prodF_mem2 (l := l) (fun q hq => h q (List.mem_cons_of_mem _ hq)) q z
      have h4 : 1 * prodF l ≤ r.1 ^ r.2 * prodF l := Int.mul_le_mul_of_nonneg_right (by omega) (by omega)
      omega
end Sf

namespace Sf
open PySem PySem.Spec PyProof.Rows L2
/-- the pairs of a dict of factors -/
def kvsF (l : List (Int × Nat)) : List (Key × V) := l.map fun q => ((Sum.inl q.1 : Key), V.int q.2)
theorem kvsF_none : ∀ {l : List (Int × Nat)} {p : Int}, (∀ q ∈ l, q.1 < p) → valV (kvsF l) (Sum.inl p : Key) = none
  | [], _, _ => rfl
  | q :: l, p, h => by
    show valV (((Sum.inl q.1 : Key), V.int q.2) :: kvsF l) (Sum.inl p : Key) = none
    rw [valV_neg]
    · exact kvsF_none fun r hr => h r (List.mem_cons_of_mem _ hr)
    · intro e
      have e1 : q.1 = p := Sum.inl.inj e
      have := h q List.mem_cons_self
      omega
theorem kvsF_snoc (l : List (Int × Nat)) (p : Int) (e : Nat) : kvsF (l ++ [(p, e)]) = kvsF l ++ [((Sum.inl p : Key), V.int e)] := by
  unfold kvsF
  rw [List.map_append]
  rfl
theorem kvsF_len (l : List (Int × Nat)) : (kvsF l).length = l.length := List.length_map ..
section
variable {P : Program} {w : World} {K : PySem.W.Frag} {mg : Str → Option Value} {base : Heap} {f : Addr} {fd : FuncData}
def absI (n : Int) : Int := if n < 0 then -n else n
def spFactors : Sp := fun vs H Q _ => ∃ n : Int, vs = [.int n] ∧ n ≠ 0 ∧ -1000000000 ≤ n ∧ n ≤ 1000000000 ∧
  ∀ (l : List (Int × Nat)) (d : Addr) (H' : Hp), FactOf (absI n) l → Same H H' → H d = none → H' d = some (.dK (kvsF l)) → Q (.ref d) H'
theorem ok_prime_powers (F : FnD K "prime_powers" "prime_powers" s_P_prime_powers f fd) (T : Glob mg)
    (C_P_stripped : Cal P w K mg base 1 "stripped" ["number", "prime"] spStripped) (C_P_next_divisor : Cal P w K mg base 1 "next_divisor" ["divisor"] spNext) :
    FnOk P w K mg base CX0 2 f fd ["number"] spFactors := by
  refine F.ok sc_P_prime_powers (fun vs H Q E h => ?_) (fun cdv A outer s H vs Q E hr h => ?_)
  · obtain ⟨n, rfl, _⟩ := h; rfl
  · obtain ⟨n, rfl, hn, h1, h2, q⟩ := h
    have hu := hu_of hr
    have hN1 : 1 ≤ absI n := by unfold absI; split <;> omega
    have hN2 : absI n ≤ 1000000000 := by unfold absI; split <;> omega
    refine ⟨_, PSs.nox (pss_cons (ps_set (i := 1) sc_P_prime_powers.nd rfl (Or.inl rfl) (pe_callB call_abs (by rfl) T.m_abs (by decide +kernel) (pa_cons (pv 0) pa_nil)))
      (pss_cons (ps_set (i := 2) sc_P_prime_powers.nd rfl (Or.inl rfl) pe_dnewK)
      (pss_cons (ps_set (i := 3) sc_P_prime_powers.nd rfl (Or.inl rfl) pe_int)
      (pss_cons (ps_while PassesOwn.never (pt_cmp (pc_le (pe_op op_mulW (pv 3) (pv 3)) (pv 1))) (pss_cons (ps_if (pt_cmp (pc_eqI (pe_op op_mod (pv 1) (pv 3)) pe_int)) (pss_one (ps_asg (pe_cal C_P_stripped (hr.mono (by decide)) (pa_cons (pv 1) (pa_cons (pv 3) pa_nil))) (pg_tup (by rfl) (pgs_cons (pg_sub (pv 2) (pv 3) (set_dict hu)) (pgs_cons (pg_name (i := 1) sc_P_prime_powers.nd rfl (Or.inl rfl)) pgs_nil))))) pss_nil)
      (pss_one (ps_set (i := 3) sc_P_prime_powers.nd rfl (Or.inl rfl) (pe_cal C_P_next_divisor (hr.mono (by decide)) (pa_cons (pv 3) pa_nil))))))
      (pss_cons (ps_if (pt_cmp (pc_gt (pv 1) pe_int)) (pss_one (ps_dput hu (pv 2) (pv 1) pe_int rfl)) pss_nil)
      (pss_one (ps_ret (pv 2)))))))), ?_⟩
    refine ⟨_, rfl, n, rfl, fun d hd => ?_⟩
    refine ⟨fun c σ H' => ∃ (l : List (Int × Nat)) (r t : Int), σ = [some (.int n), some (.int r), some (.ref d), some (.int t)] ∧ Same H H' ∧ H' d = some (.dK (kvsF l)) ∧ Trial (absI n) l r t ∧ t ≤ absI n + 2 ∧ c = (r - t + 3).toNat,
      ⟨_, [], absI n, 2, rfl, same_upd hd, upd_same, trial_start hN1, by omega, rfl⟩, ?_⟩
    rintro c σ H' ⟨l, r, t, rfl, hs, hdd, ht, htN, rfl⟩
    have t2 := ht.nod.1
    have rN := ht.le
    have r1 := ht.pos
    have hlen := trial_len ht hN2
    have tb : t.natAbs < 2 ^ 3000 := lt3000s (by omega) (by omega)
    have htt : t * 2 ≤ t * t := Int.mul_le_mul_of_nonneg_left t2 (by omega)
    refine ⟨_, rfl, _, rfl, _, _, rfl, rfl, CMulW.of tb tb, _, rfl, _, _, rfl, rfl, _, rfl, ifd (fun h => ⟨_, fun _ _ z => z, ?_⟩) (fun h => ?_)⟩
    · have tr : t ≤ r := nodiv_lt ht.nod (by omega)
      refine ⟨_, rfl, _, rfl, _, _, rfl, rfl, (by omega), _, _, rfl, rfl, _, rfl, ifd (fun h2 => ?_) (fun h2 => ?_)⟩
      · refine ⟨_, rfl, _, rfl, r, t, rfl, by omega, t2, tb, fun m u a hst ha => ?_⟩
        obtain ⟨k1, k2, k3⟩ := trial_take ht h2 hst.1 hst.2
        have nad : d ≠ a := ne_of_none hdd ha
        refine ⟨a, _, rfl, .inl (.inl upd_same), rfl, _, _, rfl, _, rfl, _, rfl, d, _, rfl, DPut.k (k := Sum.inl t) (by rw [upd_ne nad]; exact hdd) (by rw [kvsF_len]; exact small1000 (by omega)), _, _, rfl, rfl, ?_⟩
        refine ⟨_, rfl, t, rfl, ?_⟩
        refine ⟨_, ?_, l ++ [(t, m)], u, _, rfl, ?_, ?_, k1, ?_, rfl⟩
        · split <;> omega
        · intro b o e
          have h3 := hs b o e
          have nb : b ≠ d := ne_of_none e hd
          rw [upd_ne nb, upd_ne (ne_of_none h3 ha)]
          exact h3
        · rw [upd_same, putK_new _ (kvsF_none ht.low), kvsF_snoc]
        · split <;> omega
      · refine ⟨_, rfl, t, rfl, ?_⟩
        refine ⟨_, ?_, l, r, _, rfl, hs, hdd, trial_pass ht h2, ?_, rfl⟩
        · split <;> omega
        · split <;> omega
    · refine ⟨_, rfl, _, _, rfl, rfl, _, rfl, ifd (fun h3 => ?_) (fun h3 => ?_)⟩
      · obtain ⟨k1, k2⟩ := trial_end ht (by omega) (by omega)
        refine ⟨_, rfl, _, rfl, d, _, rfl, DPut.k (k := Sum.inl r) hdd (by rw [kvsF_len]; exact small1000 (by omega)), ?_⟩
        refine ⟨_, rfl, q _ d _ k1 (fun b o e => ?_) hd ?_⟩
        · rw [upd_ne (ne_of_none e hd)]
          exact hs b o e
        · rw [upd_same, putK_new _ (kvsF_none k2), kvsF_snoc]
          rfl
      · have hr : r = 1 := by omega
        subst hr
        exact ⟨_, rfl, q l d H' (trial_end1 ht) hs hd hdd⟩
theorem ok_factors (F : FnD K "factors" "factors" s_P_factors f fd) (C_P_check_number : Cal P w K mg base 2 "check_number" ["value"] spCheckNumber)
    (C_P_prime_powers : Cal P w K mg base 2 "prime_powers" ["number"] spFactors) :
    FnOk P w K mg base CX0 3 f fd ["number"] spFactors := by
  refine F.ok sc_P_factors (fun vs H Q E h => ?_) (fun cdv A outer s H vs Q E hr h => ?_)
  · obtain ⟨n, rfl, _⟩ := h; rfl
  · obtain ⟨n, rfl, hn, h1, h2, q⟩ := h
    refine ⟨_, PSs.nox (pss_cons (ps_expr (pe_cal C_P_check_number (hr.mono (by decide)) (pa_cons (pv 0) pa_nil)))
      (pss_one (ps_ret (pe_cal C_P_prime_powers (hr.mono (by decide)) (pa_cons (pv 0) pa_nil))))), ?_⟩
    exact ⟨_, rfl, n, rfl, hn, h1, h2, _, rfl, n, rfl, hn, h1, h2, fun l d H1 hf hs hd hdd => q l d H1 hf hs hd hdd⟩
end
end Sf

namespace Sf
/-! a prime divides a product only if it divides a factor -/
theorem PrP.pos {p : Int} (h : PrP p) : 0 < p := by have := h.1; omega
theorem gcd_of_prime {p : Int} (h : PrP p) {a : Int} (ha : ¬ p ∣ a) : Nat.Coprime p.natAbs a.natAbs := by
  have hp := h.1
  have h1 : Nat.gcd p.natAbs a.natAbs ∣ p.natAbs := Nat.gcd_dvd_left ..
  have h2 : Nat.gcd p.natAbs a.natAbs ∣ a.natAbs := Nat.gcd_dvd_right ..
  have h0 : 0 < Nat.gcd p.natAbs a.natAbs := Nat.gcd_pos_of_pos_left _ (by omega)
  have hle : Nat.gcd p.natAbs a.natAbs ≤ p.natAbs := Nat.le_of_dvd (by omega) h1
  unfold Nat.Coprime
  rcases Nat.lt_or_ge (Nat.gcd p.natAbs a.natAbs) 2 with z | z
  · omega
  · rcases Nat.lt_or_ge (Nat.gcd p.natAbs a.natAbs) p.natAbs with z2 | z2
    · exfalso
      refine h.2 (Nat.gcd p.natAbs a.natAbs : Int) (by omega) (by omega) ?_
      refine Int.emod_eq_zero_of_dvd ?_
      have : ((Nat.gcd p.natAbs a.natAbs : Nat) : Int) ∣ ((p.natAbs : Nat) : Int) := Int.ofNat_dvd.mpr h1
      rwa [Int.natAbs_of_nonneg (by omega : 0 ≤ p)] at this
    · exfalso
      have e : Nat.gcd p.natAbs a.natAbs = p.natAbs := by omega
      rw [e] at h2
      exact ha (Int.natAbs_dvd_natAbs.mp h2)
theorem prime_mul {p : Int} (h : PrP p) {a b : Int} (hd : p ∣ a * b) : p ∣ a ∨ p ∣ b := by
  by_cases ha : p ∣ a
  · exact .inl ha
  · refine .inr ?_
    have h1 : p.natAbs ∣ a.natAbs * b.natAbs := by
      rw [← Int.natAbs_mul]
      exact Int.natAbs_dvd_natAbs.mpr hd
    exact Int.natAbs_dvd_natAbs.mp (Nat.Coprime.dvd_of_dvd_mul_left (gcd_of_prime h ha) h1)
theorem prime_one {p : Int} (h : PrP p) : ¬ p ∣ 1 := fun z => by
  have h1 := Int.le_of_dvd (by omega) z
  have := h.1
  omega
theorem prime_pow {p a : Int} (h : PrP p) : ∀ {e : Nat}, p ∣ a ^ e → p ∣ a
  | 0, z => absurd (by rwa [Int.pow_zero] at z) (prime_one h)
  | e + 1, z => by
    rw [Int.pow_succ] at z
    rcases prime_mul h z with y | y
    · exact prime_pow h y
    · exact y
theorem prime_dvd_prime {p q : Int} (hp : PrP p) (hq : PrP q) (h : p ∣ q) : p = q := by
  have h1 := hp.1
  have h2 := hq.1
  have h3 := Int.le_of_dvd (by omega) h
  rcases Int.lt_or_le p q with z | z
  · exact absurd (Int.emod_eq_zero_of_dvd h) (hq.2 p h1 z)
  · omega
theorem prime_prodF {p : Int} (h : PrP p) : ∀ {l : List (Int × Nat)}, Primes l → p ∣ prodF l → ∃ e, (p, e) ∈ l
  | [], _, z => absurd z (prime_one h)
  | q :: l, hl, z => by
    rcases prime_mul h (show p ∣ q.1 ^ q.2 * prodF l from z) with y | y
    · have e := prime_dvd_prime h (hl q List.mem_cons_self).1 (prime_pow h y)
      exact ⟨q.2, by rw [e]; exact List.mem_cons_self⟩
    · obtain ⟨e, he⟩ := prime_prodF h (fun r hr => hl r (List.mem_cons_of_mem _ hr)) y
      exact ⟨e, List.mem_cons_of_mem _ he⟩
theorem pow_cancel {p : Int} (h : PrP p) {R S : Int} (hR : ¬ p ∣ R) (hS : ¬ p ∣ S) : ∀ {a b : Nat}, p ^ a * R = p ^ b * S → a = b ∧ R = S
  | 0, 0, e => ⟨rfl, by rwa [Int.pow_zero, Int.one_mul, Int.one_mul] at e⟩
  | 0, b + 1, e => by
    rw [Int.pow_zero, Int.one_mul, Int.pow_succ, Int.mul_assoc] at e
    refine absurd ?_ hR
    rw [e, Int.mul_comm, Int.mul_assoc]
    exact Int.dvd_mul_right ..
  | a + 1, 0, e => by
    rw [Int.pow_zero, Int.one_mul, Int.pow_succ, Int.mul_assoc] at e
    refine absurd ?_ hS
    rw [← e, Int.mul_comm, Int.mul_assoc]
    exact Int.dvd_mul_right ..
  | a + 1, b + 1, e => by
    have h0 := h.pos
    rw [Int.pow_succ, Int.pow_succ, Int.mul_comm (p ^ a), Int.mul_comm (p ^ b), Int.mul_assoc, Int.mul_assoc] at e
    obtain ⟨h1, h2⟩ := pow_cancel h hR hS (Int.eq_of_mul_eq_mul_left (by omega) e)
    exact ⟨by omega, h2⟩
/-! one number, one factorization -/
def Distinct (l : List (Int × Nat)) : Prop := (l.map (·.1)).Nodup
theorem distinct_of_sorted {l : List (Int × Nat)} (h : Sorted l) : Distinct l := by
  unfold Distinct List.Nodup
  rw [List.pairwise_map]
  exact h.imp fun h e => by omega
theorem distinct_perm {l m : List (Int × Nat)} (h : l.Perm m) (d : Distinct l) : Distinct m := by
  unfold Distinct at *
  exact (h.map _).nodup_iff.mp d
theorem prodF_perm {l m : List (Int × Nat)} (h : l.Perm m) : prodF l = prodF m := by
  induction h with
  | nil => rfl
  | cons x _ ih => show x.1 ^ x.2 * _ = x.1 ^ x.2 * _; rw [ih]
  | swap x y l => show y.1 ^ y.2 * (x.1 ^ x.2 * _) = x.1 ^ x.2 * (y.1 ^ y.2 * _); exact Int.mul_left_comm ..
  | trans _ _ a b => exact a.trans b
theorem oddF_perm {l m : List (Int × Nat)} (h : l.Perm m) : oddF l = oddF m := by
  induction h with
  | nil => rfl
  | cons x _ ih => show (if x.2 % 2 = 1 then x.1 else 1) * _ = (if x.2 % 2 = 1 then x.1 else 1) * _; rw [ih]
  | swap x y l => exact Int.mul_left_comm ..
  | trans _ _ a b => exact a.trans b
theorem not_dvd_rest {p : Int} {e : Nat} {l : List (Int × Nat)} (hp : Primes ((p, e) :: l)) (hd : Distinct ((p, e) :: l)) : ¬ p ∣ prodF l := fun z => by
  obtain ⟨e', he⟩ := prime_prodF (hp (p, e) List.mem_cons_self).1 (fun r hr => hp r (List.mem_cons_of_mem _ hr)) z
  unfold Distinct at hd
  rw [List.map_cons, List.nodup_cons] at hd
  exact hd.1 (List.mem_map.mpr ⟨(p, e'), he, rfl⟩)
theorem fact_unique : ∀ {l m : List (Int × Nat)}, Primes l → Distinct l → Primes m → Distinct m → prodF l = prodF m → l.Perm m
  | [], m, _, _, hm, _, e => by
    cases m with
    | nil => exact List.Perm.nil
    | cons q m =>
      have h1 := prodF_len hm
      rw [← e] at h1
      have h2 : (0 : Int) < 2 ^ m.length := pow_pos_int (by omega) _
      rw [List.length_cons, Int.pow_succ] at h1
      have h3 : prodF [] = 1 := rfl
      omega
  | (p, a) :: l, m, hl, dl, hm, dm, e => by
    have hp := (hl (p, a) List.mem_cons_self).1
    have ha := (hl (p, a) List.mem_cons_self).2
    have hdv : p ∣ prodF m := by
      rw [← e]
      show p ∣ p ^ a * prodF l
      obtain ⟨k, rfl⟩ : ∃ k, a = k + 1 := ⟨a - 1, by have : 1 ≤ a := ha; omega⟩
      rw [Int.pow_succ, Int.mul_comm (p ^ k), Int.mul_assoc]
      exact Int.dvd_mul_right ..
    obtain ⟨b, hb⟩ := prime_prodF hp hm hdv
    have hperm := List.perm_cons_erase hb
    have hm2 : Primes ((p, b) :: m.erase (p, b)) := fun r hr => hm r (hperm.mem_iff.mpr hr)
    have dm2 : Distinct ((p, b) :: m.erase (p, b)) := distinct_perm hperm dm
    have e2 : p ^ a * prodF l = p ^ b * prodF (m.erase (p, b)) := e.trans (prodF_perm hperm)
    obtain ⟨h1, h2⟩ := pow_cancel hp (not_dvd_rest hl dl) (not_dvd_rest hm2 dm2) e2
    subst h1
    have ih := fact_unique (l := l) (m := m.erase (p, a)) (fun r hr => hl r (List.mem_cons_of_mem _ hr)) ((List.nodup_cons.mp dl).2) (fun r hr => hm2 r (List.mem_cons_of_mem _ hr)) ((List.nodup_cons.mp dm2).2) h2
    exact (ih.cons (p, a)).trans hperm.symm
/-! the square-free part -/
def oddL (l : List (Int × Nat)) : List (Int × Nat) := (l.filter fun q => q.2 % 2 == 1).map fun q => (q.1, 1)
theorem oddL_prod : ∀ l : List (Int × Nat), prodF (oddL l) = oddF l ∧ oddF (oddL l) = oddF l
  | [] => ⟨rfl, rfl⟩
  | q :: l => by
    obtain ⟨h1, h2⟩ := oddL_prod l
    unfold oddL at *
    by_cases h : q.2 % 2 = 1
    · rw [List.filter_cons_of_pos (by simp [h]), List.map_cons]
      show q.1 ^ 1 * _ = (if q.2 % 2 = 1 then q.1 else 1) * _ ∧ (if (1 : Nat) % 2 = 1 then q.1 else 1) * _ = (if q.2 % 2 = 1 then q.1 else 1) * _
      rw [if_pos h, h1, h2, Int.pow_succ, Int.pow_zero, Int.one_mul]
      exact ⟨rfl, rfl⟩
    · rw [List.filter_cons_of_neg (by simp [h])]
      show _ = (if q.2 % 2 = 1 then q.1 else 1) * _ ∧ _ = (if q.2 % 2 = 1 then q.1 else 1) * _
      rw [if_neg h, h1, h2, Int.one_mul]
      exact ⟨rfl, rfl⟩
theorem oddL_primes {l : List (Int × Nat)} (h : Primes l) : Primes (oddL l) := fun q hq => by
  obtain ⟨r, hr, e⟩ := List.mem_map.mp hq
  rw [← e]
  exact ⟨(h r (List.mem_filter.mp hr).1).1, Nat.le_refl _⟩
theorem oddL_distinct {l : List (Int × Nat)} (h : Distinct l) : Distinct (oddL l) := by
  unfold Distinct oddL
  rw [List.map_map]
  have : ((fun x : Int × Nat => x.1) ∘ fun q => (q.1, 1)) = fun q : Int × Nat => q.1 := rfl
  rw [this]
  exact h.sublist (List.filter_sublist.map _)
def rootF : List (Int × Nat) → Int
  | [] => 1
  | q :: l => q.1 ^ (q.2 / 2) * rootF l
theorem rootF_append : ∀ l m : List (Int × Nat), rootF (l ++ m) = rootF l * rootF m
  | [], m => by show rootF m = 1 * rootF m; rw [Int.one_mul]
  | q :: l, m => by
    show q.1 ^ (q.2 / 2) * rootF (l ++ m) = q.1 ^ (q.2 / 2) * rootF l * rootF m
    rw [rootF_append l m, Int.mul_assoc]
theorem odd_root : ∀ l : List (Int × Nat), oddF l * rootF l * rootF l = prodF l
  | [] => rfl
  | q :: l => by
    have ih := odd_root l
    show (if q.2 % 2 = 1 then q.1 else 1) * oddF l * (q.1 ^ (q.2 / 2) * rootF l) * (q.1 ^ (q.2 / 2) * rootF l) = q.1 ^ q.2 * prodF l
    rw [pow_split q.1 q.2, ← ih]
    generalize (if q.2 % 2 = 1 then q.1 else 1) = c
    generalize q.1 ^ (q.2 / 2) = g
    generalize oddF l = o
    generalize rootF l = r
    simp only [Int.mul_comm, Int.mul_left_comm, Int.mul_assoc]
theorem rootF_bound : ∀ {l : List (Int × Nat)}, Primes l → 1 ≤ rootF l ∧ rootF l ≤ prodF l
  | [], _ => ⟨Int.le_refl _, Int.le_refl _⟩
  | q :: l, h => by
    have ih := rootF_bound (l := l) fun r hr => h r (List.mem_cons_of_mem _ hr)
    have hp2 := (h q List.mem_cons_self).1.1
    have h1 : 0 < q.1 ^ (q.2 / 2) := pow_pos_int (by omega) _
    have h2 : q.1 ^ (q.2 / 2) ≤ q.1 ^ q.2 := by
      have e : q.2 = q.2 / 2 + (q.2 - q.2 / 2) := by omega
      have h3 : 0 < q.1 ^ (q.2 - q.2 / 2) := pow_pos_int (by omega) _
      have h4 : q.1 ^ (q.2 / 2) * 1 ≤ q.1 ^ (q.2 / 2) * q.1 ^ (q.2 - q.2 / 2) := Int.mul_le_mul_of_nonneg_left (by omega) (by omega)
      rw [← Int.pow_add, ← e] at h4
      omega
    show 1 ≤ q.1 ^ (q.2 / 2) * rootF l ∧ q.1 ^ (q.2 / 2) * rootF l ≤ q.1 ^ q.2 * prodF l
    refine ⟨?_, Int.mul_le_mul h2 ih.2 (by omega) (by omega)⟩
    have := Int.mul_pos h1 (show 0 < rootF l by omega)
    omega
theorem primes_take {l : List (Int × Nat)} (h : Primes l) (i : Nat) : Primes (l.take i) := fun r hr => h r (List.mem_of_mem_take hr)
theorem rootF_take_pos {l : List (Int × Nat)} (h : Primes l) (i j : Nat) {q : Int} (hq : 2 ≤ q := by omega) : 1 ≤ rootF (l.take i) * q ^ j := by
  have h1 := (rootF_bound (primes_take h i)).1
  have h2 : 0 < q ^ j := pow_pos_int (by omega) _
  have := Int.mul_pos (show 0 < rootF (l.take i) by omega) h2
  omega
theorem pow_le_pow {p : Int} (h : 1 ≤ p) {a b : Nat} (hab : a ≤ b) : p ^ a ≤ p ^ b := by
  have e : b = a + (b - a) := by omega
  have h1 : 0 < p ^ a := pow_pos_int (by omega) _
  have h2 : 0 < p ^ (b - a) := pow_pos_int (by omega) _
  have h4 : p ^ a * 1 ≤ p ^ a * p ^ (b - a) := Int.mul_le_mul_of_nonneg_left (by omega) (by omega)
  rw [← Int.pow_add, ← e] at h4
  omega
theorem rootF_take_le {l : List (Int × Nat)} (h : Primes l) {i j : Nat} (hi : i < l.length) (hj : j < l[i].2 / 2) : rootF (l.take i) * l[i].1 ^ j ≤ prodF l := by
  have hp2 := (h _ (List.getElem_mem hi)).1.1
  have h1 := rootF_bound (primes_take h (i + 1))
  have e : rootF (l.take (i + 1)) = rootF (l.take i) * l[i].1 ^ (l[i].2 / 2) := by
    rw [List.take_add_one, List.getElem?_eq_getElem hi, rootF_append]
    show _ = _
    congr 1
    show l[i].1 ^ (l[i].2 / 2) * 1 = _
    rw [Int.mul_one]
  have h2 := (rootF_bound (primes_take h i)).1
  have h3 : l[i].1 ^ j ≤ l[i].1 ^ (l[i].2 / 2) := pow_le_pow (by omega) (by omega)
  have h4 : rootF (l.take i) * l[i].1 ^ j ≤ rootF (l.take i) * l[i].1 ^ (l[i].2 / 2) := Int.mul_le_mul_of_nonneg_left h3 (by omega)
  have h5 := prodF_take h (i + 1)
  rw [← e] at h4
  omega
theorem sq_not_dvd {l : List (Int × Nat)} (h : Primes l) (d : Distinct l) {q : Int × Nat} (hq : q ∈ l) : ¬ (q.1 * q.1) ∣ oddF l := fun z => by
  have hp := (h q hq).1
  have hperm := List.perm_cons_erase hq
  have h2 : Primes (q :: l.erase q) := fun r hr => h r (hperm.mem_iff.mpr hr)
  have d2 : Distinct (q :: l.erase q) := distinct_perm hperm d
  rw [oddF_perm hperm] at z
  have h3 : q.1 ∣ oddF (l.erase q) := by
    obtain ⟨k, hk⟩ := z
    have hk2 : (if q.2 % 2 = 1 then q.1 else 1) * oddF (l.erase q) = q.1 * q.1 * k := hk
    by_cases c : q.2 % 2 = 1
    · rw [if_pos c, Int.mul_assoc] at hk2
      exact ⟨k, Int.eq_of_mul_eq_mul_left (by have := hp.pos; omega) hk2⟩
    · rw [if_neg c, Int.one_mul, Int.mul_assoc] at hk2
      exact ⟨q.1 * k, hk2⟩
  have h4 : q.1 ∣ prodF (l.erase q) := by
    rw [← odd_root]
    exact Int.dvd_mul_of_dvd_left (Int.dvd_mul_of_dvd_left h3)
  obtain ⟨p, e⟩ := q
  exact not_dvd_rest h2 d2 h4
end Sf

namespace Sf
open PySem PySem.Spec PyProof.Rows L2
/-- the rests of squares, and the sign by them -/
def sqs (p : Int) : List Int := (List.range (p - 1).toNat).map fun i => ((1 : Int) + (i : Nat)) * (1 + (i : Nat)) % p
theorem sqs_at {p : Int} {i : Nat} (h : i < (p - 1).toNat) : (sqs p)[i]? = some (((1 : Int) + (i : Nat)) * (1 + (i : Nat)) % p) := by
  unfold sqs
  rw [List.getElem?_map, List.getElem?_range h]
  rfl
def lawSign (n p : Int) : Int := if n % p = 0 then 0 else if p = 2 then (if n % 8 = 1 ∨ n % 8 = 7 then 1 else -1) else if n % p ∈ sqs p then 1 else -1
end Sf

namespace Sf
/-! residues by tables -/
def maskOf (p : Nat) : List Nat → Nat
  | [] => 0
  | x :: l => maskOf p l ||| 2 ^ (x * x % p)
theorem maskOf_bit (p r : Nat) : ∀ l : List Nat, (maskOf p l).testBit r = l.any fun x => x * x % p == r
  | [] => Nat.zero_testBit r
  | x :: l => by
    unfold maskOf
    rw [Nat.testBit_or, maskOf_bit p r l, Nat.testBit_two_pow, List.any_cons, Bool.or_comm]
    rfl
def euler (p : Nat) : Bool :=
  let m := maskOf p (List.range' 1 (p - 1))
  (List.range' 1 (p - 1)).all fun r => (r ^ ((p - 1) / 2) % p == 1) == m.testBit r && (r ^ ((p - 1) / 2) % p == 1 || r ^ ((p - 1) / 2) % p == p - 1)
theorem sqs_nat {p r : Nat} : ((r : Int) ∈ sqs p) ↔ (List.range' 1 (p - 1)).any (fun x => x * x % p == r) = true := by
  unfold sqs
  rw [List.mem_map, List.any_eq_true]
  constructor
  · rintro ⟨i, hi, e⟩
    rw [List.mem_range] at hi
    refine ⟨1 + i, by rw [List.mem_range'_1]; omega, ?_⟩
    rw [beq_iff_eq]
    have e2 : (((1 + i) * (1 + i) % p : Nat) : Int) = (r : Int) := by
      rw [← e]
      push_cast
      rfl
    exact Int.ofNat.inj e2
  · rintro ⟨x, hx, e⟩
    rw [List.mem_range'_1] at hx
    refine ⟨x - 1, by rw [List.mem_range]; omega, ?_⟩
    rw [beq_iff_eq] at e
    have e1 : (1 : Int) + ((x - 1 : Nat) : Int) = (x : Int) := by omega
    rw [e1, ← e]
    push_cast
    rfl
theorem emod_cast {n : Int} {p : Nat} (hp : 0 < p) : ∃ r : Nat, r < p ∧ n % p = (r : Int) := by
  have h1 := Int.emod_nonneg n (by omega : (p : Int) ≠ 0)
  have h2 := Int.emod_lt_of_pos n (by omega : (0 : Int) < p)
  exact ⟨(n % p).toNat, by omega, by omega⟩
theorem half_cast (p : Nat) (hp : 1 ≤ p) : ((((p : Int) - 1) / 2).toNat) = (p - 1) / 2 := by omega
theorem pow_rest {n : Int} {p r : Nat} (k : Nat) (e : n % p = (r : Int)) : n ^ k % p = ((r ^ k % p : Nat) : Int) := by
  rw [← pow_mod, e]
  push_cast
  rfl
theorem euler_at {p : Nat} (h : euler p = true) {r : Nat} (h1 : 1 ≤ r) (h2 : r < p) : (r ^ ((p - 1) / 2) % p = 1 ↔ (r : Int) ∈ sqs p) ∧ (r ^ ((p - 1) / 2) % p = 1 ∨ r ^ ((p - 1) / 2) % p = p - 1) := by
  unfold euler at h
  have h3 := List.all_eq_true.mp h r (by rw [List.mem_range'_1]; omega)
  rw [Bool.and_eq_true, maskOf_bit] at h3
  obtain ⟨h4, h5⟩ := h3
  refine ⟨?_, by simpa using h5⟩
  rw [sqs_nat]
  have h6 := beq_iff_eq.mp h4
  rw [← h6, beq_iff_eq]
theorem sign_eq {p : Nat} (hp : 3 ≤ p) (h : euler p = true) (n : Int) : restSign n p = lawSign n p := by
  unfold restSign lawSign
  by_cases h0 : n % p = 0
  · rw [if_pos h0, if_pos h0]
  · rw [if_neg h0, if_neg h0, if_neg (by omega : ¬ (p : Int) = 2), if_neg (by omega : ¬ (p : Int) = 2)]
    obtain ⟨r, hr, e⟩ := emod_cast (n := n) (by omega : 0 < p)
    have h1 : 1 ≤ r := by
      rcases Nat.eq_zero_or_pos r with z | z
      · rw [z] at e
        exact absurd e h0
      · exact z
    have h2 := (euler_at h h1 hr).1
    rw [half_cast p (by omega), pow_rest _ e, e]
    by_cases c : r ^ ((p - 1) / 2) % p = 1
    · rw [if_pos (h2.mp c), if_pos (by rw [c]; rfl)]
    · rw [if_neg (fun z => c (h2.mpr z)), if_neg (fun z => c (by omega))]
theorem sign_eq2 (n : Int) : restSign n 2 = lawSign n 2 := by
  unfold restSign lawSign
  rfl
theorem sign_mul {p : Nat} (hp : 3 ≤ p) (h : euler p = true) (hq : PrP p) (a b : Int) : restSign (a * b) p = restSign a p * restSign b p := by
  unfold restSign
  have hn : ¬ (p : Int) = 2 := by omega
  by_cases ha : a % p = 0
  · have hab : a * b % p = 0 := Int.emod_eq_zero_of_dvd (Int.dvd_mul_of_dvd_left (Int.dvd_of_emod_eq_zero ha))
    rw [if_pos ha, if_pos hab, Int.zero_mul]
  · by_cases hb : b % p = 0
    · have hab : a * b % p = 0 := Int.emod_eq_zero_of_dvd (Int.dvd_mul_of_dvd_right (Int.dvd_of_emod_eq_zero hb))
      rw [if_pos hb, if_pos hab, Int.mul_zero]
    · have hab : ¬ a * b % p = 0 := fun z => by
        rcases prime_mul hq (Int.dvd_of_emod_eq_zero z) with y | y
        · exact ha (Int.emod_eq_zero_of_dvd y)
        · exact hb (Int.emod_eq_zero_of_dvd y)
      rw [if_neg ha, if_neg hb, if_neg hab, if_neg hn, if_neg hn, if_neg hn, half_cast p (by omega)]
      obtain ⟨r, hr, er⟩ := emod_cast (n := a) (by omega : 0 < p)
      obtain ⟨t, ht, et⟩ := emod_cast (n := b) (by omega : 0 < p)
      have r1 : 1 ≤ r := by
        rcases Nat.eq_zero_or_pos r with z | z
        · rw [z] at er
          exact absurd er ha
        · exact z
      have t1 : 1 ≤ t := by
        rcases Nat.eq_zero_or_pos t with z | z
        · rw [z] at et
          exact absurd et hb
        · exact z
      have e1 := (euler_at h r1 hr).2
      have e2 := (euler_at h t1 ht).2
      have p1 := pow_rest ((p - 1) / 2) er
      have p2 := pow_rest ((p - 1) / 2) et
      have pm : (a * b) ^ ((p - 1) / 2) % p = ((a ^ ((p - 1) / 2) % p) * (b ^ ((p - 1) / 2) % p)) % p := by rw [Int.mul_pow, Int.mul_emod]
      have c1 : ((p - 1 : Nat) : Int) = (p : Int) - 1 := by omega
      have q1 : ((p : Int) - 1) * ((p : Int) - 1) % p = 1 := by
        have : ((p : Int) - 1) * ((p : Int) - 1) = 1 + p * (p - 2) := by
          have e3 : (p : Int) * (p - 2) = p * p - p * 2 := Int.mul_sub ..
          rw [e3, Int.sub_mul, Int.mul_sub]
          omega
        rw [this, Int.add_mul_emod_self_left]
        exact Int.emod_eq_of_lt (by omega) (by omega)
      have q2 : ((p : Int) - 1) % p = p - 1 := Int.emod_eq_of_lt (by omega) (by omega)
      have n1 : ¬ ((p : Int) - 1) = 1 := by omega
      rw [pm, p1, p2]
      rcases e1 with e1 | e1 <;> rcases e2 with e2 | e2 <;> rw [e1, e2]
      · have : ((1 : Nat) : Int) * ((1 : Nat) : Int) % p = 1 := Int.emod_eq_of_lt (by decide) (by show (1 : Int) < p; omega)
        rw [this]
        rfl
      · rw [c1, show ((1 : Nat) : Int) * ((p : Int) - 1) = p - 1 by omega, q2, if_neg n1]
        rfl
      · rw [c1, show ((p : Int) - 1) * ((1 : Nat) : Int) = p - 1 by omega, q2, if_neg n1]
        rfl
      · rw [c1, q1, if_neg n1]
        rfl
theorem sign_mul2 (a b : Int) : restSign (a * b) 2 = restSign a 2 * restSign b 2 := by
  have key : ∀ r : Fin 8, ∀ t : Fin 8, restSign ((r.val : Int) * (t.val : Int)) 2 = restSign r.val 2 * restSign t.val 2 := by decide +kernel
  have red : ∀ n : Int, restSign n 2 = restSign (n % 8) 2 := fun n => by
    unfold restSign
    have h1 : n % 8 % 2 = n % 2 := by omega
    have h2 : n % 8 % 8 = n % 8 := by omega
    rw [h1, h2]
    rfl
  have k2 : ∀ n : Int, ∃ r : _root_.Fin 8, n % 8 = (r.val : Int) := fun n => ⟨⟨(n % 8).toNat, by omega⟩, by show n % 8 = ((n % 8).toNat : Int); omega⟩
  obtain ⟨r, hr⟩ := k2 a
  obtain ⟨t, ht⟩ := k2 b
  rw [red (a * b), Int.mul_emod, ← red, red a, red b, hr, ht]
  exact key r t
end Sf

namespace Sf
open PySem PySem.Spec PyProof.Rows L2
/-! lists and tuples of ints as data -/
theorem lay_ints : ∀ ns : List Int, PyData.canLayAll0 (ns.map PyData.int) = true ∧ PyData.depthAll (ns.map PyData.int) = 0
  | [] => ⟨rfl, rfl⟩
  | n :: ns => by
    obtain ⟨h1, h2⟩ := lay_ints ns
    refine ⟨?_, ?_⟩
    · show (true && PyData.canLayAll0 (ns.map PyData.int)) = true
      rw [h1]
      rfl
    · show max 0 (PyData.depthAll (ns.map PyData.int)) = 0
      rw [h2]
      rfl
theorem shp_list (ns : List Int) : SeqAt.shaped (.list (ns.map PyData.int)) = true := by
  obtain ⟨h1, h2⟩ := lay_ints ns
  show (PyData.canLayAll0 (ns.map PyData.int) && decide (PyData.depthAll (ns.map PyData.int) + 1 ≤ 64)) = true
  rw [h1, h2]
  rfl
theorem shp_tup (ns : List Int) : SeqAt.shaped (.tuple (ns.map PyData.int)) = true := by
  obtain ⟨h1, h2⟩ := lay_ints ns
  show (PyData.canLayAll0 (ns.map PyData.int) && decide (PyData.depthAll (ns.map PyData.int) + 1 ≤ 64)) = true
  rw [h1, h2]
  rfl
theorem eqv_ints : ∀ a b : List Int, PyData.eqvAll (a.map PyData.int) (b.map PyData.int) = decide (a = b)
  | [], [] => rfl
  | [], _ :: _ => rfl
  | _ :: _, [] => rfl
  | x :: a, y :: b => by
    show ((x == y) && PyData.eqvAll (a.map PyData.int) (b.map PyData.int)) = _
    rw [eqv_ints a b, Bool.eq_iff_iff]
    simp only [Bool.and_eq_true, beq_iff_eq, decide_eq_true_eq, List.cons.injEq]
theorem dpAll_ints (K : PySem.W.Frag) (H : Hp) : ∀ ns : List Int, DpAll K H (ns.map V.int) (ns.map PyData.int)
  | [] => .nil
  | n :: ns => .cons (.int n) (dpAll_ints K H ns)
theorem dp_list {K : PySem.W.Frag} {H : Hp} {a : Addr} {ns : List Int} (h : SqL K H a (ns.map V.int)) : Dp K H (.ref a) (.list (ns.map PyData.int)) := .lst h (dpAll_ints K H ns)
theorem dp_tup {K : PySem.W.Frag} {H : Hp} {a : Addr} {ns : List Int} (h : SqT K H a (ns.map V.int)) : Dp K H (.ref a) (.tuple (ns.map PyData.int)) := .tup h (dpAll_ints K H ns)
end Sf

namespace Sf
theorem strip_unique {n p : Int} (hp : PrP p) {m m' : Nat} {u u' : Int} (h : Strip n p m u) (h' : Strip n p m' u') : m = m' ∧ u = u' :=
  pow_cancel hp (fun z => h.2 (Int.emod_eq_zero_of_dvd z)) (fun z => h'.2 (Int.emod_eq_zero_of_dvd z)) (h.1.symm.trans h'.1)
theorem strip_ne {n p : Int} {m : Nat} {u : Int} (h : Strip n p m u) : u ≠ 0 := fun z => h.2 (by rw [z]; exact Int.zero_emod _)
theorem strip_le {n p : Int} (hp : 2 ≤ p) {m : Nat} {u : Int} (h : Strip n p m u) : u.natAbs ≤ n.natAbs ∧ (m : Int) < n.natAbs + 1 := by
  have h1 := h.1
  have hu := strip_ne h
  have hpm : 0 < p ^ m := pow_pos_int (by omega) m
  have e : n.natAbs = (p ^ m).natAbs * u.natAbs := by rw [h1]; exact Int.natAbs_mul _ _
  have g1 : 1 ≤ (p ^ m).natAbs := by omega
  have g2 : 1 ≤ u.natAbs := by omega
  have g3 : 1 * u.natAbs ≤ (p ^ m).natAbs * u.natAbs := Nat.mul_le_mul_right _ g1
  have g4 : (p ^ m).natAbs * 1 ≤ (p ^ m).natAbs * u.natAbs := Nat.mul_le_mul_left _ g2
  have g5 := nat_lt_pow hp m
  omega
/-- the sign at a prime by what is stripped -/
def sgnAt (p : Int) (s t : Nat) (u v : Int) : Int :=
  if p = 2 then (if ((u - 1) / 2 * ((v - 1) / 2) + s * ((v * v - 1) / 8) + t * ((u * u - 1) / 8)) % 2 = 1 then -1 else 1)
  else (if s * t % 2 = 1 then restSign (-1) p else 1) * (if t % 2 = 1 then restSign u p else 1) * (if s % 2 = 1 then restSign v p else 1)
def HSign (a b p r : Int) : Prop := (p = 0 ∧ r = if a < 0 ∧ b < 0 then -1 else 1) ∨ (p ≠ 0 ∧ ∃ (s t : Nat) (u v : Int), Strip a p s u ∧ Strip b p t v ∧ r = sgnAt p s t u v)
theorem hsign_unique {a b p r r' : Int} (hp : p = 0 ∨ PrP p) (h : HSign a b p r) (h' : HSign a b p r') : r = r' := by
  rcases h with ⟨h0, h1⟩ | ⟨h0, s, t, u, v, h1, h2, h3⟩
  · rcases h' with ⟨_, g1⟩ | ⟨g0, _⟩
    · rw [h1, g1]
    · exact absurd h0 g0
  · rcases h' with ⟨g0, _⟩ | ⟨_, s', t', u', v', g1, g2, g3⟩
    · exact absurd g0 h0
    · have hp := hp.resolve_left h0
      obtain ⟨e1, e2⟩ := strip_unique hp h1 g1
      obtain ⟨e3, e4⟩ := strip_unique hp h2 g2
      rw [h3, g3, e1, e2, e3, e4]
theorem sgnAt_comm (p : Int) (s t : Nat) (u v : Int) : sgnAt p s t u v = sgnAt p t s v u := by
  unfold sgnAt
  by_cases h : p = 2
  · rw [if_pos h, if_pos h]
    have e : (u - 1) / 2 * ((v - 1) / 2) + s * ((v * v - 1) / 8) + t * ((u * u - 1) / 8) = (v - 1) / 2 * ((u - 1) / 2) + t * ((u * u - 1) / 8) + s * ((v * v - 1) / 8) := by
      rw [Int.mul_comm ((u - 1) / 2)]
      omega
    rw [e]
  · rw [if_neg h, if_neg h, Nat.mul_comm s t, Int.mul_assoc, Int.mul_assoc]
    congr 1
    exact Int.mul_comm _ _
theorem hsign_comm {a b p r : Int} (h : HSign a b p r) : HSign b a p r := by
  rcases h with ⟨h0, h1⟩ | ⟨h0, s, t, u, v, h1, h2, h3⟩
  · refine .inl ⟨h0, ?_⟩
    rw [h1]
    by_cases c : a < 0 ∧ b < 0
    · rw [if_pos c, if_pos c.symm]
    · rw [if_neg c, if_neg (fun z => c z.symm)]
  · exact .inr ⟨h0, t, s, v, u, h2, h1, by rw [h3]; exact sgnAt_comm ..⟩
theorem rest_small (n p : Int) : -1 ≤ restSign n p ∧ restSign n p ≤ 1 := by
  unfold restSign
  split
  · decide
  · split
    · split <;> decide
    · split <;> decide
end Sf

namespace Sf
open PySem PySem.Spec PyProof.Rows L2
section
variable {P : Program} {w : World} {K : PySem.W.Frag} {mg : Str → Option Value} {base : Heap} {f : Addr} {fd : FuncData}
def spQuarter : Sp := fun vs H Q _ => ∃ u : Int, vs = [.int u] ∧ Q (.int ((u - 1) / 2)) H
theorem ok_quarter (F : FnD K "quarter" "quarter" s_P_quarter f fd) : FnOk P w K mg base CX0 1 f fd ["unit"] spQuarter := by
  refine F.ok sc_P_quarter (fun vs H Q E h => ?_) (fun cdv A outer s H vs Q E hr h => ?_)
  · obtain ⟨n, rfl, _⟩ := h; rfl
  · obtain ⟨n, rfl, q⟩ := h
    refine ⟨_, PSs.nox (pss_one (ps_ret (pe_op op_fdivW (pe_op op_sub (pv 0) pe_int) pe_int))), ?_⟩
    exact ⟨_, rfl, _, _, rfl, rfl, _, _, rfl, rfl, CDivW.of (by decide) (by decide +kernel), q⟩
def spEighth : Sp := fun vs H Q _ => ∃ u : Int, vs = [.int u] ∧ u.natAbs < 2 ^ 3000 ∧ Q (.int ((u * u - 1) / 8)) H
theorem ok_eighth (F : FnD K "eighth" "eighth" s_P_eighth f fd) : FnOk P w K mg base CX0 1 f fd ["unit"] spEighth := by
  refine F.ok sc_P_eighth (fun vs H Q E h => ?_) (fun cdv A outer s H vs Q E hr h => ?_)
  · obtain ⟨n, rfl, _⟩ := h; rfl
  · obtain ⟨n, rfl, hb, q⟩ := h
    refine ⟨_, PSs.nox (pss_one (ps_ret (pe_op op_fdivW (pe_op op_sub (pe_op op_mulW (pv 0) (pv 0)) pe_int) pe_int))), ?_⟩
    exact ⟨_, rfl, _, rfl, _, _, rfl, rfl, CMulW.of hb hb, _, _, rfl, rfl, _, _, rfl, rfl, CDivW.of (by decide) (by decide +kernel), q⟩
structure SgnP (two : Bool) (vs : List V) (H : Hp) (Q : VK) : Prop where
  ex : ∃ a b p : Int, vs = (if two then [.int a, .int b] else [.int a, .int b, .int p]) ∧ (two = true → p = 2) ∧ (two = false → p ≠ 2) ∧ a ≠ 0 ∧ b ≠ 0 ∧ a.natAbs ≤ 1000000000 ∧ b.natAbs ≤ 1000000000 ∧ 2 ≤ p ∧ p ≤ 1000000000 ∧
    ∀ (s t : Nat) (u v : Int) (H' : Hp), Strip a p s u → Strip b p t v → Same H H' → Q (.int (sgnAt p s t u v)) H'
def spSgn (two : Bool) : Sp := fun vs H Q _ => SgnP two vs H Q
theorem small_mul {a b A B : Int} (ha : a.natAbs ≤ A.natAbs) (hb : b.natAbs ≤ B.natAbs) : (a * b).natAbs ≤ (A * B).natAbs := by
  rw [Int.natAbs_mul, Int.natAbs_mul]
  exact Nat.mul_le_mul ha hb
theorem ok_sign_at_two (F : FnD K "sign_at_two" "sign_at_two" s_P_sign_at_two f fd) (C_P_stripped : Cal P w K mg base 1 "stripped" ["number", "prime"] spStripped) (C_P_quarter : Cal P w K mg base 1 "quarter" ["unit"] spQuarter) (C_P_eighth : Cal P w K mg base 1 "eighth" ["unit"] spEighth) :
    FnOk P w K mg base CX0 2 f fd ["a", "b"] (spSgn true) := by
  refine F.ok sc_P_sign_at_two (fun vs H Q E h => ?_) (fun cdv A outer s H vs Q E hr h => ?_)
  · obtain ⟨a, b, p, rfl, _⟩ := h.ex; rfl
  · obtain ⟨a, b, p, rfl, h2, _, a0, b0, a1, b1, _, _, q⟩ := h.ex
    obtain rfl : p = 2 := h2 rfl
    refine ⟨_, PSs.nox (pss_cons (ps_asg (pe_cal C_P_stripped (hr.mono (by decide)) (pa_cons (pv 0) (pa_cons pe_int pa_nil))) (pg_tup (by rfl) (pgs_cons (pg_name (i := 2) sc_P_sign_at_two.nd rfl (Or.inl rfl)) (pgs_cons (pg_name (i := 3) sc_P_sign_at_two.nd rfl (Or.inl rfl)) pgs_nil))))
      (pss_cons (ps_asg (pe_cal C_P_stripped (hr.mono (by decide)) (pa_cons (pv 1) (pa_cons pe_int pa_nil))) (pg_tup (by rfl) (pgs_cons (pg_name (i := 4) sc_P_sign_at_two.nd rfl (Or.inl rfl)) (pgs_cons (pg_name (i := 5) sc_P_sign_at_two.nd rfl (Or.inl rfl)) pgs_nil))))
      (pss_cons (ps_set (i := 6) sc_P_sign_at_two.nd rfl (Or.inl rfl) (pe_op op_add (pe_op op_add (pe_op op_mulW (pe_cal C_P_quarter (hr.mono (by decide)) (pa_cons (pv 3) pa_nil)) (pe_cal C_P_quarter (hr.mono (by decide)) (pa_cons (pv 5) pa_nil))) (pe_op op_mulW (pv 2) (pe_cal C_P_eighth (hr.mono (by decide)) (pa_cons (pv 5) pa_nil)))) (pe_op op_mulW (pv 4) (pe_cal C_P_eighth (hr.mono (by decide)) (pa_cons (pv 3) pa_nil)))))
      (pss_one (ps_ret (pe_ifExp (pt_cmp (pc_eqI (pe_op op_mod (pv 6) pe_int) pe_int)) (pe_un un_neg pe_int) pe_int)))))), ?_⟩
    have tb : (2 : Int).natAbs < 2 ^ 3000 := by decide +kernel
    refine ⟨_, rfl, a, 2, rfl, a0, by decide, tb, fun s u x1 st1 hx1 => ⟨x1, _, rfl, .inl (.inl upd_same), rfl, _, _, rfl, _, _, rfl, rfl, ?_⟩⟩
    refine ⟨_, rfl, b, 2, rfl, b0, by decide, tb, fun t v x2 st2 hx2 => ⟨x2, _, rfl, .inl (.inl upd_same), rfl, _, _, rfl, _, _, rfl, rfl, ?_⟩⟩
    have l1 := strip_le (by decide) st1
    have l2 := strip_le (by decide) st2
    have ub : u.natAbs < 2 ^ 3000 := lt3000s (by omega) (by omega)
    have vb : v.natAbs < 2 ^ 3000 := lt3000s (by omega) (by omega)
    have uu : (u * u).natAbs ≤ 1000000000000000000 := by
      have := small_mul (a := u) (b := u) (A := 1000000000) (B := 1000000000) (by omega) (by omega)
      exact this
    have vv : (v * v).natAbs ≤ 1000000000000000000 := by
      have := small_mul (a := v) (b := v) (A := 1000000000) (B := 1000000000) (by omega) (by omega)
      exact this
    refine ⟨_, rfl, u, rfl, _, rfl, v, rfl, _, _, rfl, rfl, CMulW.of (lt3000s (by omega) (by omega)) (lt3000s (by omega) (by omega)), _, rfl, _, rfl, v, rfl, vb, _, _, rfl, rfl, CMulW.of (lt3000s (by omega) (by omega)) (lt3000s (by omega) (by omega)), _, _, rfl, rfl, _, rfl, _, rfl, u, rfl, ub, _, _, rfl, rfl, CMulW.of (lt3000s (by omega) (by omega)) (lt3000s (by omega) (by omega)), _, _, rfl, rfl, ?_⟩
    have z := q s t u v (upd (upd H x1 (.tup [.int s, .int u])) x2 (.tup [.int t, .int v])) st1 st2 ((same_upd hx1).trans (same_upd hx2))
    unfold sgnAt at z
    rw [if_pos rfl] at z
    refine ⟨_, rfl, _, _, rfl, rfl, (by show (0 : Int) < 2; decide), _, _, rfl, rfl, _, rfl, ifd (fun h => ?_) (fun h => ?_)⟩
    · rw [if_pos h] at z
      exact ⟨_, rfl, z⟩
    · rw [if_neg h] at z
      exact z
theorem mul1 (a : Int) : 1 * a = a := Int.one_mul a
theorem ok_sign_at_odd (F : FnD K "sign_at_odd" "sign_at_odd" s_P_sign_at_odd f fd) (C_P_stripped : Cal P w K mg base 1 "stripped" ["number", "prime"] spStripped) (C_P_rest_sign : Cal P w K mg base 2 "rest_sign" ["number", "prime"] spRestSign) :
    FnOk P w K mg base CX0 3 f fd ["a", "b", "prime"] (spSgn false) := by
  refine F.ok sc_P_sign_at_odd (fun vs H Q E h => ?_) (fun cdv A outer s H vs Q E hr h => ?_)
  · obtain ⟨a, b, p, rfl, _⟩ := h.ex; rfl
  · obtain ⟨a, b, p, rfl, _, hp2, a0, b0, a1, b1, p2, p9, q⟩ := h.ex
    have pn : p ≠ 2 := hp2 rfl
    refine ⟨_, PSs.nox (pss_cons (ps_asg (pe_cal C_P_stripped (hr.mono (by decide)) (pa_cons (pv 0) (pa_cons (pv 2) pa_nil))) (pg_tup (by rfl) (pgs_cons (pg_name (i := 3) sc_P_sign_at_odd.nd rfl (Or.inl rfl)) (pgs_cons (pg_name (i := 4) sc_P_sign_at_odd.nd rfl (Or.inl rfl)) pgs_nil))))
      (pss_cons (ps_asg (pe_cal C_P_stripped (hr.mono (by decide)) (pa_cons (pv 1) (pa_cons (pv 2) pa_nil))) (pg_tup (by rfl) (pgs_cons (pg_name (i := 5) sc_P_sign_at_odd.nd rfl (Or.inl rfl)) (pgs_cons (pg_name (i := 6) sc_P_sign_at_odd.nd rfl (Or.inl rfl)) pgs_nil))))
      (pss_cons (ps_set (i := 7) sc_P_sign_at_odd.nd rfl (Or.inl rfl) pe_int)
      (Evl.pss_cut (ps_if (pt_cmp (pc_eqI (pe_op op_mod (pe_op op_mulW (pv 3) (pv 5)) pe_int) pe_int)) (pss_one (ps_set (i := 7) sc_P_sign_at_odd.nd rfl (Or.inl rfl) (pe_op op_mulW (pv 7) (pe_cal C_P_rest_sign (hr.mono (by decide)) (pa_cons (pe_un un_neg pe_int) (pa_cons (pv 2) pa_nil)))))) pss_nil)
      (Evl.pss_cut (ps_if (pt_cmp (pc_eqI (pe_op op_mod (pv 5) pe_int) pe_int)) (pss_one (ps_set (i := 7) sc_P_sign_at_odd.nd rfl (Or.inl rfl) (pe_op op_mulW (pv 7) (pe_cal C_P_rest_sign (hr.mono (by decide)) (pa_cons (pv 4) (pa_cons (pv 2) pa_nil)))))) pss_nil)
      (pss_cons (ps_if (pt_cmp (pc_eqI (pe_op op_mod (pv 3) pe_int) pe_int)) (pss_one (ps_set (i := 7) sc_P_sign_at_odd.nd rfl (Or.inl rfl) (pe_op op_mulW (pv 7) (pe_cal C_P_rest_sign (hr.mono (by decide)) (pa_cons (pv 6) (pa_cons (pv 2) pa_nil)))))) pss_nil)
      (pss_one (ps_ret (pv 7))))))))), ?_⟩
    have tb : p.natAbs < 2 ^ 3000 := lt3000s (by omega) (by omega)
    have tb1 : p.natAbs < 2 ^ 1000 := Nat.lt_trans (by omega : p.natAbs < 2000000000) (by decide +kernel)
    refine ⟨_, rfl, _, rfl, a, p, rfl, a0, p2, tb, fun s u x1 st1 hx1 => ⟨x1, _, rfl, .inl (.inl upd_same), rfl, _, _, rfl, _, _, rfl, rfl, ?_⟩⟩
    refine ⟨_, rfl, _, rfl, b, p, rfl, b0, p2, tb, fun t v x2 st2 hx2 => ⟨x2, _, rfl, .inl (.inl upd_same), rfl, _, _, rfl, _, _, rfl, rfl, ?_⟩⟩
    have l1 := strip_le p2 st1
    have l2 := strip_le p2 st2
    have k0 : Same H (upd (upd H x1 (.tup [.int s, .int u])) x2 (.tup [.int t, .int v])) := (same_upd hx1).trans (same_upd hx2)
    have est : ((s : Int) * (t : Int)) = ((s * t : Nat) : Int) := (Int.natCast_mul s t).symm
    have hst : ((s : Int) * (t : Int)) % 2 = 1 ↔ s * t % 2 = 1 := by rw [est]; omega
    have r1 := rest_small (-1) p
    have r2 := rest_small u p
    have r3 := rest_small v p
    have z := fun H' k => q s t u v H' st1 st2 k
    unfold sgnAt at z
    rw [if_neg pn] at z
    refine ⟨fun σ' H' => σ' = [some (.int a), some (.int b), some (.int p), some (.int s), some (.int u), some (.int t), some (.int v), some (.int (if s * t % 2 = 1 then restSign (-1) p else 1))] ∧ Same H H', ?_, ?_⟩
    · refine ⟨_, rfl, _, rfl, _, _, rfl, rfl, CMulW.of (lt3000s (by omega) (by omega)) (lt3000s (by omega) (by omega)), _, _, rfl, rfl, (by show (0 : Int) < 2; decide), _, _, rfl, rfl, _, rfl, ifd (fun h => ?_) (fun h => ?_)⟩
      · have h' := hst.mp h
        rw [if_pos h']
        exact ⟨_, rfl, 1, rfl, _, rfl, -1, p, rfl, p2, tb1, fun H' k => ⟨_, _, rfl, rfl, CMulW.of (lt3000s (by decide) (by decide)) (lt3000s (by omega) (by omega)), (by show [some (V.int a), some (.int b), some (.int p), some (.int s), some (.int u), some (.int t), some (.int v), some (.int (1 * restSign (-1) p))] = _; rw [mul1]), k0.trans k⟩⟩
      · have h' := fun z => h (hst.mpr z)
        rw [if_neg h']
        exact ⟨rfl, k0⟩
    rintro σ' H1 ⟨rfl, k1⟩
    have b1 : -1 ≤ (if s * t % 2 = 1 then restSign (-1) p else 1) ∧ (if s * t % 2 = 1 then restSign (-1) p else 1) ≤ 1 := by split <;> omega
    have b2 : -1 ≤ (if t % 2 = 1 then restSign u p else 1) ∧ (if t % 2 = 1 then restSign u p else 1) ≤ 1 := by split <;> omega
    generalize (if s * t % 2 = 1 then restSign (-1) p else 1) = x at z b1
    refine ⟨fun σ' H' => σ' = [some (.int a), some (.int b), some (.int p), some (.int s), some (.int u), some (.int t), some (.int v), some (.int (x * (if t % 2 = 1 then restSign u p else 1)))] ∧ Same H H', ?_, ?_⟩
    · refine ⟨_, rfl, _, _, rfl, rfl, (by show (0 : Int) < 2; decide), _, _, rfl, rfl, _, rfl, ifd (fun h => ?_) (fun h => ?_)⟩
      · have h' : t % 2 = 1 := by omega
        rw [if_pos h']
        exact ⟨_, rfl, _, rfl, _, rfl, u, p, rfl, p2, tb1, fun H' k => ⟨_, _, rfl, rfl, CMulW.of (lt3000s (by omega) (by omega)) (lt3000s (by omega) (by omega)), rfl, k1.trans k⟩⟩
      · have h' : ¬ t % 2 = 1 := by omega
        rw [if_neg h', Int.mul_one]
        exact ⟨rfl, k1⟩
    rintro σ' H2 ⟨rfl, k2⟩
    generalize (if t % 2 = 1 then restSign u p else 1) = y at z b2
    have b3 : (x * y).natAbs ≤ 1 := small_mul (A := 1) (B := 1) (by omega) (by omega)
    refine ⟨_, rfl, _, _, rfl, rfl, (by show (0 : Int) < 2; decide), _, _, rfl, rfl, _, rfl, ifd (fun h => ?_) (fun h => ?_)⟩
    · have h' : s % 2 = 1 := by omega
      rw [if_pos h'] at z
      exact ⟨_, rfl, _, rfl, _, rfl, v, p, rfl, p2, tb1, fun H' k => ⟨_, _, rfl, rfl, CMulW.of (lt3000s (by omega) (by omega)) (lt3000s (by omega) (by omega)), _, rfl, z _ (k2.trans k)⟩⟩
    · have h' : ¬ s % 2 = 1 := by omega
      rw [if_neg h', Int.mul_one] at z
      exact ⟨_, rfl, z _ k2⟩
structure SignP (vs : List V) (H : Hp) (Q : VK) : Prop where
  ex : ∃ a b p : Int, vs = [.int a, .int b, .int p] ∧ a ≠ 0 ∧ b ≠ 0 ∧ a.natAbs ≤ 1000000000 ∧ b.natAbs ≤ 1000000000 ∧ (p = 0 ∨ PrP p ∧ p ≤ 1000000000) ∧ ∀ (r : Int) (H' : Hp), HSign a b p r → Same H H' → Q (.int r) H'
def spSign : Sp := fun vs H Q _ => SignP vs H Q
theorem ok_sign (F : FnD K "sign" "sign" s_P_sign f fd) (C_P_sign_at_two : Cal P w K mg base 2 "sign_at_two" ["a", "b"] (spSgn true)) (C_P_sign_at_odd : Cal P w K mg base 3 "sign_at_odd" ["a", "b", "prime"] (spSgn false)) :
    FnOk P w K mg base CX0 4 f fd ["a", "b", "place"] spSign := by
  refine F.ok sc_P_sign (fun vs H Q E h => ?_) (fun cdv A outer s H vs Q E hr h => ?_)
  · obtain ⟨a, b, p, rfl, _⟩ := h.ex; rfl
  · obtain ⟨a, b, p, rfl, a0, b0, a1, b1, hp, q⟩ := h.ex
    refine ⟨_, PSs.nox (pss_cons (ps_if (pt_cmp (pc_eqI (pv 2) pe_int)) (pss_one (ps_ret (pe_ifExp (PW.pt (pw_and (pt_cmp (pc_lt (pv 0) pe_int)) (pw_and1 (pt_cmp (pc_lt (pv 1) pe_int))))) (pe_un un_neg pe_int) pe_int))) pss_nil)
      (pss_cons (ps_if (pt_cmp (pc_eqI (pv 2) pe_int)) (pss_one (ps_ret (pe_cal C_P_sign_at_two (hr.mono (by decide)) (pa_cons (pv 0) (pa_cons (pv 1) pa_nil))))) pss_nil)
      (pss_one (ps_ret (pe_cal C_P_sign_at_odd (hr.mono (by decide)) (pa_cons (pv 0) (pa_cons (pv 1) (pa_cons (pv 2) pa_nil)))))))), ?_⟩
    refine ⟨_, rfl, _, _, rfl, rfl, _, rfl, ifd (fun h => ?_) (fun h => ?_)⟩
    · have z := fun r e => q r H (.inl ⟨h, e⟩) (Same.refl H)
      refine ⟨_, rfl, _, _, rfl, rfl, _, rfl, ifd (fun h1 => ⟨_, rfl, _, _, rfl, rfl, _, rfl, ifd (fun h2 => ?_) (fun h2 => ?_)⟩) (fun h1 => ?_)⟩
      · exact ⟨_, rfl, z _ (by rw [if_pos ⟨h1, h2⟩])⟩
      · exact z _ (by rw [if_neg (fun c => h2 c.2)])
      · exact z _ (by rw [if_neg (fun c => h1 c.1)])
    · have hp := hp.resolve_left h
      have p2 := hp.1.1
      refine ⟨_, rfl, _, _, rfl, rfl, _, rfl, ifd (fun h2 => ?_) (fun h2 => ?_)⟩
      · have h2 : p = 2 := h2
        subst h2
        exact ⟨_, rfl, _, rfl, ⟨a, b, 2, rfl, fun _ => rfl, fun z => Bool.noConfusion z, a0, b0, a1, b1, by decide, by decide, fun s t u v H' h3 h4 k => q _ H' (.inr ⟨h, s, t, u, v, h3, h4, rfl⟩) k⟩⟩
      · exact ⟨_, rfl, _, rfl, _, rfl, ⟨a, b, p, rfl, fun z => Bool.noConfusion z, fun _ => h2, a0, b0, a1, b1, p2, hp.2, fun s t u v H' h3 h4 k => q _ H' (.inr ⟨h, s, t, u, v, h3, h4, rfl⟩) k⟩⟩
end
end Sf

namespace Sf
open PySem PySem.Spec PyProof.Rows L2
theorem strip_exists {n p : Int} (hn : n ≠ 0) (hp : 2 ≤ p) : ∃ (m : Nat) (u : Int), Strip n p m u := by
  generalize hN : n.natAbs = N
  induction N using Nat.strongRecOn generalizing n with
  | ind N ih =>
    by_cases h : n % p = 0
    · obtain ⟨l1, l2, l3⟩ := strip_less hn hp h
      obtain ⟨m, u, e, hu⟩ := ih _ (by omega) l2 rfl
      refine ⟨m + 1, u, ?_, hu⟩
      rw [Int.pow_succ, Int.mul_comm (p ^ m) p, Int.mul_assoc, ← e]
      exact l3
    · exact ⟨0, n, by rw [Int.pow_zero, Int.one_mul], h⟩
theorem odd_sq8 {w : Int} (h : w % 2 ≠ 0) : w * w % 8 = 1 := by
  have h1 : w % 8 = 1 ∨ w % 8 = 3 ∨ w % 8 = 5 ∨ w % 8 = 7 := by omega
  rw [Int.mul_emod]
  rcases h1 with e | e | e | e <;> rw [e] <;> decide
/-- the same unit, up to what the sign sees -/
def Alike (p u v : Int) : Prop := if p = 2 then u % 8 = v % 8 else restSign u p = restSign v p
theorem half_par {u v : Int} (h : u % 8 = v % 8) : ((u - 1) / 2) % 2 = ((v - 1) / 2) % 2 := by omega
theorem w_par {u v : Int} (h : u % 8 = v % 8) : ((u * u - 1) / 8) % 2 = ((v * v - 1) / 8) % 2 := by
  have e : u = v + 8 * ((u - v) / 8) := by omega
  generalize (u - v) / 8 = k at e
  have e2 : u * u = v * v + 16 * (v * k + 4 * (k * k)) := by rw [e]; grind
  omega
theorem par_mul (a b c d : Int) (h1 : a % 2 = c % 2) (h2 : b % 2 = d % 2) : (a * b) % 2 = (c * d) % 2 := by
  rw [Int.mul_emod, h1, h2, ← Int.mul_emod]
theorem sgn_congr {p : Int} {s t s' t' : Nat} {u v u' v' : Int} (hs : s % 2 = s' % 2) (ht : t % 2 = t' % 2) (hu : Alike p u u') (hv : Alike p v v') : sgnAt p s t u v = sgnAt p s' t' u' v' := by
  unfold sgnAt
  unfold Alike at hu hv
  by_cases h : p = 2
  · rw [if_pos h] at hu hv ⊢
    rw [if_pos h]
    have h1 := par_mul _ _ _ _ (half_par hu) (half_par hv)
    have h2 := par_mul (s : Int) ((v * v - 1) / 8) (s' : Int) ((v' * v' - 1) / 8) (by omega) (w_par hv)
    have h3 := par_mul (t : Int) ((u * u - 1) / 8) (t' : Int) ((u' * u' - 1) / 8) (by omega) (w_par hu)
    have e : ((u - 1) / 2 * ((v - 1) / 2) + s * ((v * v - 1) / 8) + t * ((u * u - 1) / 8)) % 2 = ((u' - 1) / 2 * ((v' - 1) / 2) + s' * ((v' * v' - 1) / 8) + t' * ((u' * u' - 1) / 8)) % 2 := by omega
    rw [e]
  · rw [if_neg h] at hu hv ⊢
    rw [if_neg h, hu, hv, hs, ht, Nat.mul_mod s t, hs, ht, ← Nat.mul_mod]
theorem rest_unit {w p : Int} (h : w % p ≠ 0) : restSign w p * restSign w p = 1 := by
  unfold restSign
  rw [if_neg h]
  split
  · split <;> decide
  · split <;> decide
theorem alike_sq {p u w : Int} (hp : PrP p) (he : p = 2 ∨ ∃ q : Nat, p = q ∧ 3 ≤ q ∧ euler q = true) (hw : w % p ≠ 0) : Alike p (u * (w * w)) u := by
  unfold Alike
  by_cases h : p = 2
  · rw [if_pos h, Int.mul_emod, odd_sq8 (by rw [← h]; exact hw), Int.mul_one, Int.emod_emod_of_dvd _ (Int.dvd_refl _)]
  · rw [if_neg h]
    obtain ⟨q, rfl, h3, e⟩ := he.resolve_left h
    rw [sign_mul h3 e hp, sign_mul h3 e hp, rest_unit hw, Int.mul_one]
theorem strip_sq {p n m k u u' : Int} {s s' : Nat} (hp : PrP p) (hk : k ≠ 0) (e : n = m * (k * k)) (h : Strip n p s u) (h' : Strip m p s' u') : ∃ w : Int, w % p ≠ 0 ∧ u = u' * (w * w) ∧ s % 2 = s' % 2 := by
  obtain ⟨c, w, hw⟩ := strip_exists hk hp.1
  refine ⟨w, hw.2, ?_⟩
  have hs : Strip n p (s' + 2 * c) (u' * (w * w)) := by
    constructor
    · rw [e, h'.1, hw.1, Int.pow_add, Nat.two_mul, Int.pow_add]
      grind
    · intro z
      have d := Int.dvd_of_emod_eq_zero z
      rcases prime_mul hp d with d | d
      · exact h'.2 (Int.emod_eq_zero_of_dvd d)
      · rcases prime_mul hp d with d | d <;> exact hw.2 (Int.emod_eq_zero_of_dvd d)
  obtain ⟨e1, e2⟩ := strip_unique hp h hs
  exact ⟨e2, by omega⟩
theorem hsign_bare {a b a' b' p r : Int} (hp : PrP p) (he : p = 2 ∨ ∃ q : Nat, p = q ∧ 3 ≤ q ∧ euler q = true) (ha : ∃ k, k ≠ 0 ∧ a = a' * (k * k)) (hb : ∃ k, k ≠ 0 ∧ b = b' * (k * k)) (a0 : a' ≠ 0) (b0 : b' ≠ 0) (h : HSign a b p r) : HSign a' b' p r := by
  have p2 := hp.1
  rcases h with ⟨h0, _⟩ | ⟨h0, s, t, u, v, h1, h2, h3⟩
  · omega
  · obtain ⟨s', u', g1⟩ := strip_exists a0 p2
    obtain ⟨t', v', g2⟩ := strip_exists b0 p2
    obtain ⟨k, k0, e⟩ := ha
    obtain ⟨j, j0, f⟩ := hb
    obtain ⟨w, w0, w1, w2⟩ := strip_sq hp k0 e h1 g1
    obtain ⟨x, x0, x1, x2⟩ := strip_sq hp j0 f h2 g2
    refine .inr ⟨h0, s', t', u', v', g1, g2, ?_⟩
    rw [h3]
    exact sgn_congr w2 x2 (by rw [w1]; exact alike_sq hp he w0) (by rw [x1]; exact alike_sq hp he x0)
theorem rest_mod {n p : Int} (h : p ≠ 2) : restSign (n % p) p = restSign n p := by
  unfold restSign
  rw [Int.emod_emod_of_dvd _ (Int.dvd_refl p), if_neg h, if_neg h, pow_mod]
end Sf

namespace Sf
open PySem PySem.Spec PyProof.Rows L2
/-- the ascending places where the sign is -1 -/
def PlacesOf (a b : Int) (l : List Int) : Prop := l.Pairwise (· < ·) ∧ ∀ p : Int, p ∈ l ↔ (p = 0 ∨ PrP p) ∧ HSign a b p (-1)
theorem asc_unique : ∀ {l m : List Int}, l.Pairwise (· < ·) → m.Pairwise (· < ·) → (∀ x, x ∈ l ↔ x ∈ m) → l = m
  | [], [], _, _, _ => rfl
  | [], y :: m, _, _, h => absurd ((h y).mpr List.mem_cons_self) (by simp)
  | x :: l, [], _, _, h => absurd ((h x).mp List.mem_cons_self) (by simp)
  | x :: l, y :: m, h1, h2, h => by
    obtain ⟨a1, a2⟩ := List.pairwise_cons.mp h1
    obtain ⟨b1, b2⟩ := List.pairwise_cons.mp h2
    have e : x = y := by
      have c1 := (h x).mp List.mem_cons_self
      have c2 := (h y).mpr List.mem_cons_self
      rcases List.mem_cons.mp c1 with c1 | c1
      · exact c1
      · rcases List.mem_cons.mp c2 with c2 | c2
        · exact c2.symm
        · have := a1 y c2
          have := b1 x c1
          omega
    subst e
    rw [asc_unique a2 b2 fun z => ?_]
    constructor
    · intro hz
      rcases List.mem_cons.mp ((h z).mp (List.mem_cons_of_mem _ hz)) with e | e
      · have := a1 z hz
        omega
      · exact e
    · intro hz
      rcases List.mem_cons.mp ((h z).mpr (List.mem_cons_of_mem _ hz)) with e | e
      · have := b1 z hz
        omega
      · exact e
theorem places_unique {a b : Int} {l m : List Int} (h : PlacesOf a b l) (h' : PlacesOf a b m) : l = m := asc_unique h.1 h'.1 fun x => (h.2 x).trans (h'.2 x).symm
/-- at an odd prime that divides neither number the sign is 1 -/
theorem sign_far {a b p r : Int} (hp : PrP p) (h2 : p ≠ 2) (ha : a % p ≠ 0) (hb : b % p ≠ 0) (h : HSign a b p r) : r = 1 := by
  rcases h with ⟨h0, _⟩ | ⟨_, s, t, u, v, g1, g2, g3⟩
  · have := hp.1
    omega
  · have e1 := strip_unique hp g1 ⟨by rw [Int.pow_zero, Int.one_mul], ha⟩
    have e2 := strip_unique hp g2 ⟨by rw [Int.pow_zero, Int.one_mul], hb⟩
    rw [g3, e1.1, e2.1]
    unfold sgnAt
    rw [if_neg h2]
    rfl
theorem hsign_some {a b p : Int} (ha : a ≠ 0) (hb : b ≠ 0) (hp : p = 0 ∨ PrP p) : ∃ r, HSign a b p r := by
  rcases hp with e | hp
  · exact ⟨_, .inl ⟨e, rfl⟩⟩
  · obtain ⟨s, u, h1⟩ := strip_exists ha hp.1
    obtain ⟨t, v, h2⟩ := strip_exists hb hp.1
    have := hp.1
    exact ⟨_, .inr ⟨by omega, s, t, u, v, h1, h2, rfl⟩⟩
theorem abs_mod {n p : Int} (h : absI n % p = 0) : n % p = 0 := by
  unfold absI at h
  split at h
  · have d := Int.dvd_of_emod_eq_zero h
    exact Int.emod_eq_zero_of_dvd ((Int.dvd_neg).mp d)
  · exact h
theorem mod_abs {n p : Int} (h : n % p = 0) : absI n % p = 0 := by
  unfold absI
  split
  · exact Int.emod_eq_zero_of_dvd ((Int.dvd_neg).mpr (Int.dvd_of_emod_eq_zero h))
  · exact h
/-- a prime divides a number exactly if it is one of its factors -/
theorem fact_keys {n p : Int} {l : List (Int × Nat)} (h : FactOf n l) (hp : PrP p) : p ∈ l.map (·.1) ↔ n % p = 0 := by
  constructor
  · intro hm
    obtain ⟨q, hq, e⟩ := List.mem_map.mp hm
    subst e
    obtain ⟨i, hi, e⟩ := List.mem_iff_getElem.mp hq
    obtain ⟨k, hk⟩ : ∃ k, q.2 = k + 1 := ⟨q.2 - 1, by have := (h.2.2 q hq).2; omega⟩
    have : ∀ (l : List (Int × Nat)), q ∈ l → q.1 ∣ prodF l := fun l hl => by
      induction l with
      | nil => cases hl
      | cons x l ih =>
        show q.1 ∣ x.1 ^ x.2 * prodF l
        rcases List.mem_cons.mp hl with e | e
        · subst e
          rw [hk, Int.pow_succ, Int.mul_assoc]
          exact Int.dvd_trans (Int.dvd_mul_right _ _) (Int.dvd_mul_left _ _)
        · exact Int.dvd_trans (ih e) (Int.dvd_mul_left _ _)
    have d := this l hq
    rw [h.1] at d
    exact Int.emod_eq_zero_of_dvd d
  · intro hm
    have d := Int.dvd_of_emod_eq_zero hm
    rw [← h.1] at d
    obtain ⟨e, he⟩ := prime_prodF hp h.2.2 d
    exact List.mem_map.mpr ⟨_, he, rfl⟩
/-- the places out of 0 and the divisors -/
theorem places_of {a b : Int} {la lb : List (Int × Nat)} {D : List Int} (ha : a ≠ 0) (hb : b ≠ 0) (fa : FactOf (absI a) la) (fb : FactOf (absI b) lb) (hD : D.Pairwise (· < ·)) (hm : ∀ k, k ∈ D ↔ k ∈ 2 :: (la.map (·.1) ++ lb.map (·.1)))
    : (∀ k ∈ 0 :: D, k = 0 ∨ PrP k) ∧ ∀ {l : List Int} (hl : l.Sublist (0 :: D)) (hs : ∀ k, k ∈ l ↔ k ∈ 0 :: D ∧ HSign a b k (-1)), PlacesOf a b l := by
  have hP : ∀ k ∈ 0 :: D, k = 0 ∨ PrP k := fun k hk => by
    rcases List.mem_cons.mp hk with e | e
    · exact .inl e
    · rcases List.mem_cons.mp ((hm k).mp e) with e | e
      · exact .inr (e ▸ prp_of_trial (d := 2) (by decide) (by decide) (fun k a b => by omega) (by decide))
      · rcases List.mem_append.mp e with e | e
        · obtain ⟨q, hq, e⟩ := List.mem_map.mp e
          exact .inr (e ▸ (fa.2.2 q hq).1)
        · obtain ⟨q, hq, e⟩ := List.mem_map.mp e
          exact .inr (e ▸ (fb.2.2 q hq).1)
  refine ⟨hP, fun {l} hl hs => ⟨?_, fun p => ?_⟩⟩
  · refine List.Pairwise.sublist hl (List.pairwise_cons.mpr ⟨fun k hk => ?_, hD⟩)
    rcases List.mem_cons.mp ((hm k).mp hk) with e | e
    · omega
    · rcases hP k (List.mem_cons_of_mem _ hk) with e2 | e2
      · rcases List.mem_append.mp e with e | e
        · obtain ⟨q, hq, e⟩ := List.mem_map.mp e
          have := (fa.2.2 q hq).1.1
          omega
        · obtain ⟨q, hq, e⟩ := List.mem_map.mp e
          have := (fb.2.2 q hq).1.1
          omega
      · have := e2.1
        omega
  · rw [hs]
    constructor
    · rintro ⟨h1, h2⟩
      exact ⟨hP p h1, h2⟩
    · rintro ⟨h1, h2⟩
      refine ⟨?_, h2⟩
      rcases h1 with e | hp
      · rw [e]
        exact List.mem_cons_self
      · by_cases c : p ∈ D
        · exact List.mem_cons_of_mem _ c
        · exfalso
          rw [hm, List.mem_cons, List.mem_append, fact_keys fa hp, fact_keys fb hp] at c
          have n2 : p ≠ 2 := fun z => c (.inl z)
          have := sign_far hp n2 (fun z => c (.inr (.inl (mod_abs z)))) (fun z => c (.inr (.inr (mod_abs z)))) h2
          exact absurd this (by decide)
end Sf

namespace Sf
open PySem PySem.Spec PyProof.Rows L2
section
variable {P : Program} {w : World} {A : Around} {E : Value → Shared → Prop} {s : Shared}
/-- a set that is just made -/
abbrev nso (w : World) : Obj := { cls := .type "set", dict := none, data := .set #[] 0 (.fresh 0 0 (!w.params.followText "set-order")) }
abbrev nsh (w : World) (s : Shared) : Heap := s.heap.push (nso w)
/-- the first half: the set's loop over a list of ints -/
theorem set_loop {l : Addr} {its : Array Value} (ns : List Int) (hh : A.handled = none) (hl : s.heap.IsList l its) (hi : IntsAre its.toList ns) (hb : ns.length + 1 < scanBound)
    {R : Result → Shared → Prop} (hR : ∀ (h' : Heap) (tk c : Nat), SetR w h' s.heap.objs.size (fun j => decide (j ∈ ns)) c → c ≤ ns.length → (∀ b o, s.heap.get? b = some o → h'.get? b = some o) → R (.ok (.ret .none)) { s with heap := h', toks := tk }) :
    codeAny (model P w) A (.builtin "set.update.loop" ⟨[.ref s.heap.objs.size, .ref (nsh w s).objs.size], []⟩) R { s with heap := (nsh w s).push { cls := .type "list_iterator", data := .fields #[.ref l, .int 0 0] } } := by
  have sz : its.size = ns.length := (Array.length_toList (xs := its)).symm.trans (IntsAre.length hi)
  obtain ⟨ol, ho, r⟩ := hl
  have lt : l < s.heap.objs.size := Heap.lt_size ho
  have e1 : (nsh w s).objs.size = s.heap.objs.size + 1 := Heap.size_push ..
  have n1 : l ≠ (nsh w s).objs.size := by rw [e1]; exact Nat.ne_of_lt (Nat.lt_succ_of_lt lt)
  have n2 : ¬ s.heap.objs.size ∈ [(nsh w s).objs.size, l] := by
    rw [e1]
    intro z
    rcases List.mem_cons.mp z with z | z
    · exact absurd z (Nat.ne_of_lt (Nat.lt_succ_self _))
    · exact absurd (List.mem_singleton.mp z) (Nat.ne_of_gt lt)
  have isl : (nsh w s).IsList l its := ⟨ol, Heap.get?_push_of_some _ ho, r⟩
  have hA : A.in1.handled = none := by simp [hh]
  refine set_update_ints ((Walks.list hA _ l n1 its).toS) s.heap.objs.size n2 ns sz hb (fun i v hv => ?_) (its.size - 0) 0 _ rfl (Nat.zero_le _) ⟨⟨_, Heap.get?_push_size _ rfl, rfl, rfl⟩, isl.push _⟩ ?_ fun t c hm hc hS => ?_
  · have hlt : i < ns.length := sz ▸ (Array.getElem?_eq_some_iff.mp hv).1
    obtain ⟨t, e⟩ := IntsAre.int_at hi i v (by rw [Array.getElem?_toList]; exact hv)
    exact ⟨ns[i], t, List.getElem?_eq_getElem hlt, by rw [e, List.getD_eq_getElem?_getD, List.getElem?_eq_getElem hlt] <;> rfl⟩
  · refine ⟨0, Nat.le_refl 0, setR_new_at ?_⟩
    exact Heap.get?_push_of_some _ (Heap.get?_push_size _ rfl)
  · obtain ⟨h', g', d', t', o'⟩ := t
    cases (show g' = s.gens from hm.gens)
    cases (show d' = s.drawn from hm.drawn)
    cases (show o' = s.os from hm.os)
    refine hR h' t' c hS (sz ▸ hc) fun b o e => ?_
    have hb0 : b < s.heap.objs.size := Heap.lt_size e
    refine hm.heap b o (fun z => ?_) (Heap.get?_push_of_some _ (Heap.get?_push_of_some _ e))
    rcases List.mem_cons.mp z with z | z
    · exact absurd z (Nat.ne_of_lt hb0)
    · exact absurd ((List.mem_singleton.mp z).trans e1) (Nat.ne_of_lt (Nat.lt_succ_of_lt hb0))
set_option maxHeartbeats 8000000 in
theorem set_init {l : Addr} {its : Array Value} (ns : List Int) (hh : A.handled = none) (hl : s.heap.IsList l its) (hi : IntsAre its.toList ns) (hb : ns.length + 1 < scanBound) :
    codeAny (model P w) A (.call (.builtin "set.__init__") ⟨[.ref s.heap.objs.size, .ref l], []⟩) (wants (fun r t => r = .none ∧ ∃ h' tk c, t = { s with heap := h', toks := tk } ∧ SetR w h' s.heap.objs.size (fun j => decide (j ∈ ns)) c ∧ c ≤ ns.length ∧
      (∀ b o, s.heap.get? b = some o → h'.get? b = some o)) E) { s with heap := nsh w s } := by
  have hS : (nsh w s).get? s.heap.objs.size = some (nso w) := Heap.get?_push_size _ rfl
  have hT : Shared.TypeIs { s with heap := nsh w s } (.ref s.heap.objs.size) "set" := ⟨_, hS, rfl⟩
  refine codeAny_call_builtin F.called_set.init.plain F.entry_set_init (check_set_init_1 hT ?_)
  obtain ⟨⟨oc, odct, odat, osl⟩, ho, hc, n0, hd⟩ := hl
  cases hc
  cases hd
  have ho' : (nsh w s).get? l = some { cls := .type "list", dict := odct, data := .seq its n0, slots := osl } := Heap.get?_push_of_some _ ho
  have isl : (nsh w s).IsList l its := ⟨_, ho', rfl, n0, rfl⟩
  have g1 := F.sub_list_set
  have g2 := F.sub_list_frozenset
  have g3 : (Value.type "list" == Value.type "dict") = false := by decide
  unfold Builtin.«set.__init__» noKeywords Builtin.Frozenset.updateFrom
  generalize hPI : pyIter = it
  wp_walk
  subst hPI
  refine wpAny_pyIter_list isl ?_
  refine wpAny_bind (wpAny_runValue (set_loop (A := A.in1) ns (by simp [hh]) ⟨_, ho, rfl, n0, rfl⟩ hi hb fun h' tk c a b k => ?_))
  exact wpAny_pure (wpAny_pure ⟨rfl, h', tk, c, rfl, a, b, k⟩)
end
end Sf
namespace Sf
open PySem PySem.Spec PyProof.Rows L2
section
variable {P : Program} {w : World} {A : Around} {E : Value → Shared → Prop} {s : Shared}
set_option maxHeartbeats 8000000 in
theorem set_call {l : Addr} {its : Array Value} (ns : List Int) {Q : Value → Shared → Prop} (hh : A.handled = none) (hl : s.heap.IsList l its) (hi : IntsAre its.toList ns) (hb : ns.length + 1 < scanBound)
    (h : ∀ (h' : Heap) (tk c : Nat), SetR w h' s.heap.objs.size (fun j => decide (j ∈ ns)) c → c ≤ ns.length → (∀ b o, s.heap.get? b = some o → h'.get? b = some o) → Q (.ref s.heap.objs.size) { s with heap := h', toks := tk }) :
    wpAny (model P w) A (call (.type "set") [.ref l]) Q E s := by
  obtain ⟨c, tl, g0⟩ := F.called_set.mro
  have g1 := F.called_set.made
  have g2 := F.called_set.sub
  have g3 := F.called_set.notType
  have g4 := F.called_set.canCreate
  have g5 := F.typeCall_set_1 (.ref l)
  have g6 := F.called_set.init.lookup
  refine wpAny_call (codeAny_of_tree ?_)
  show wpAny _ _ (callAny (.type "set") _) _ _ _
  refine wpAny_pure ⟨Code.quiet_builtin _ (by decide +kernel), codeAny_builtin F.entry_type_call ?_⟩
  rw [Around.under_plain (weight_type_call_type "set" [.ref l] []) rfl]
  repeat (any_goals (first | assumption | wp_step))
  refine codeAny_mono (code_set_led1 (.ref l) (E := E) (Q₁ := fun ob t => ob = .ref s.heap.objs.size ∧ t = { s with heap := nsh w s }) ⟨rfl, rfl⟩) fun r t hr => ?_
  cases r with
  | error e => exact hr
  | ok fl =>
    cases fl with
    | ret ob =>
      obtain ⟨rfl, rfl⟩ := hr
      have hT : Shared.TypeIs { s with heap := nsh w s } (.ref s.heap.objs.size) "set" := ⟨_, Heap.get?_push_size _ rfl, rfl⟩
      have g7 := F.called_set.init.bind (.ref s.heap.objs.size)
      repeat (any_goals (first | assumption | wp_step))
      refine codeAny_mono (set_init (E := E) ns (by simp [hh]) hl hi hb) fun r t hr => ?_
      cases r with
      | error e => exact hr
      | ok fl =>
        cases fl with
        | ret v =>
          obtain ⟨rfl, h', tk, c', rfl, a1, a2, a3⟩ := hr
          repeat (any_goals (first | assumption | wp_step))
          exact h _ _ _ a1 a2 a3
        | _ => exact hr.elim
    | _ => exact hr.elim
end
section
variable {X : Cx} {e : Expr} {es : List Expr} {te : TE} {t : TA} {p : Pos}
/-- set(xs), xs a list of ints -/
def rSetL (K : PySem.W.Frag) (w : World) : List V → Hp → VK → Prop := fun xs H Q => ∃ (a : Addr) (ns : List Int), xs = [.ref a] ∧ SqL K H a (ns.map V.int) ∧ ns.length ≤ 1000 ∧ ∀ (q : Addr) (n : Nat), n ≤ ns.length → H q = none → Q (.ref q) (upd H q (SetO w q (fun j => decide (j ∈ ns)) n))
theorem cr_setL (hc : X.calm = true) : CallR X (.type "set") (rSetL X.K X.w) := by
  intro pins s σ H xs us Q I r h
  obtain ⟨a, ns, rfl, hs, hz, q⟩ := h
  obtain ⟨its, rv, pl, _⟩ := I.list hs
  rw [Vals.ref1 r]
  refine set_call ns (I.ok.hd hc) pl.isList (by simpa using rv.ints) (by unfold scanBound; omega) fun h' tk c R hcn k => ?_
  exact ⟨.ref _, upd H s.heap.objs.size (SetO X.w s.heap.objs.size (fun j => decide (j ∈ ns)) c), I.laid (t' := tk) k (Nat.le_refl _) (setO_new R), rfl, q _ c hcn (I.hok.fresh (Nat.le_refl _))⟩
/-- *d in a display, d a dict -/
theorem star_dict {pins : List (Addr × Obj)} {σ : L2.St} {H : Hp} {s : Shared} {a : Addr} {kvs : List (Key × V)} {E : Value → Shared → Prop} {Q : List Value → Shared → Prop} (hc : X.calm = true) (I : Inv X pins σ H s) (h : Rd H a (.dK kvs))
    (hQ : ∀ us s', Inv X pins σ H s' → Vals (kvs.map fun kv => kV kv.1) us → Q us s') : PySem.W.StarOf (model X.prog X.w) X.A E (.ref a) Q s := by
  obtain ⟨z, lo, vs, rel, dd⟩ := dk_rd I.hok h
  obtain ⟨ep, hat⟩ := dd.dictAt
  have ek : (kvs.map fun kv => kV kv.1) = vs.map fun p => kV p.1 := by
    have e := congrArg (List.map kV) rel.keys
    rw [List.map_map, List.map_map] at e
    exact e
  have z : wpAny (model X.prog X.w) X.A (collect (.ref a)) Q E s := by
    refine PySem.W.kdu_collect (A := X.A) (PySem.W.kdl_dict (knd := mixKind X.prog X.w) (kvs := vs) (ep := ep) lo) (I.ok.hd hc) hat (by rw [← rel.length]; exact z) fun h' tk acc hk hacc => ?_
    refine hQ _ _ (I.kept (t' := tk) hk) ?_
    rw [ek]
    exact keys_at (by rw [Array.length_toList]; exact hacc.1) fun j v e => hacc.2 j v (by rw [← Array.getElem?_toList]; exact e)
  unfold PySem.W.StarOf notIterableAtAll
  exact wpAny_bind (wpAny_specialOf dd.typeIs PySem.F.slot_dict_iter.lookup (wpAny_pure ⟨rfl, z⟩))
def tStarD (te : TE) (t : TA) : TA := fun σ H Q => te σ H fun x H1 => ∃ p kvs, x = V.ref p ∧ Rd H1 p (.dK kvs) ∧ t σ H1 fun ys H2 => Q ((kvs.map fun kv => kV kv.1) ++ ys) H2
theorem pa_starD (hc : X.calm = true) (he : PE X e te) (hr : PA X es t) (hs : starEach (.Starred e p :: es) X.env = (true, eval e X.env) :: starEach es X.env := by rfl) : PA X (.Starred e p :: es) (tStarD te t) :=
  ⟨fun pos pins s σ H Q I h => PySem.W.items_star (thn (he.run pins s σ H _ I h) fun v s1 ⟨y, H1, I1, ry, a, kvs, ey, hx, q⟩ => by
    subst ey
    cases (show v = Value.ref a from ry)
    exact star_dict hc I1 hx fun us s2 I2 rv => thn (hr.run pos pins s2 σ H1 _ I2 q) fun ws s3 ⟨vs, H3, I3, r3, q3⟩ => ⟨_, H3, I3, rv.append r3, q3⟩) hs⟩
end
end Sf

namespace Sf
open PySem PySem.Spec PyProof.Rows L2
section
variable {P : Program} {w : World} {K : PySem.W.Frag} {mg : Str → Option Value} {base : Heap} {f : Addr} {fd : FuncData}
theorem keys_ints (l : List (Int × Nat)) : ((kvsF l).map fun kv => kV kv.1) = (l.map (·.1)).map V.int := by
  unfold kvsF
  rw [List.map_map, List.map_map]
  rfl
structure PlacesP (vs : List V) (H : Hp) (Q : VK) : Prop where
  ex : ∃ a b : Int, vs = [.int a, .int b] ∧ a ≠ 0 ∧ b ≠ 0 ∧ a.natAbs ≤ 1000000000 ∧ b.natAbs ≤ 1000000000 ∧ ∀ (l : List Int) (p : Addr) (H' : Hp), PlacesOf a b l → l.length ≤ 62 → Same H H' → H p = none → H' p = some (.tup (l.map V.int)) → Q (.ref p) H'
def spPlaces : Sp := fun vs H Q _ => PlacesP vs H Q
theorem ok_signed_places (F : FnD K "signed_places" "signed_places" s_P_signed_places f fd) (T : Glob mg) (C_P_check_number : Cal P w K mg base 2 "check_number" ["value"] spCheckNumber) (C_P_factors : Cal P w K mg base 3 "factors" ["number"] spFactors) (C_P_sign : Cal P w K mg base 4 "sign" ["a", "b", "place"] spSign) :
    FnOk P w K mg base CX0 5 f fd ["a", "b"] spPlaces := by
  refine F.ok sc_P_signed_places (fun vs H Q E h => ?_) (fun cdv A outer s H vs Q E hr h => ?_)
  · obtain ⟨a, b, rfl, _⟩ := h.ex; rfl
  · obtain ⟨a, b, rfl, a0, b0, a1, b1, q⟩ := h.ex
    have hu := hu_of hr
    refine ⟨_, PSs.nox (pss_cons (ps_expr (pe_cal C_P_check_number (hr.mono (by decide)) (pa_cons (pv 0) pa_nil)))
      (pss_cons (ps_expr (pe_cal C_P_check_number (hr.mono (by decide)) (pa_cons (pv 1) pa_nil)))
      (pss_cons (ps_set (i := 2) sc_P_signed_places.nd rfl (Or.inl rfl) (pe_callB (cr_sortedSet rfl) (by rfl) T.m_sorted (by decide +kernel) (pa_cons (pe_callTy (cr_setL rfl) (by rfl) T.m_set (by decide +kernel) (pa_cons (pe_lst (pa_cons pe_int (pa_starD rfl (pe_cal C_P_factors (hr.mono (by decide)) (pa_cons (pv 0) pa_nil)) (pa_starD rfl (pe_cal C_P_factors (hr.mono (by decide)) (pa_cons (pv 1) pa_nil)) pa_nil)))) pa_nil)) pa_nil)))
      (pss_one (ps_ret (pe_callTy call_tuple_of (by rfl) T.m_tuple (by decide +kernel) (pa_cons (pe_lc rfl sc_P_signed_places.nd (own := [("place", 3)]) (pi_list (pe_lst (pa_cons pe_int (StX.pa_star (pv 2) pa_nil)))) (blkOk_by (N := ["a", "b", "divisors", "place"]) (sc := defScope s_P_signed_places) (by decide +kernel)) (fun _ _ _ _ _ => pg_name (i := 3) sc_P_signed_places.nd rfl (Or.inl rfl)) (fun _ _ _ _ _ => pts_one (pt_cmp (pc_eqI (pe_cal C_P_sign (hr.mono (by decide)) (pa_cons (pv 0) (pa_cons (pv 1) (pa_cons (pv 3) pa_nil)))) (pe_un un_neg pe_int)))) (fun _ _ _ _ _ => (pv 3))) pa_nil))))))), ?_⟩
    refine ⟨_, rfl, a, rfl, a0, by omega, by omega, _, rfl, b, rfl, b0, by omega, by omega, ?_⟩
    refine ⟨_, rfl, a, rfl, a0, by omega, by omega, fun la da H1 fa e1 na hda => ⟨da, kvsF la, rfl, .inl hda, ?_⟩⟩
    refine ⟨_, rfl, b, rfl, b0, by omega, by omega, fun lb db H2 fb e2 nb hdb => ⟨db, kvsF lb, rfl, .inl hdb, ?_⟩⟩
    have A2 : absI a ≤ 1000000000 := by unfold absI; split <;> omega
    have B2 : absI b ≤ 1000000000 := by unfold absI; split <;> omega
    have hla := fact_len fa A2
    have hlb := fact_len fb B2
    generalize hns : (2 : Int) :: (la.map (·.1) ++ lb.map (·.1)) = ns
    have hlen : ns.length ≤ 61 := by
      rw [← hns, List.length_cons, List.length_append, List.length_map, List.length_map]
      omega
    have hitems : V.int 2 :: ((kvsF la).map (fun kv => kV kv.1) ++ ((kvsF lb).map (fun kv => kV kv.1) ++ [])) = ns.map V.int := by
      rw [← hns, keys_ints, keys_ints, List.append_nil, List.map_cons, List.map_append]
    refine ⟨?_, fun x hx => ?_⟩
    · show (V.int 2 :: ((kvsF la).map (fun kv => kV kv.1) ++ ((kvsF lb).map (fun kv => kV kv.1) ++ []))).length ≤ sizeLine
      rw [hitems, List.length_map]
      exact Nat.le_trans hlen (by decide)
    refine ⟨x, ns, rfl, SqL.of ?_, by omega, fun y n hn hy => ?_⟩
    · rw [upd_same, ← hitems]
    refine ⟨y, _, n, rfl, upd_same, by omega, fun D z hD hm hDl hz => ?_⟩
    have hP0 := places_of (D := D) a0 b0 fa fb hD (fun k => (hm k).trans (by rw [← hns]; exact decide_eq_true_iff))
    have eH : Same H (upd (upd (upd H2 x (.lst (V.int 2 :: ((kvsF la).map (fun kv => kV kv.1) ++ ((kvsF lb).map (fun kv => kV kv.1) ++ []))))) y (SetO w y (fun j => decide (j ∈ ns)) n)) z (.lst (D.map V.int))) :=
      (((e1.trans e2).trans (same_upd hx)).trans (same_upd hy)).trans (same_upd hz)
    refine ⟨_, rfl, z, _, rfl, .inr (SqL.of upd_same), ?_, fun c hc => ?_⟩
    · refine Nat.le_trans (?_ : _ ≤ 70) (by decide)
      show (V.int 0 :: (D.map V.int ++ [])).length ≤ 70
      rw [List.append_nil, List.length_cons, List.length_map]
      omega
    have eL : V.int 0 :: (D.map V.int ++ []) = (0 :: D).map V.int := by rw [List.append_nil]; rfl
    rw [eL]
    have eH2 := eH.trans (same_upd (o := .lst ((0 :: D).map V.int)) hc)
    refine ⟨c, rfl, ⟨_, SqL.of upd_same⟩, fun d hd => ?_⟩
    have hdH : H d = none := eH2.free hd
    have ncd : c ≠ d := fun z => by
      rw [← z, upd_same] at hd
      cases hd
    refine lc_list (K := K) (a := c) (xs := (0 :: D).map V.int) (fun i H' => Same H H' ∧ SqL K H' c ((0 :: D).map V.int) ∧ ∃ m : List Int, H' d = some (.lst (m.map V.int)) ∧ m.Sublist ((0 :: D).take i) ∧ ∀ k, k ∈ m ↔ k ∈ (0 :: D).take i ∧ HSign a b k (-1)) ⟨eH2.trans (same_upd hd), sq_upd (SqL.of upd_same) ncd, [], upd_same, List.Sublist.refl _, fun k => ⟨fun z => (by cases z), fun z => absurd z.1 (by simp)⟩⟩ (fun i H' _ hp => hp.2.1) (fun i v H' hv hp => ?_) (fun H' hp => ?_)
    · obtain ⟨e5, hL, m, hmd, msub, hmm⟩ := hp
      obtain ⟨k, hk, rfl⟩ : ∃ k, (0 :: D)[i]? = some k ∧ v = V.int k := by
        rw [List.getElem?_map] at hv
        cases e : (0 :: D)[i]? with
        | none => rw [e] at hv; cases hv
        | some z => rw [e] at hv; exact ⟨z, rfl, (Option.some.inj hv).symm⟩
      have kP := hP0.1 k (List.mem_of_getElem? hk)
      have kB : k ≤ 1000000000 := by
        rcases List.mem_cons.mp (List.mem_of_getElem? hk) with e | e
        · omega
        · have e := (hm k).mp e
          rw [decide_eq_true_iff, ← hns] at e
          rcases List.mem_cons.mp e with e | e
          · omega
          · rcases List.mem_append.mp e with e | e
            · obtain ⟨r, hr, rfl⟩ := List.mem_map.mp e
              have := prodF_mem fa.2.2 r hr
              rw [fa.1] at this
              omega
            · obtain ⟨r, hr, rfl⟩ := List.mem_map.mp e
              have := prodF_mem fb.2.2 r hr
              rw [fb.1] at this
              omega
      have et : (0 :: D).take (i + 1) = (0 :: D).take i ++ [k] := by rw [List.take_add_one, hk]; rfl
      refine ⟨rfl, ⟨_, rfl, _, rfl, _, rfl, ⟨a, b, k, rfl, a0, b0, a1, b1, kP.imp id fun z => ⟨z, kB⟩, fun r H6 hr e6 => ?_⟩⟩⟩
      refine ⟨1, rfl, _, _, rfl, rfl, _, rfl, ifd (fun h => ?_) (fun h => ?_)⟩
      · have h : r = -1 := h
        subst h
        refine ⟨_, rfl, m.map V.int, e6 _ _ hmd, ?_, ?_, sq_upd (e6.seq hL) ncd, m ++ [k], ?_, ?_, fun j => ?_⟩
        · rw [List.length_map]
          have := msub.length_le
          rw [List.length_take, List.length_cons] at this
          exact Nat.lt_of_le_of_lt (by omega : m.length ≤ 70) (by decide)
        · intro b' o e
          rw [upd_ne (ne_of_none e hdH)]
          exact e6 _ _ (e5 _ _ e)
        · rw [upd_same, List.map_append]; rfl
        · rw [et]
          exact msub.append (List.Sublist.refl _)
        · rw [et, List.mem_append, List.mem_append, hmm, List.mem_singleton]
          constructor
          · rintro (h | h)
            · exact ⟨.inl h.1, h.2⟩
            · exact ⟨.inr h, h ▸ hr⟩
          · rintro ⟨h | h, h2⟩
            · exact .inl ⟨h, h2⟩
            · exact .inr h
      · refine ⟨e5.trans e6, e6.seq hL, m, e6 _ _ hmd, ?_, fun j => ?_⟩
        · rw [et]
          exact msub.trans (List.sublist_append_left _ _)
        · rw [et, List.mem_append, hmm, List.mem_singleton]
          constructor
          · rintro h
            exact ⟨.inl h.1, h.2⟩
          · rintro ⟨h1 | h1, h2⟩
            · exact ⟨h1, h2⟩
            · subst h1
              exact absurd (hsign_unique kP hr h2) h
    · obtain ⟨e5, hL, m, hmd, msub, hmm⟩ := hp
      rw [List.length_map, List.take_length] at msub hmm
      refine ⟨d, m.map V.int, rfl, .inl ⟨SqL.of hmd, fun t ht => ?_⟩⟩
      have hl := hP0.2 msub hmm
      have ml := msub.length_le
      rw [List.length_cons] at ml
      exact q m t _ hl (by omega) (e5.trans (same_upd ht)) (e5.free ht) upd_same
end
end Sf

namespace Sf
open PySem PySem.Spec PyProof.Rows L2
section
variable {X : Cx} {CX : CXT} {n : Nat} {f C : Addr} {fd : FuncData} {ps : List Str} {sp : Sp} {E : XK} {op : Operator}
/-- no value of ours stands for "not implemented" -/
theorem cmpBack {v : V} {u : Value} {s : Shared} {Q : Value → Shared → Prop} (r : RelV v u) (q : Q u s) : PySem.W.CmpBack Q u s := by
  cases v with
  | non => cases (show u = Value.none from r); exact q
  | bl b => cases (show u = Value.bool b from r); exact q
  | int i => obtain ⟨t, rfl⟩ := (show ∃ t, u = Value.int i t from r); exact q
  | str x => obtain ⟨t, rfl⟩ := (show ∃ t, u = Value.str x t from r); exact q
  | byt b => obtain ⟨t, rfl⟩ := (show ∃ t, u = Value.bytes b t from r); exact q
  | flt b => obtain ⟨t, rfl⟩ := (show ∃ t, u = Value.float b t from r); exact q
  | ref a => cases (show u = Value.ref a from r); exact q
  | ty t => cases (show u = Value.type t from r); exact q
/-- an instance of the class at C -/
def Ins (H : Hp) (a C : Addr) : Prop := ∃ dx fs, H a = some (.ins C dx fs)
theorem ins_inst {pins : List (Addr × Obj)} {σ : L2.St} {H : Hp} {s : Shared} {a : Addr} (I : Inv X pins σ H s) (h : Ins H a C) : ∃ (ox : Obj) (od : Obj), PySem.W.InstAt s.heap a ox C (some od) := by
  obtain ⟨dx, fs, ea⟩ := h
  obtain ⟨mA, O, _⟩ := ins_get I.hok ea
  obtain ⟨od, J, _⟩ := O.look
  exact ⟨_, od, J⟩
/-- x op y, both of one own class that says what op is -/
def rOwn (C : Addr) (sp : Sp) (E : XK) : R2 := fun x y H Q => ∃ a b, x = .ref a ∧ y = .ref b ∧ Ins H a C ∧ Ins H b C ∧ sp [.ref a, .ref b] H Q E
theorem op_own (M : Meth X.K C (PySem.dunder op.info.2) f) (F : FnOk X.prog X.w X.K X.mg X.base CX n f fd ps sp) (hr : Room n X.A) (hb : Binds X.K fd ps []) (hx : Passes CX X E) (hc : PySem.W.selfFirst X.K C = true) : OpR X (binaryOp op) (rOwn C sp E) := by
  intro pins s σ H x y v u Q I rx ry h
  obtain ⟨a, b, rfl, rfl, ha, hb', q⟩ := h
  cases (show v = Value.ref a from rx)
  cases (show u = Value.ref b from ry)
  obtain ⟨ox, od, J⟩ := ins_inst I ha
  obtain ⟨oy, oe, J'⟩ := ins_inst I hb'
  obtain ⟨m, hF⟩ := I.fr
  refine PySem.W.binop_K hF I.ok.mod.kin J J'.type hc M.at_ M.fn (wpAny_mono (run_fn (us := [.ref a, .ref b]) (vs := [.ref a, .ref b]) F hr hb .nil hx I (.cons rfl (.cons rfl .nil)) q) (fun w s' h => ?_) fun _ _ z => z)
  obtain ⟨z, H', I', rz, qz⟩ := id h
  exact cmpBack rz h
/-- x op n, n an int -/
def rOwnI (C : Addr) (sp : Sp) (E : XK) : R2 := fun x y H Q => ∃ a i, x = .ref a ∧ y = .int i ∧ Ins H a C ∧ sp [.ref a, .int i] H Q E
theorem op_ownI {fo ro : Option Value} (M : Meth X.K C (PySem.dunder op.info.2) f) (F : FnOk X.prog X.w X.K X.mg X.base CX n f fd ps sp) (hr : Room n X.A) (hb : Binds X.K fd ps []) (hx : Passes CX X E) (hc : PySem.W.selfFirst X.K C = true)
    (nr : NoAttr X.K C (dunderR op.info.2)) (hsub : PySem.W.subIn X.K (.type "int") (.ref C) = some false) (h1 : PySem.W.findIn X.K (.type "int") (PySem.dunder op.info.2) = some fo) (h2 : PySem.W.findIn X.K (.type "int") (dunderR op.info.2) = some ro) :
    OpR X (binaryOp op) (rOwnI C sp E) := by
  intro pins s σ H x y v u Q I rx ry h
  obtain ⟨a, i, rfl, rfl, ha, q⟩ := h
  cases (show v = Value.ref a from rx)
  obtain ⟨t, rfl⟩ := (show ∃ t, u = Value.int i t from ry)
  obtain ⟨ox, od, J⟩ := ins_inst I ha
  obtain ⟨m, hF⟩ := I.fr
  refine PySem.W.ksp_binT (T := "int") hF I.ok.mod.kin J rfl hc M.at_ M.fn nr (.inl rfl) h1 h2 hsub (wpAny_mono (run_fn (us := [.ref a, .int i t]) (vs := [.ref a, .int i]) F hr hb .nil hx I (.cons rfl (.cons ⟨t, rfl⟩ .nil)) q) (fun w s' h => ?_) fun _ _ z => z)
  obtain ⟨z, H', I', rz, qz⟩ := id h
  exact cmpBack rz h
/-- -x -/
def rOwn1 (C : Addr) (sp : Sp) (E : XK) : V → Hp → VK → Prop := fun x H Q => ∃ a, x = .ref a ∧ Ins H a C ∧ sp [.ref a] H Q E
theorem un_own (M : Meth X.K C "__neg__" f) (F : FnOk X.prog X.w X.K X.mg X.base CX n f fd ps sp) (hr : Room n X.A) (hb : Binds X.K fd ps []) (hx : Passes CX X E) : UnR X (unaryOp .USub) (rOwn1 C sp E) := by
  intro pins s σ H x v Q I rx h
  obtain ⟨a, rfl, ha, q⟩ := h
  cases (show v = Value.ref a from rx)
  obtain ⟨ox, od, J⟩ := ins_inst I ha
  obtain ⟨m, hF⟩ := I.fr
  exact PySem.W.ksp_neg hF I.ok.mod.kin J M.at_ M.fn (run_fn (us := [.ref a]) (vs := [.ref a]) F hr hb .nil hx I (.cons rfl .nil) q)
/-- the truth of an own object -/
theorem tru_own (M : Meth X.K C "__bool__" f) (F : FnOk X.prog X.w X.K X.mg X.base CX n f fd ps sp) (hr : Room n X.A) (hb : Binds X.K fd ps []) (hx : Passes CX X E) :
    TruR X (fun x H Q => ∃ a, x = .ref a ∧ Ins H a C ∧ sp [.ref a] H (fun v H' => ∃ k, v = .bl k ∧ Q k H') E) := by
  intro pins s σ H x v Q I rx h
  obtain ⟨a, rfl, ha, q⟩ := h
  cases (show v = Value.ref a from rx)
  obtain ⟨ox, od, J⟩ := ins_inst I ha
  obtain ⟨m, hF⟩ := I.fr
  refine PySem.W.truthy_K hF I.ok.mod.kin J M.at_ M.fn (wpAny_mono (run_fn (us := [.ref a]) (vs := [.ref a]) F hr hb .nil hx I (.cons rfl .nil) q) (fun w s' h => ?_) fun _ _ z => z)
  obtain ⟨z, H', I', rz, k, rfl, qz⟩ := h
  cases (show w = Value.bool k from rz)
  exact ⟨H', I', qz⟩
/-- x == y by an own __eq__, y of the same class -/
theorem eq_own (M : Meth X.K C "__eq__" f) (F : FnOk X.prog X.w X.K X.mg X.base CX n f fd ps sp) (hr : Room n X.A) (hb : Binds X.K fd ps []) (hx : Passes CX X E) : OpR X (compareOp .Eq) (rOwn C sp E) := by
  intro pins s σ H x y v u Q I rx ry h
  obtain ⟨a, b, rfl, rfl, ha, hb', q⟩ := h
  cases (show v = Value.ref a from rx)
  cases (show u = Value.ref b from ry)
  obtain ⟨ox, od, J⟩ := ins_inst I ha
  obtain ⟨oy, oe, J'⟩ := ins_inst I hb'
  obtain ⟨m, hF⟩ := I.fr
  show wpAny (model X.prog X.w) X.A (richCompare .Eq _ _) (EP X pins σ Q) X.xe s
  refine PySem.W.cmp_K (op := .Eq) (tb := .ref C) hr.units0 hF I.ok.mod.kin J J'.type (by simp [PySem.W.notFirst]) M.at_ M.fn (wpAny_mono (run_fn (us := [.ref a, .ref b]) (vs := [.ref a, .ref b]) F hr hb .nil hx I (.cons rfl (.cons rfl .nil)) q) (fun w s' h => ?_) fun _ _ z => z)
  obtain ⟨z, H', I', rz, qz⟩ := id h
  exact cmpBack rz h
/-- x == n by an own __eq__, n an int -/
theorem eq_ownI (M : Meth X.K C "__eq__" f) (F : FnOk X.prog X.w X.K X.mg X.base CX n f fd ps sp) (hr : Room n X.A) (hb : Binds X.K fd ps []) (hx : Passes CX X E) (hsub : PySem.W.subIn X.K (.type "int") (.ref C) = some false) : OpR X (compareOp .Eq) (rOwnI C sp E) := by
  intro pins s σ H x y v u Q I rx ry h
  obtain ⟨a, i, rfl, rfl, ha, q⟩ := h
  cases (show v = Value.ref a from rx)
  obtain ⟨t, rfl⟩ := (show ∃ t, u = Value.int i t from ry)
  obtain ⟨ox, od, J⟩ := ins_inst I ha
  obtain ⟨m, hF⟩ := I.fr
  show wpAny (model X.prog X.w) X.A (richCompare .Eq _ _) (EP X pins σ Q) X.xe s
  refine PySem.W.cmp_K (op := .Eq) (tb := .type "int") hr.units0 hF I.ok.mod.kin J (PySem.W.Looks.of_pure rfl) (by unfold PySem.W.notFirst; rw [hsub]; simp) M.at_ M.fn (wpAny_mono (run_fn (us := [.ref a, .int i t]) (vs := [.ref a, .int i]) F hr hb .nil hx I (.cons rfl (.cons ⟨t, rfl⟩ .nil)) q) (fun w s' h => ?_) fun _ _ z => z)
  obtain ⟨z, H', I', rz, qz⟩ := id h
  exact cmpBack rz h
/-- a def called somewhere below the running body -/
theorem run_sub {A : Around} {pins : List (Addr × Obj)} {σ : L2.St} {H : Hp} {s : Shared} {Q : VK} {us : List Value} {vs : List V} (F : FnOk X.prog X.w X.K X.mg X.base CX n f fd ps sp) (sb : Sub X n A) (hb : Binds X.K fd ps []) (hx : Passes CX X E)
    (I : Inv X pins σ H s) (r : Vals vs us) (h : sp vs H Q E) : wpAny (model X.prog X.w) A (call (.ref f) us) (EP X pins σ Q) X.xe s := by
  have e0 : Env0 X.prog X.w X.K X.mg X.base A X.stack s H := by
    have e := I.env0
    exact ⟨by rw [sb.fr]; exact e.frames, e.mod, e.bs, e.bsz, e.funs, e.frf, e.hok, e.bare⟩
  have hl : us.length = ps.length := by rw [← r.length]; exact F.len _ _ _ _ h
  refine wpAny_call (codeAny_mono (F.run A X.stack s H ⟨us, []⟩ us vs Q E sb.room e0 (by
    have := hb s us I.kIn (by rw [List.append_nil]; exact hl)
    rw [List.append_nil] at this
    exact this) r h) fun r s' hq => ?_)
  cases r with
  | error e => exact hx pins σ H s e s' I hq
  | ok fl =>
    cases fl with
    | ret u => exact I.after hq
    | next => exact False.elim hq
    | brk => exact False.elim hq
    | cont => exact False.elim hq
section
variable {K : PySem.W.Frag} {s : Shared} {x : Addr} {ox : Obj} {od : Option Obj} {name : Str} {id : String} {A : Around} {Ee : Value → Shared → Prop}
theorem ifBound_B {M : Model} {args : List Value} {Q : Option Value → Shared → Prop} (Y : K.In s.heap) (I : PySem.W.InstAt s.heap x ox C od) (hs : PySem.W.findIn K (.ref C) name = some (some (.builtin id)))
    (hb : ∀ self, bindSpecial (.builtin id) self = pure (.builtin id, [self])) (h : wpAny M A (call (.builtin id) (.ref x :: args)) (fun v => Q (some v)) Ee s) : wpAny M A (callSpecialIfBound? (.ref x) name args) Q Ee s := by
  simp only [callSpecialIfBound?, bindSpecialIfBound?]
  refine wpAny_holding (wpAny_bind (wpAny_bind (wpAny_bind (I.type.here ((PySem.W.looks_findIn Y hs).here ?_)))))
  have z : wpAny M A (call (.builtin id) ([.ref x] ++ args) >>= fun v => pure (some v)) Q Ee s := wpAny_bind (wpAny_mono h (fun _ _ w => wpAny_pure w) fun _ _ w => w)
  refine wpAny_bind (wpAny_askSetting (wpAny_ite ?_))
  split
  · exact wpAny_bind ((PySem.W.Looks.of_pure (hb _)).here (wpAny_pure (by exact z)))
  · exact wpAny_tryCatch (wpAny_bind ((PySem.W.Looks.of_pure (hb _)).here (wpAny_pure (by exact z))))
end
/-- x != y: object.__ne__ asks the own __eq__ -/
theorem ne_own_core {a : Addr} {b : V} {bu tb : Value} {pins : List (Addr × Obj)} {σ : L2.St} {H : Hp} {s : Shared} {Q : VK} (M : Meth X.K C "__eq__" f) (F : FnOk X.prog X.w X.K X.mg X.base CX n f fd ps sp) (hr : Room (n + 1) X.A) (hb : Binds X.K fd ps []) (hx : Passes CX X E)
    (hn : PySem.W.findIn X.K (.ref C) "__ne__" = some (some (.builtin "object.__ne__"))) (hm : PySem.W.mroIn X.K C (.type "object") = some true) (I : Inv X pins σ H s) (ha : Ins H a C) (rb : RelV b bu)
    (hT : PySem.W.Looks (model X.prog X.w) s.heap (typeOf bu) tb) (hF : PySem.W.notFirst X.K C tb = true)
    (q : sp [.ref a, b] H (fun v H' => ∃ k, v = .bl k ∧ Q (.bl (!k)) H') E) : wpAny (model X.prog X.w) X.A (richCompare .NotEq (.ref a) bu) (EP X pins σ Q) X.xe s := by
  obtain ⟨ox, od, J⟩ := ins_inst I ha
  have Y := I.kIn
  have one : wpAny (model X.prog X.w) X.A (tryCompare (.ref a) "__ne__" bu) (fun r s' => ∃ k : Bool, r = some (Value.bool k) ∧ EP X pins σ Q (.bool k) s') X.xe s := by
    unfold tryCompare
    refine wpAny_bind (ifBound_B Y J hn PySem.F.cmp_object.ne.bind ?_)
    refine wpAny_call (codeAny_call_builtin PySem.F.cmp_object.ne.plain PySem.F.cmpEntry_ne (PySem.W.check_slot (i := "object.__ne__") (owner := "object") (n := "__ne__") PySem.F.cmpKind_ne PySem.F.cmpSplit_ne (J.type.andThen (PySem.W.looks_mroIn Y hm)) (PySem.F.cmpArgs_ne _ _) ?_))
    unfold Builtin.«object.__ne__»
    refine wpAny_bind (m := slotArgs "__ne__" 1 _) (wpAny_pure ?_)
    refine wpAny_bind (m := cRoomFor _ _) (wpAny_cRoomFor hr.in1.units0 ?_)
    refine wpAny_bind (m := callSpecialIfBound? (.ref a) (Str.ofString "__eq__") _) (PySem.W.ifBound_K Y J M.at_ M.fn (wpAny_mono (run_sub (us := [.ref a, bu]) (vs := [.ref a, b]) F (Sub.in1 ⟨hr, rfl⟩) hb hx I (.cons rfl (.cons rb .nil)) q) (fun w s' h => ?_) fun _ _ z => z))
    obtain ⟨z, H', I', rz, k, rfl, qz⟩ := h
    cases (show w = Value.bool k from rz)
    refine wpAny_bind (m := truthy (.bool _)) (wpAny_truthy_bool ?_)
    refine wpAny_pure ?_
    exact wpAny_pure ⟨!k, rfl, .bl (!k), H', I', rfl, qz⟩
  unfold richCompare
  simp only [oneThing_ref]
  refine wpAny_holding (wpAny_bind (wpAny_cRoomFor hr.units0 ?_))
  refine wpAny_bind (J.type.here (wpAny_bind (hT.here ?_)))
  have fin : ∀ (r : Option Value) (s' : Shared), (∃ k : Bool, r = some (Value.bool k) ∧ EP X pins σ Q (.bool k) s') → ∃ v, r = some v ∧ EP X pins σ Q v s' := fun r s' ⟨k, e, h⟩ => ⟨_, e, h⟩
  split
  · rename_i c
    have e : PySem.W.subIn X.K tb (.ref C) = some false := by
      rcases Bool.or_eq_true_iff.mp hF with e | e
      · rw [beq_iff_eq.mp e] at c; simp at c
      · exact beq_iff_eq.mp e
    refine wpAny_bind ((PySem.W.looks_subIn Y e).here ?_)
    simp only [Bool.false_eq_true, if_false]
    refine wpAny_bind (wpAny_mono one (fun r s' z => ?_) fun _ _ e => e)
    obtain ⟨v, rfl, hq⟩ := fin r s' z
    exact wpAny_pure hq
  · refine wpAny_bind (wpAny_pure ?_)
    simp only [Bool.false_eq_true, if_false]
    refine wpAny_bind (wpAny_mono one (fun r s' z => ?_) fun _ _ e => e)
    obtain ⟨v, rfl, hq⟩ := fin r s' z
    exact wpAny_pure hq
/-- x != y, both of one own class -/
def rOwnNe (C : Addr) (sp : Sp) (E : XK) : R2 := fun x y H Q => ∃ a b, x = .ref a ∧ y = .ref b ∧ Ins H a C ∧ Ins H b C ∧ sp [.ref a, .ref b] H (fun v H' => ∃ k, v = .bl k ∧ Q (.bl (!k)) H') E
theorem ne_own (M : Meth X.K C "__eq__" f) (F : FnOk X.prog X.w X.K X.mg X.base CX n f fd ps sp) (hr : Room (n + 1) X.A) (hb : Binds X.K fd ps []) (hx : Passes CX X E)
    (hn : PySem.W.findIn X.K (.ref C) "__ne__" = some (some (.builtin "object.__ne__"))) (hm : PySem.W.mroIn X.K C (.type "object") = some true) : OpR X (compareOp .NotEq) (rOwnNe C sp E) := by
  intro pins s σ H x y v u Q I rx ry h
  obtain ⟨a, b, rfl, rfl, ha, hb', q⟩ := h
  cases (show v = Value.ref a from rx)
  obtain ⟨oy, oe, J'⟩ := ins_inst I hb'
  cases (show u = Value.ref b from ry)
  exact ne_own_core (b := .ref b) M F hr hb hx hn hm I ha rfl J'.type (by simp [PySem.W.notFirst]) q
/-- x != n, n an int -/
def rOwnNeI (C : Addr) (sp : Sp) (E : XK) : R2 := fun x y H Q => ∃ a i, x = .ref a ∧ y = .int i ∧ Ins H a C ∧ sp [.ref a, .int i] H (fun v H' => ∃ k, v = .bl k ∧ Q (.bl (!k)) H') E
theorem ne_ownI (M : Meth X.K C "__eq__" f) (F : FnOk X.prog X.w X.K X.mg X.base CX n f fd ps sp) (hr : Room (n + 1) X.A) (hb : Binds X.K fd ps []) (hx : Passes CX X E)
    (hn : PySem.W.findIn X.K (.ref C) "__ne__" = some (some (.builtin "object.__ne__"))) (hm : PySem.W.mroIn X.K C (.type "object") = some true) (hsub : PySem.W.subIn X.K (.type "int") (.ref C) = some false) : OpR X (compareOp .NotEq) (rOwnNeI C sp E) := by
  intro pins s σ H x y v u Q I rx ry h
  obtain ⟨a, i, rfl, rfl, ha, q⟩ := h
  cases (show v = Value.ref a from rx)
  obtain ⟨t, rfl⟩ := (show ∃ t, u = Value.int i t from ry)
  exact ne_own_core (b := .int i) M F hr hb hx hn hm I ha ⟨t, rfl⟩ (PySem.W.Looks.of_pure rfl) (by unfold PySem.W.notFirst; rw [hsub]; simp) q
/-- bool(x), x of an own class -/
theorem bool_own (M : Meth X.K C "__bool__" f) (F : FnOk X.prog X.w X.K X.mg X.base CX n f fd ps sp) (hr : Room (n + 3) X.A) (hb : Binds X.K fd ps []) (hx : Passes CX X E) :
    CallR X (.type "bool") (fun xs H Q => ∃ a, xs = [.ref a] ∧ Ins H a C ∧ sp [.ref a] H (fun v H' => ∃ k, v = .bl k ∧ Q v H') E) := by
  intro pins s σ H xs us Q I r h
  obtain ⟨a, rfl, ha, q⟩ := h
  rw [Vals.ref1 r]
  obtain ⟨ox, od, J⟩ := ins_inst I ha
  obtain ⟨m, hF⟩ := I.fr
  refine callType_codes (T := "bool") (Bi := Builtin.«object.__init__») (Q₁ := fun r t => ∃ k : Bool, r = .bool k ∧ EP X pins σ Q r t) PySem.F.called_bool (PySem.F.typeCall_bool_1 _) PySem.F.entry_object_init ?_ ?_
  · refine codeAny_of_tree ?_
    show wpAny _ X.A.in1.in1 (checkBuiltinCall "bool.__new__" ⟨[.type "bool", .ref a], []⟩ >>= fun _ => again (.builtin "bool.__new__" ⟨[.type "bool", .ref a], []⟩)) _ _ s
    refine wpAny_bind (wpAny_of_eq (PySem.F.newCall_bool_1 _) (wpAny_pure ⟨plainId_quiet (by decide +kernel) _, codeAny_builtin PySem.F.entry_bool_new ?_⟩))
    rw [Around.under_plainId (by decide +kernel) _]
    have key : wpAny (model X.prog X.w) X.A.in1.in1 (truthy (.ref a)) (fun k t => EP X pins σ Q (.bool k) t) X.xe s := by
      refine PySem.W.truthy_K hF I.ok.mod.kin J M.at_ M.fn (wpAny_mono (run_sub (us := [.ref a]) (vs := [.ref a]) F (Sub.in1 (Sub.in1 ⟨hr.mono (by omega), rfl⟩)) hb hx I (.cons rfl .nil) q) (fun w s' h => ?_) fun _ _ z => z)
      obtain ⟨z, H', I', rz, k, rfl, qz⟩ := h
      cases (show w = Value.bool k from rz)
      exact ⟨.bl k, H', I', rfl, qz⟩
    have f1 := PySem.F.conv_sub_bool
    unfold Builtin.«bool.__new__»
    generalize hTR : truthy = TR at key ⊢
    wp_walk
    refine wpAny_mono key (fun k t h => ?_) fun _ _ z => z
    exact wpAny_pure ⟨k, rfl, h⟩
  · rintro obj t ⟨k, rfl, h⟩
    exact ⟨PySem.typeIs_bool _ _, PySem.F.args_object_init_2 _ _, object_init_meets PySem.F.called_bool.init.lookup PySem.F.called_bool.made (by decide) X.prog X.w X.A.in1 _ t ⟨PySem.typeIs_bool _ _, rfl, h⟩⟩
/-- str(x), x of an own class -/
theorem str_own (M : Meth X.K C "__str__" f) (F : FnOk X.prog X.w X.K X.mg X.base CX n f fd ps sp) (hr : Room (n + 3) X.A) (hb : Binds X.K fd ps []) (hx : Passes CX X E) :
    CallR X (.type "str") (fun xs H Q => ∃ a, xs = [.ref a] ∧ Ins H a C ∧ sp [.ref a] H (fun v H' => ∃ k, v = .str k ∧ Q v H') E) := by
  intro pins s σ H xs us Q I r h
  obtain ⟨a, rfl, ha, q⟩ := h
  rw [Vals.ref1 r]
  obtain ⟨ox, od, J⟩ := ins_inst I ha
  have Y := I.kIn
  refine callType_codes (T := "str") (Bi := Builtin.«object.__init__») (Q₁ := fun r t => ∃ y u, r = .str y u ∧ EP X pins σ Q r t) PySem.F.called_str (PySem.F.typeCall_str_1 _) PySem.F.entry_object_init ?_ ?_
  · refine codeAny_of_tree ?_
    show wpAny _ X.A.in1.in1 (checkBuiltinCall "str.__new__" ⟨[.type "str", .ref a], []⟩ >>= fun _ => again (.builtin "str.__new__" ⟨[.type "str", .ref a], []⟩)) _ _ s
    refine wpAny_bind (wpAny_of_eq (PySem.F.newCall_str_1 _) (wpAny_pure ⟨plainId_quiet (by decide +kernel) _, codeAny_builtin PySem.F.entry_str_new ?_⟩))
    rw [Around.under_plainId (by decide +kernel) _]
    have key : wpAny (model X.prog X.w) X.A.in1.in1 (PySem.Builtin.Str.strOf (.ref a)) (fun v t => ∃ y u, v = Value.str y u ∧ EP X pins σ Q v t) X.xe s := by
      unfold PySem.Builtin.Str.strOf
      rw [show PySem.Builtin.Str.isExactStr (.ref a) = false from rfl]
      refine wpAny_bind (m := cRoomFor _ _) (wpAny_cRoomFor hr.in1.in1.units0 ?_)
      refine wpAny_bind (m := callSpecial? (.ref a) (Str.ofString "__str__")) (PySem.W.special_fn Y J M.at_ (beq_iff_eq.mp M.fn) (wpAny_mono (run_sub (us := [.ref a]) (vs := [.ref a]) F (Sub.in1 (Sub.in1 ⟨hr.mono (by omega), rfl⟩)) hb hx I (.cons rfl .nil) q) (fun w s' h => ?_) fun _ _ z => z))
      obtain ⟨z, H', I', rz, k, rfl, qz⟩ := h
      obtain ⟨u, rfl⟩ := (show ∃ t, w = Value.str k t from rz)
      exact wpAny_pure ⟨k, u, rfl, .str k, H', I', ⟨u, rfl⟩, qz⟩
    have f1 : isSubtype (.type "str") (.type "str") = pure true := isSubtype_str_str
    unfold Builtin.«str.__new__»
    generalize hTR : PySem.Builtin.Str.strOf = TR at key ⊢
    wp_walk
    refine wpAny_mono key (fun v t h => ?_) fun _ _ z => z
    obtain ⟨y, u, rfl, h⟩ := h
    exact wpAny_pure ⟨y, u, rfl, h⟩
  · rintro obj t ⟨y, u, rfl, h⟩
    exact ⟨PySem.typeIs_str _ _ _, PySem.F.args_object_init_2 _ _, object_init_meets PySem.F.called_str.init.lookup PySem.F.called_str.made (by decide) X.prog X.w X.A.in1 _ t ⟨PySem.typeIs_str _ _ _, rfl, h⟩⟩
end
end Sf

namespace Sf
open PySem PySem.Spec PyProof.Rows L2
section
variable {X : Cx} {o : Expr} {f : Str} {pos : Pos} {to : TE}
/-- o.f = .. as a target -/
def gAttr (K : PySem.W.Frag) (to : TE) (f : Str) : TG := fun y σ H Q => to σ H fun x H1 => ∃ a C dx fs, x = .ref a ∧ H1 a = some (.ins C dx fs) ∧ Cls K C ∧ NoAttr K C f ∧ fs.length < 1000 ∧ Q σ (upd H1 a (.ins C dx (putF f y fs)))
theorem pg_attr (ho : PE X o to) : PG X (.Attribute o f pos) (gAttr X.K to f) := by
  refine ⟨fun pins s σ H v u Q I r h => ?_⟩
  rw [arm_assign_Attribute]
  refine wpAny_bind (wpAny_holding (thn (ho.run pins s σ H _ I h) fun ov s1 ⟨x, H1, I1, r1, a, C, dx, fs, ex, ea, c, nn, l, q⟩ => ?_))
  subst ex
  cases (show ov = Value.ref a from r1)
  refine wpAny_bind (wpAny_standAt (wpAny_bind (wpAny_holding (setattr_ok I1 ea c nn l r fun s2 I2 => ?_))))
  exact wpAny_release ⟨σ, _, I2, q⟩
end
end Sf

namespace Sf
open PySem PySem.Spec PyProof.Rows L2
section
variable {X : Cx}
def CDivZ (_ j : Int) : Prop := j ≠ 0 ∧ j.natAbs.log2 < 9000
/-- // by a divisor of any sign -/
theorem op_fdivZ : OpR X (binaryOp .FloorDiv) (rI CDivZ fun i j => .int (i.fdiv j)) := opI fun _ _ _ _ _ _ _ hc q => floordiv_int hc.1 q (.inl (PyProof.noPylong_of_log2 hc.2))
theorem CDivZ.of {i j : Int} (h : j ≠ 0) (hb : j.natAbs < 2 ^ 8000) : CDivZ i j := ⟨h, Nat.lt_of_lt_of_le ((Nat.log2_lt (by omega)).mpr hb) (by decide)⟩
theorem gcd_args5 (a b c d e : Value) : argsOk "math.gcd" ⟨[a, b, c, d, e], []⟩ := by unfold argsOk; kernel_rfl
theorem gcd_run5 (a b c d e : Int) (ta tb tc td te : Tok) : Gives (Builtin.«math.gcd» ⟨[.int a ta, .int b tb, .int c tc, .int d td, .int e te], []⟩) (.int ((((((Nat.gcd 0 a.natAbs).gcd b.natAbs).gcd c.natAbs).gcd d.natAbs).gcd e.natAbs : Nat) : Int)) :=
  .of_wp fun M A E s Q h => by
    obtain ⟨hp, g, d, tk, os⟩ := s
    wp_walk
    exact ⟨_, rfl, h⟩
/-- gcd of five integers -/
def rGcd5 : List V → Hp → VK → Prop := fun vs H Q => ∃ a b c d e : Int, vs = [.int a, .int b, .int c, .int d, .int e] ∧ Q (.int (((((a.natAbs.gcd b.natAbs).gcd c.natAbs).gcd d.natAbs).gcd e.natAbs : Nat) : Int)) H
theorem cr_gcd5 : CallR X (.builtin "math.gcd") rGcd5 := by
  intro pins s σ H xs us Q I r h
  obtain ⟨a, b, c, d, e, rfl, q⟩ := h
  cases r with
  | cons r1 r => cases r with
    | cons r2 r => cases r with
      | cons r3 r => cases r with
        | cons r4 r => cases r with
          | cons r5 r =>
            cases r
            obtain ⟨t1, rfl⟩ := r1
            obtain ⟨t2, rfl⟩ := r2
            obtain ⟨t3, rfl⟩ := r3
            obtain ⟨t4, rfl⟩ := r4
            obtain ⟨t5, rfl⟩ := r5
            have g := gcd_run5 a b c d e t1 t2 t3 t4 t5
            rw [Nat.gcd_zero_left] at g
            exact call_function_meets PySem.W.MGF.kind_gcd PySem.W.MGF.plain_gcd PySem.W.MGF.entry_gcd (gcd_args5 _ _ _ _ _) g.meets ⟨.int _, H, I.tok _, ⟨_, rfl⟩, q⟩
/-- x(e, ..), x a name of the module that holds a built-in function -/
theorem pe_callGB {r : List V → Hp → VK → Prop} {t : TA} {x : Str} {id : String} {e : Expr} {es : List Expr} {p pos : Pos} (hc : CallR X (.builtin id) r) (hg : Gl X x) (hm : X.mg x = some (.builtin id)) (ha : PA X (e :: es) t) (hdb : (x == ("__debug__" : Str)) = false := by decide)
    (he : starEach (e :: es) X.env = (false, eval e X.env) :: starEach es X.env := by rfl) (hpl : (backTo pos (starEach es X.env)).any (·.1) = false := by rfl) : PE X (.Call (.Name x p) (e :: es) [] pos) (tCB r t) := by
  refine ⟨fun pins s σ H Q I h => ?_⟩
  refine wpAny_Call_Name_kw (ld_glob I hg hm ?_ hdb)
  exact PyProof.Rows.callWith_builtin1 (thn (ha.run pos pins s σ H _ I h) fun us s1 ⟨vs, H1, I1, r1, q1⟩ => hc pins s1 σ H1 vs us Q I1 r1 q1) he hpl
end
end Sf

namespace Sf
open PySem PySem.Spec PyProof.Rows L2
/-- an own class, ready to be called with so many arguments; ds fills up -/
structure CalC (P : Program) (w : World) (K : PySem.W.Frag) (mg : Str → Option Value) (base : Heap) (k : Nat) (x : Str) (C : Addr) (ps : List Str) (ds : List V) (sp : Sp) where
  f : Addr
  fd : FuncData
  us : List Value
  ok : FnOk P w K mg base CX0 k f fd ps sp
  mkr : Mk K C f
  g : mg x = some (.ref C)
  b : Binds K fd ps us
  d : Vals ds us
/-- a method, ready to be called -/
structure CalM (P : Program) (w : World) (K : PySem.W.Frag) (mg : Str → Option Value) (base : Heap) (k : Nat) (m : Str) (C : Addr) (ps : List Str) (sp : Sp) where
  f : Addr
  fd : FuncData
  ok : FnOk P w K mg base CX0 k f fd ps sp
  me : Meth K C m f
  b : Binds K fd ps []
theorem _root_.L2.Meth.cast {K : PySem.W.Frag} {C f : Addr} {m m' : Str} (M : Meth K C m f) (e : m = m') : Meth K C m' f := e ▸ M
section
variable {X : Cx} {k : Nat} {x m : Str} {C : Addr} {ps : List Str} {ds : List V} {sp : Sp} {e o : Expr} {es : List Expr} {t : TA} {ta : TE} {p pos apos : Pos}
theorem pe_new (N : CalC X.prog X.w X.K X.mg X.base k x C ps ds sp) (hr : Room (k + 1) X.A) (ha : PA X (e :: es) t) (hg : Gl X x := by rfl) (hdb : (x == ("__debug__" : Str)) = false := by decide)
    (he : starEach (e :: es) X.env = (false, eval e X.env) :: starEach es X.env := by rfl) (hpl : (backTo pos (starEach es X.env)).any (·.1) = false := by rfl) :
    PE X (.Call (.Name x p) (e :: es) [] pos) (tMake C sp ds E0 t) :=
  pe_make N.mkr N.ok hr hg N.g N.b N.d pass0 ha hdb he hpl
end
/-- what the text says of a class whose objects are told by fields alone -/
structure OwnK (K : PySem.W.Frag) (C : Addr) : Prop where
  cls : Cls K C
  sf : PySem.W.selfFirst K C = true
  si : PySem.W.subIn K (.type "int") (.ref C) = some false
  ne : PySem.W.findIn K (.ref C) "__ne__" = some (some (.builtin "object.__ne__"))
  mo : PySem.W.mroIn K C (.type "object") = some true
  ca : PySem.W.findIn K (.ref C) "__class__" = some (some (.builtin "object.__class__"))
  cg : PySem.W.specialIn K (.builtin "object.__class__") "__get__" = some (some (.builtin "getset_descriptor.__get__"))
  ct : PySem.W.takesIn K (.builtin "object.__class__") = some true
  kk : PySem.W.kitOne K (.ref C) (.ref C) = some true
  ki : PySem.W.kitOne K (.type "int") (.ref C) = some false
theorem OwnK.ty {K : PySem.W.Frag} {C : Addr} {H : Hp} {a : Addr} (o : OwnK K C) (h : Ins H a C) : TyX K H (.ref a) (.ref C) := by
  obtain ⟨dx, fs, e⟩ := h
  exact .base (.ins e o.cls o.ca o.cg o.ct o.mo)
theorem ownB_ok {K : PySem.W.Frag} {x : Str} (c : Cls K (He.ga K x)) (h : ownB K x = true) : OwnK K (He.ga K x) := by
  obtain ⟨h1, h⟩ := He.ba h
  obtain ⟨h2, h⟩ := He.ba h
  obtain ⟨h3, h⟩ := He.ba h
  obtain ⟨h4, h⟩ := He.ba h
  obtain ⟨h5, h⟩ := He.ba h
  obtain ⟨h6, h⟩ := He.ba h
  obtain ⟨h7, h⟩ := He.ba h
  obtain ⟨h8, h9⟩ := He.ba h
  exact ⟨c, h1, of_decide_eq_true h2, He.eqO_ok h3, of_decide_eq_true h4, He.eqO_ok h5, He.eqO_ok h6, of_decide_eq_true h7, of_decide_eq_true h8, of_decide_eq_true h9⟩
/-- e.f where K is told from outside (within a comprehension) -/
theorem pe_fldK {X : Cx} {K : PySem.W.Frag} {e : Expr} {f : Str} {pos : Pos} {ta : TE} (hK : X.K = K) (he : PE X e ta) (hb : attributeBase e f X.env (eval e X.env) = eval e X.env) : PE X (.Attribute e f pos) (tFld K ta f) := hK ▸ pe_fld he hb
theorem pg_tupK {X : Cx} {K : PySem.W.Frag} {es : List Expr} {k : Nat} {t : TGs} {n : Nat} {pos : Pos} (hK : X.K = K) (hc : X.calm = true) (h : PGs X es t)
    (hn : (assignEach es X.env).length = n := by rfl) (hst : (assignEach es X.env).findIdx? (·.1) = none := by rfl) : PG X (.Tuple es k pos) (gTup K n t) := hK ▸ pg_tup hc h hn hst
theorem walk_zipT {K : PySem.W.Frag} {a b : Addr} {xs ys : List V} {n : Nat} (h1 : xs.length = n) (h2 : ys.length = n) : Walk (RZ.ItzT K a b) n (fun H => SqT K H a xs ∧ SqT K H b ys) (YPair (fun i => xs[i]?) (fun i => ys[i]?)) :=
  ⟨fun i H hi q => ⟨xs, ys, xs[i], ys[i], q.1, q.2, by simp, by simp⟩, fun H q => ⟨xs, ys, q.1, q.2, .inl (Nat.le_of_eq h1)⟩, fun i H x H' hi q y => by
    obtain ⟨T, u, v, e, hT, eH, g1, g2⟩ := y
    exact ⟨T, u, v, e, hT, eH, g1 xs q.1, g2 ys q.2⟩⟩
theorem ifnb {b : Bool} {A B : Prop} (h1 : b = false → A) (h2 : b = true → B) : if (!b) = true then A else B := by
  cases b with
  | false => exact h1 rfl
  | true => exact h2 rfl
end Sf

namespace Sf
open PySem PySem.Spec PyProof.Rows L2
/-! {(k, l): v, ..}: a display with tuples for keys -/
section
variable {X : Cx} {pins : List (Addr × Obj)} {σ : L2.St}
theorem d_setT {H : Hp} {s : Shared} {a b : Addr} {v : V} {r : Value} {kvs : List (List Key × V)} {k : List Key} {A : Around} {E : Value → Shared → Prop} {Q : Unit → Shared → Prop} (hu : A.units + 1 < cLine) (I : Inv X pins σ H s) (e : H a = some (.dT kvs)) (eb : H b = some (.tup (k.map kV))) (l : kvs.length < sizeLine) (rv : RelV v r)
    (h : ∀ s', Inv X pins σ (upd H a (.dT (putK kvs k v))) s' → Q () s') : wpAny (model X.prog X.w) A (dictSet a (.ref b) r) Q E s := by
  obtain ⟨z, hd, xs, rel, dd⟩ := dt_of I.hok e
  have hz : xs.length ≤ sizeLine := by rw [← Paired.length rel]; exact z
  have hl : (putK kvs k v).length ≤ sizeLine := by have := length_putK kvs k v; omega
  refine wpAny_dictSet_heap (hsz := hz) (knd := tupleKind (mixKind X.prog X.w)) (by show A.units < cLine; omega) (key_of I.hok eb) dd fun h' dd' hs => h _ ?_
  obtain ⟨q, es, ep, hq, h2, h3, h4, _, h5⟩ := dd'
  refine d_write I (by rw [e]; exact True.intro) hs ⟨q, hq⟩ ⟨hl, hd, _, (rel.put k eb rv).keeps fun c ys ec => ?_, q, es, ep, hq, h2, h3, h4, h5⟩
  rw [upd_ne (ne_of ec e (fun z => nomatch z))]
  exact ec
def tPutT (a : Addr) : List (V × V) → Hp → (Hp → Prop) → Prop
  | [], H, Q => Q H
  | p :: r, H, Q => ∃ b k kvs, p.1 = .ref b ∧ H a = some (.dT kvs) ∧ H b = some (.tup (k.map kV)) ∧ kvs.length < sizeLine ∧ tPutT a r (upd H a (.dT (putK kvs k p.2))) Q
theorem storeAllT {a : Addr} {A : Around} {E : Value → Shared → Prop} (hu : A.units + 1 < cLine) : ∀ (ps : List (V × V)) (vs : List (Value × Value)) (H : Hp) (s : Shared) (Q : Hp → Prop) (Q' : PUnit → Shared → Prop), Inv X pins σ H s → VV ps vs → tPutT a ps H Q →
    (∀ H' s', Inv X pins σ H' s' → Q H' → Q' PUnit.unit s') → wpAny (model X.prog X.w) A (storeAll a vs) Q' E s
  | [], _, H, s, Q, Q', I, rel, q, h => by
    cases rel
    unfold storeAll
    rw [List.forIn_nil]
    exact wpAny_pure (h H s I q)
  | p :: ps, _, H, s, Q, Q', I, rel, q, h => by
    cases rel with
    | @cons _ u _ us r1 r2 =>
      obtain ⟨b, k, kvs, e1, e2, e3, e4, q2⟩ := q
      obtain ⟨ru, rv⟩ := r1
      rw [e1] at ru
      have eu : u.1 = Value.ref b := ru
      unfold storeAll
      rw [List.forIn_cons]
      show wpAny _ _ (((do dictSet a u.1 u.2; pure (ForInStep.yield PUnit.unit)) : Sem (ForInStep PUnit)) >>= _) _ _ _
      rw [eu]
      refine wpAny_bind (wpAny_bind (d_setT hu I e2 e3 e4 rv fun s' I' => wpAny_pure ?_))
      exact storeAllT hu ps us _ s' Q Q' I' r2 q2 h
def tDispT (trs : List (TE × TE)) : TE := fun σ H Q => ∀ p, H p = none → tPairs trs σ (upd H p (.dT [])) fun ps H2 => tPutT p ps H2 fun H3 => Q (.ref p) H3
theorem pe_dispT {pos : Pos} {keys : List (Option Expr)} {values : List Expr} {trs : List (TE × TE)} (hu : X.A.units + 1 < cLine) (h : PPs X pos keys values trs) (hall : keys.all (·.isSome) = true) (hl : keys.length = values.length) (h0 : keys ≠ [])
    (h15 : keys.length ≤ 15) : PE X (.Dict keys values pos) (tDispT trs) := by
  refine ⟨fun pins s σ H Q I q => ?_⟩
  have hn := I.hok.fresh (Nat.le_refl s.heap.objs.size)
  have I1 := I.laid (a := s.heap.objs.size) (o := .dT []) (h' := s.heap.push { cls := .type "dict", data := .dict #[] }) (t' := s.toks) (fun _ _ q => Heap.get?_push_of_some _ q) (Nat.le_refl _) (dt_empty s.heap I.big)
  refine wpAny_Dict_any hall hl h0 h15 (thn (h.run pins _ σ _ _ I1 (q _ hn)) fun ws s2 ⟨ps, H2, I2, rel, q2⟩ => ?_)
  exact storeAllT hu ps ws H2 s2 _ _ I2 rel q2 fun H' s' I' q3 => ⟨.ref s.heap.objs.size, H', I', rfl, q3⟩
end
end Sf

namespace Sf
open PySem PySem.Spec PyProof.Rows L2
/-- the product of the primes among places -/
def discOf : List Int → Int
  | [] => 1
  | p :: l => (if p > 0 then p else 1) * discOf l
theorem disc_snoc : ∀ (l : List Int) (p : Int), discOf (l ++ [p]) = discOf l * (if p > 0 then p else 1)
  | [], p => by show (if p > 0 then p else 1) * 1 = 1 * _; omega
  | x :: l, p => by
    show _ * discOf (l ++ [p]) = _ * discOf l * _
    rw [disc_snoc l p, Int.mul_assoc]
theorem disc_small : ∀ (l : List Int), (∀ p ∈ l, p ≤ 1000000000) → (discOf l).natAbs ≤ 1000000000 ^ l.length
  | [], _ => by show 1 ≤ _; exact Nat.le_refl _
  | x :: l, h => by
    have ih := disc_small l fun p hp => h p (List.mem_cons_of_mem _ hp)
    have hx := h x List.mem_cons_self
    show ((if x > 0 then x else 1) * discOf l).natAbs ≤ 1000000000 ^ (l.length + 1)
    rw [Int.natAbs_mul, Nat.pow_succ, Nat.mul_comm]
    refine Nat.mul_le_mul ih ?_
    split <;> omega
section
variable {P : Program} {w : World} {K : PySem.W.Frag} {mg : Str → Option Value} {base : Heap} {f : Addr} {fd : FuncData} {CR CA CF : Addr}
theorem int_of_map {l : List Int} {i : Nat} {v : V} (h : (l.map V.int)[i]? = some v) : ∃ z, l[i]? = some z ∧ v = V.int z := by
  rw [List.getElem?_map] at h
  cases e : l[i]? with
  | none => rw [e] at h; cases h
  | some z => rw [e] at h; exact ⟨z, rfl, (Option.some.inj h).symm⟩
def spDisc : Sp := fun vs H Q _ => ∃ (a : Addr) (l : List Int), vs = [.ref a] ∧ H a = some (.tup (l.map V.int)) ∧ l.length ≤ 62 ∧ (∀ p ∈ l, p ≤ 1000000000) ∧ Q (.int (discOf l)) H
theorem ok_product_of_primes (F : FnD K "product_of_primes" "product_of_primes" s_P_product_of_primes f fd) : FnOk P w K mg base CX0 1 f fd ["places"] spDisc := by
  refine F.ok sc_P_product_of_primes (fun vs H Q E h => ?_) (fun cdv A outer s H vs Q E hr h => ?_)
  · obtain ⟨a, l, rfl, _⟩ := h; rfl
  · obtain ⟨a, l, rfl, ha, hl, hp, q⟩ := h
    refine ⟨_, PSs.nox (pss_cons (ps_set (i := 1) sc_P_product_of_primes.nd rfl (Or.inl rfl) pe_int)
      (pss_cons (ps_for PassesOwn.never rfl (pi_tup (pv 0)) (pg_name (i := 2) sc_P_product_of_primes.nd rfl (Or.inl rfl)) (pss_one (ps_if (pt_cmp (pc_gt (pv 2) pe_int)) (pss_one (ps_set (i := 1) sc_P_product_of_primes.nd rfl (Or.inl rfl) (pe_op op_mulW (pv 1) (pv 2)))) pss_nil)))
      (pss_one (ps_ret (pv 1))))), ?_⟩
    have hT : SqT K H a (l.map V.int) := .inl (.inl ha)
    refine ⟨_, rfl, a, rfl, ⟨_, hT⟩, for_tup (K := K) (a := a) (xs := l.map V.int) (fun i σ H' => H = H' ∧ ∃ v, σ = [some (.ref a), some (.int (discOf (l.take i))), v]) ⟨rfl, none, rfl⟩ (fun i σ H' _ e => by rw [← e.1]; exact hT) ?_ ?_⟩
    · rintro i y σ _ hi ⟨rfl, v, rfl⟩
      obtain ⟨p, hpi, rfl⟩ := int_of_map hi
      have pm := List.mem_of_getElem? hpi
      have pb := hp p pm
      have et : discOf (l.take (i + 1)) = discOf (l.take i) * (if p > 0 then p else 1) := by
        rw [List.take_add_one, hpi, ← disc_snoc]
        rfl
      have sm := disc_small (l.take i) fun x hx => hp x (List.mem_of_mem_take hx)
      have sb : (discOf (l.take i)).natAbs < 2 ^ 3000 := by
        refine Nat.lt_of_le_of_lt (Nat.le_trans sm (Nat.pow_le_pow_right (by decide) (?_ : (l.take i).length ≤ 62))) (by decide +kernel)
        have := List.length_take_le' i l
        omega
      refine ⟨_, rfl, _, _, rfl, rfl, _, rfl, ifd (fun h => ?_) (fun h => ?_)⟩
      · rw [if_pos h] at et
        refine ⟨_, rfl, _, rfl, _, _, rfl, rfl, CMulW.of sb (lt3000s (by omega) (by omega)), rfl, some (.int p), ?_⟩
        rw [et]; rfl
      · rw [if_neg h, Int.mul_one] at et
        exact ⟨rfl, some (.int p), by rw [et]; rfl⟩
    · rintro σ _ ⟨rfl, v, rfl⟩
      rw [List.length_map, List.take_length]
      exact ⟨_, rfl, q⟩
/-- the algebra of two numbers -/
structure AlgAt (CA : Addr) (H : Hp) (x : Addr) (a b : Int) : Prop where
  ex : ∃ (dx pl : Addr) (l : List Int), H x = some (.ins CA dx [("places", .ref pl), ("a", .int a), ("b", .int b), ("discriminant", .int (discOf l)), ("is_tables", .bl (decide (l.length = 0))), ("is_definite", .bl (decide ((0 : Int) ∈ l)))]) ∧
    H pl = some (.tup (l.map V.int)) ∧ PlacesOf a b l ∧ a ≠ 0 ∧ b ≠ 0 ∧ a.natAbs ≤ 1000000000 ∧ b.natAbs ≤ 1000000000
theorem AlgAt.same {H H' : Hp} {x : Addr} {a b : Int} (h : AlgAt CA H x a b) (s : Same H H') : AlgAt CA H' x a b := by
  obtain ⟨dx, pl, l, h1, h2, h3⟩ := h.ex
  exact ⟨dx, pl, l, s _ _ h1, s _ _ h2, h3⟩
theorem AlgAt.ins {H : Hp} {x : Addr} {a b : Int} (h : AlgAt CA H x a b) : Ins H x CA := by
  obtain ⟨dx, pl, l, h1, _⟩ := h.ex
  exact ⟨dx, _, h1⟩
structure AlgK (K : PySem.W.Frag) (CA : Addr) : Prop where
  own : OwnK K CA
  n1 : NoAttr K CA "places"
  n2 : NoAttr K CA "a"
  n3 : NoAttr K CA "b"
  n4 : NoAttr K CA "discriminant"
  n5 : NoAttr K CA "is_tables"
  n6 : NoAttr K CA "is_definite"
structure AlgInitP (CA : Addr) (vs : List V) (H : Hp) (Q : VK) : Prop where
  ex : ∃ (x dx : Addr) (a b : Int), vs = [.ref x, .int a, .int b] ∧ a ≠ 0 ∧ b ≠ 0 ∧ a.natAbs ≤ 1000000000 ∧ b.natAbs ≤ 1000000000 ∧ H x = some (.ins CA dx []) ∧ ∀ H', Keep x H H' → AlgAt CA H' x a b → Q .non H'
def spAlgInit (CA : Addr) : Sp := fun vs H Q _ => AlgInitP CA vs H Q
theorem place_le {a b p : Int} {l : List Int} (h : PlacesOf a b l) (a0 : a ≠ 0) (b0 : b ≠ 0) (a1 : a.natAbs ≤ 1000000000) (b1 : b.natAbs ≤ 1000000000) (hp : p ∈ l) : p ≤ 1000000000 := by
  obtain ⟨g, n⟩ := (h.2 p).mp hp
  rcases g with e | g
  · omega
  · by_cases c : p = 2
    · omega
    · have dv : ∀ {n : Int}, n ≠ 0 → n % p = 0 → p ≤ n.natAbs := fun {n} n0 d => by
        obtain ⟨k, hk⟩ := Int.dvd_of_emod_eq_zero d
        have k0 : k ≠ 0 := fun z => n0 (by rw [hk, z, Int.mul_zero])
        have p2 := g.1
        have e : n.natAbs = p.natAbs * k.natAbs := by rw [hk]; exact Int.natAbs_mul _ _
        have : p.natAbs * 1 ≤ p.natAbs * k.natAbs := Nat.mul_le_mul_left _ (by omega)
        omega
      by_cases ca : a % p = 0
      · have := dv a0 ca
        omega
      · by_cases cb : b % p = 0
        · have := dv b0 cb
          omega
        · exact absurd (sign_far g c ca cb n) (by decide)
theorem ok_Algebra_init (F : FnD K "__init__" "Algebra.__init__" s_P_Algebra___init__ f fd) (T : Glob mg) (R : AlgK K CA) (C_P_signed_places : Cal P w K mg base 5 "signed_places" ["a", "b"] spPlaces) (C_P_product_of_primes : Cal P w K mg base 1 "product_of_primes" ["places"] spDisc) :
    FnOk P w K mg base CX0 6 f fd ["self", "a", "b"] (spAlgInit CA) := by
  refine F.ok sc_P_Algebra___init__ (fun vs H Q E h => ?_) (fun cdv A outer s H vs Q E hr h => ?_)
  · obtain ⟨x, dx, a, b, rfl, _⟩ := h.ex; rfl
  · obtain ⟨x, dx, a, b, rfl, a0, b0, a1, b1, hx, q⟩ := h.ex
    refine ⟨_, PSs.nox (pss_cons (ps_fld (pv 0) (pe_cal C_P_signed_places (hr.mono (by decide)) (pa_cons (pv 1) (pa_cons (pv 2) pa_nil))) rfl)
      (pss_cons (ps_fld (pv 0) (pv 1) rfl)
      (pss_cons (ps_fld (pv 0) (pv 2) rfl)
      (pss_cons (ps_fld (pv 0) (pe_cal C_P_product_of_primes (hr.mono (by decide)) (pa_cons (pe_fld (pv 0) rfl) pa_nil)) rfl)
      (pss_cons (ps_fld (pv 0) (pe_cmp (pc_eqI (pe_callB call_len_seq (by rfl) T.m_len (by decide +kernel) (pa_cons (pe_fld (pv 0) rfl) pa_nil)) pe_int) rfl) rfl)
      (pss_one (ps_fld (pv 0) (pe_cmpR op_in_seq pe_int (pe_fld (pv 0) rfl) (by rfl)) rfl))))))), ?_⟩
    refine ⟨_, rfl, _, rfl, ⟨a, b, rfl, a0, b0, a1, b1, fun l pl H1 hpl hll e1 hn hpl1 => ?_⟩⟩
    have hx1 := e1 _ _ hx
    have npx : pl ≠ x := fun z => by
      rw [z, hx] at hn
      cases hn
    refine ⟨_, rfl, x, CA, dx, _, rfl, hx1, R.own.cls, R.n1, by decide, ?_⟩
    refine ⟨_, rfl, _, rfl, x, CA, dx, _, rfl, upd_same, R.own.cls, R.n2, (by show 1 < 1000; decide), ?_⟩
    refine ⟨_, rfl, _, rfl, x, CA, dx, _, rfl, upd_same, R.own.cls, R.n3, (by show 2 < 1000; decide), ?_⟩
    refine ⟨_, rfl, x, CA, dx, _, .ref pl, rfl, upd_same, R.own.cls, R.n1, rfl, pl, l, rfl, by rw [upd_ne npx, upd_ne npx, upd_ne npx]; exact hpl1, hll, fun p hp => place_le hpl a0 b0 a1 b1 hp, ?_⟩
    refine ⟨_, rfl, x, CA, dx, _, rfl, upd_same, R.own.cls, R.n4, (by show 3 < 1000; decide), ?_⟩
    refine ⟨_, rfl, x, CA, dx, _, .ref pl, rfl, upd_same, R.own.cls, R.n1, rfl, pl, _, rfl, .inr (SqT.of (by rw [upd_ne npx, upd_ne npx, upd_ne npx, upd_ne npx]; exact hpl1)), _, _, rfl, rfl, ?_⟩
    refine ⟨_, rfl, x, CA, dx, _, rfl, upd_same, R.own.cls, R.n5, (by show 4 < 1000; decide), ?_⟩
    refine ⟨_, rfl, x, CA, dx, _, .ref pl, rfl, upd_same, R.own.cls, R.n1, rfl, pl, _, rfl, .inr (SqT.of (by rw [upd_ne npx, upd_ne npx, upd_ne npx, upd_ne npx, upd_ne npx]; exact hpl1)), rfl, all_flat _, ?_⟩
    refine ⟨_, rfl, x, CA, dx, _, rfl, upd_same, R.own.cls, R.n6, (by show 5 < 1000; decide), ?_⟩
    refine q _ (fun d o e n => ?_) ⟨⟨dx, pl, l, ?_, ?_, hpl, a0, b0, a1, b1⟩⟩
    · rw [upd_ne n, upd_ne n, upd_ne n, upd_ne n, upd_ne n, upd_ne n]
      exact e1 _ _ e
    · rw [upd_same, inV_ints]
      show some (HO.ins CA dx [("places", V.ref pl), ("a", V.int a), ("b", V.int b), ("discriminant", V.int (discOf l)), ("is_tables", V.bl (decide ((((l.map V.int).length : Nat) : Int) = 0))), ("is_definite", V.bl (decide ((0 : Int) ∈ l)))]) = _
      have e : decide ((((l.map V.int).length : Nat) : Int) = 0) = decide (l.length = 0) := by
        rw [List.length_map, Bool.eq_iff_iff, decide_eq_true_iff, decide_eq_true_iff]
        omega
      rw [e]
    · rw [upd_ne npx, upd_ne npx, upd_ne npx, upd_ne npx, upd_ne npx, upd_ne npx]
      exact hpl1
end
end Sf

namespace Sf
open PySem PySem.Spec PyProof.Rows L2
section
variable {P : Program} {w : World} {K : PySem.W.Frag} {mg : Str → Option Value} {base : Heap} {f : Addr} {fd : FuncData}
structure TakeP (vs : List V) (H : Hp) (Q : VK) : Prop where
  ex : ∃ (p : Addr) (xs : List V) (n : Nat) (m : Int), vs = [.ref p, .int m] ∧ H p = some (.lst xs) ∧ SackO n xs ∧ n ≤ 1000000 ∧ 1 ≤ m ∧ m < 10 ^ 80 ∧
  ∀ (r : Int) (ys : List V), 0 ≤ r → r < m → SackO (n + 1) ys → Q (.int r) (upd H p (.lst ys))
def spTake : Sp := fun vs H Q _ => TakeP vs H Q
theorem ok_pour (F : FnD K "_law_pour" "_law_pour" s_L_pour f fd) (T : Glob mg) : FnOk P w K mg base CX0 1 f fd ["_law_jug_here", "_law_many"] spTake := by
  refine F.ok sc_L_pour (fun vs H Q E h => ?_) (fun cdv A outer s H vs Q E hr h => ?_)
  · obtain ⟨p, xs, n, m, rfl, _⟩ := h.ex; rfl
  · obtain ⟨p, _, n, m, rfl, hp, ⟨a, b, c, rfl, a0, a1, b0, b1, c0, c1⟩, hn, hm, hm1, q⟩ := h.ex
    have m0 : (0 : Int) < m := by omega
    have mb : m.natAbs < 2 ^ 3000 := lt3000 (by omega) (Int.lt_trans hm1 (by decide +kernel))
    have hS : SqL K H p [.int a, .int b, .int c] := SqL.of hp
    refine ⟨_, PSs.nox (pss_cons (ps_if (pt_cmp (pc_gt (pe_ix ix_list (pv 0) pe_int (fun _ _ => rfl)) pe_int)) (pss_cons (ps_set (i := 2) sc_L_pour.nd rfl (Or.inl rfl) (pe_op op_mod (pe_callTy call_int1 (by rfl) T.m_int (by decide +kernel) (pa_cons (pe_ix ix_list (pv 0) pe_int (fun _ _ => rfl)) pa_nil)) (pv 1)))
      (pss_cons (ps_asg (pe_op op_fdivW (pe_ix ix_list (pv 0) pe_int (fun _ _ => rfl)) (pv 1)) (pg_sub (pv 0) pe_int set_list))
      (pss_one (ps_ret (pv 2))))) pss_nil)
      (pss_cons (ps_asg (pe_op op_add (pe_ix ix_list (pv 0) pe_int (fun _ _ => rfl)) pe_int) (pg_sub (pv 0) pe_int set_list))
      (pss_cons (ps_set (i := 3) sc_L_pour.nd rfl (Or.inl rfl) (pe_op op_mod (pe_callTy call_int1 (by rfl) T.m_int (by decide +kernel) (pa_cons (pe_op op_add (pe_ix ix_list (pv 0) pe_int (fun _ _ => rfl)) (pe_op op_mulW pe_int (pe_ix ix_list (pv 0) pe_int (fun _ _ => rfl)))) pa_nil)) pe_int))
      (pss_cons (ps_set (i := 4) sc_L_pour.nd rfl (Or.inl rfl) (pe_op op_add (pe_op op_add (pe_op op_mulW (pe_op op_mod (pe_callTy call_int1 (by rfl) T.m_int (by decide +kernel) (pa_cons (pe_op op_mulW (pv 3) (pv 3)) pa_nil)) pe_int) pe_int) (pv 3)) (pe_op op_mulW pe_int (pe_ix ix_list (pv 0) pe_int (fun _ _ => rfl)))))
      (pss_one (ps_ret (pe_op op_mod (pe_callTy call_int1 (by rfl) T.m_int (by decide +kernel) (pa_cons (pe_op op_fdivW (pv 4) pe_int) pa_nil)) (pv 1)))))))), ?_⟩
    refine ⟨_, rfl, p, _, 0, .int a, rfl, rfl, hS, rfl, _, _, rfl, rfl, _, rfl, ifd (fun h => ?_) (fun h => ?_)⟩
    · refine ⟨_, rfl, p, _, 0, .int a, rfl, rfl, hS, rfl, .inl ⟨_, rfl, _, rfl, _, _, rfl, rfl, m0, ?_⟩⟩
      refine ⟨_, rfl, p, _, 0, .int a, rfl, rfl, hS, rfl, _, rfl, _, _, rfl, rfl, CDivW.of m0 mb, ?_⟩
      refine ⟨_, rfl, p, _, 0, 0, rfl, rfl, hp, rfl, ?_⟩
      refine ⟨_, rfl, q (a % m) _ (Int.emod_nonneg _ (by omega)) (Int.emod_lt_of_pos _ m0) ⟨a / m, b, c, rfl, Int.ediv_nonneg a0 (by omega), ?_, b0, b1, c0, by omega⟩⟩
      exact Int.lt_of_le_of_lt (Int.ediv_le_self m a0) a1
    · refine ⟨_, rfl, p, _, 2, .int c, rfl, rfl, hS, rfl, _, _, rfl, rfl, ?_⟩
      refine ⟨_, rfl, p, _, 2, 2, rfl, rfl, hp, rfl, ?_⟩
      have hS2 : SqL K (upd H p (.lst [.int a, .int b, .int (c + 1)])) p [.int a, .int b, .int (c + 1)] := SqL.of upd_same
      refine ⟨_, rfl, p, _, 1, .int b, rfl, rfl, hS2, rfl, _, rfl, p, _, 2, .int (c + 1), rfl, rfl, hS2, rfl, _, _, rfl, rfl, CMulW.of (lt3000s (by decide) (by decide)) (lt3000s (by omega) (by omega)), _, _, rfl, rfl, .inl ⟨_, rfl, _, _, rfl, rfl, (by show (0 : Int) < 2305843009213693967; decide), ?_⟩⟩
      refine ⟨_, rfl, _, rfl, _, _, rfl, rfl, CMulW.of (lt3000s (by omega) (by omega)) (lt3000s (by omega) (by omega)), .inl ⟨_, rfl, _, _, rfl, rfl, (by show (0 : Int) < 2305843009213693951; decide), _, _, rfl, rfl, CMulW.of (lt3000s (by omega) (by omega)) (lt3000s (by decide) (by decide)), _, rfl, _, _, rfl, rfl, _, rfl, p, _, 2, .int (c + 1), rfl, rfl, hS2, rfl, _, _, rfl, rfl, CMulW.of (lt3000s (by decide) (by decide)) (lt3000s (by omega) (by omega)), _, _, rfl, rfl, ?_⟩⟩
      refine ⟨_, rfl, _, _, rfl, rfl, CDivW.of (by decide) (lt3000s (by decide) (by decide)), .inl ⟨_, rfl, _, rfl, _, _, rfl, rfl, m0, ?_⟩⟩
      refine q _ _ (Int.emod_nonneg _ (by omega)) (Int.emod_lt_of_pos _ m0) ⟨a, b, c + 1, rfl, a0, a1, b0, b1, by omega, by omega⟩
end
end Sf

namespace Sf
open PySem PySem.Spec PyProof.Rows L2
section
variable {P : Program} {w : World} {K : PySem.W.Frag} {mg : Str → Option Value} {base : Heap} {f : Addr} {fd : FuncData}
structure OneOfP (K : PySem.W.Frag) (vs : List V) (H : Hp) (Q : VK) : Prop where
  ex : ∃ (p b : Addr) (xs items : List V) (n : Nat), vs = [.ref p, .ref b] ∧ H p = some (.lst xs) ∧ SackO n xs ∧ n ≤ 1000000 ∧ b ≠ p ∧ SqL K H b items ∧ 1 ≤ items.length ∧ items.length ≤ 1000000 ∧
  ∀ (v : V) (ys : List V), v ∈ items → SackO (n + 1) ys → Q v (upd H p (.lst ys))
def spOneOf (K : PySem.W.Frag) : Sp := fun vs H Q _ => OneOfP K vs H Q
theorem ok_of (F : FnD K "_law_of" "_law_of" s_L_of f fd) (T : Glob mg) (C_L_pour : Cal P w K mg base 1 "_law_pour" ["_law_jug_here", "_law_many"] spTake) : FnOk P w K mg base CX0 2 f fd ["_law_jug_here", "_law_items"] (spOneOf K) := by
  refine F.ok sc_L_of (fun vs H Q E h => ?_) (fun cdv A outer s H vs Q E hr h => ?_)
  · obtain ⟨p, b, xs, items, n, rfl, _⟩ := h.ex; rfl
  · obtain ⟨p, b, xs, items, n, rfl, hp, hx, hn, hne, hS, hl0, hl1, q⟩ := h.ex
    refine ⟨_, PSs.nox (pss_one (ps_ret (pe_ix ix_list (pv 1) (pe_cal C_L_pour (hr.mono (by decide)) (pa_cons (pv 0) (pa_cons (pe_callB call_len_seq (by rfl) T.m_len (by decide +kernel) (pa_cons (pv 1) pa_nil)) pa_nil))) (fun _ _ => rfl)))), ?_⟩
    refine ⟨_, rfl, _, rfl, _, rfl, b, _, rfl, .inl hS, ⟨p, xs, n, _, rfl, hp, hx, hn, by omega, ?_, fun r ys h0 h1 hy => ?_⟩⟩
    · exact Int.lt_trans (by omega : (items.length : Int) < 1000001) (by decide +kernel)
    · have hi : r.toNat < items.length := by omega
      have er : ((r.toNat : Nat) : Int) = r := by omega
      refine ⟨b, items, r, items[r.toNat], rfl, rfl, sq_upd hS hne, ?_, q _ ys (List.getElem_mem hi) hy⟩
      have z := atI_nat (List.getElem?_eq_getElem hi)
      rw [er] at z
      exact z
end
end Sf

namespace Sf
open PySem PySem.Spec PyProof.Rows L2
/-- a draw: the same promises in the words of Sk -/
theorem take_of {H : Hp} {p : Addr} {n : Nat} {m : Int} {Q : VK} (hs : Sk p n H) (hn : n ≤ 1000000) (h1 : 1 ≤ m) (h2 : m < 10 ^ 80) (q : ∀ (r : Int) (H' : Hp), 0 ≤ r → r < m → Keep p H H' → Sk p (n + 1) H' → (∀ b, H b = none → H' b = none) → Q (.int r) H') : TakeP [.ref p, .int m] H Q := by
  obtain ⟨xs, a, b⟩ := hs
  exact ⟨p, xs, n, m, rfl, a, b, hn, h1, h2, fun r ys r0 r1 hy => q r _ r0 r1 Keep.upd ⟨ys, upd_same, hy⟩ fun c hc => by rw [upd_ne (fun z => by rw [z, a] at hc; cases hc)]; exact hc⟩
theorem one_of_new {K : PySem.W.Frag} {H : Hp} {p b : Addr} {n : Nat} {items : List V} {Q : VK} (hs : Sk p n H) (hn : n ≤ 1000000) (hb : H b = none) (h1 : 1 ≤ items.length) (h2 : items.length ≤ 1000000)
    (q : ∀ (v : V) (H' : Hp), v ∈ items → Keep p H H' → Sk p (n + 1) H' → Q v H') : OneOfP K [.ref p, .ref b] (upd H b (.lst items)) Q := by
  obtain ⟨xs, a, o⟩ := hs
  have npb : p ≠ b := ne_of_none a hb
  refine ⟨p, b, xs, items, n, rfl, by rw [upd_ne npb]; exact a, o, hn, npb.symm, SqL.of upd_same, h1, h2, fun v ys hv hy => q v _ hv ?_ ⟨ys, upd_same, hy⟩⟩
  exact (Keep.new hb).trans Keep.upd
end Sf

namespace Sf
open PySem PySem.Spec PyProof.Rows L2
theorem cut_first (xs : List V) : cutV xs none (some 1) = xs.take 1 := by
  unfold cutV
  rw [show HT.sIx xs.length xs.length (some 1) = min 1 xs.length from HT.sIx_nat xs.length xs.length 1, HT.sIx_none]
  cases xs with
  | nil => rfl
  | cons x r =>
    rw [show min 1 (x :: r).length = 1 by
      rw [List.length_cons]
      omega]
    rfl
theorem same_ne {H H' : Hp} {p q : Addr} {o u : HO} (s : Same H H') (h : H p = some o) (n : H q = none) : p ≠ q := ne_of_none h n
section
variable {P : Program} {w : World} {K : PySem.W.Frag} {mg : Str → Option Value} {base : Heap} {f : Addr} {fd : FuncData}
def spSack (K : PySem.W.Frag) : Sp := fun vs H Q _ => ∃ (a : Addr) (ns : List Int) (t : Nat), vs = [.ref a, .int t] ∧ SqL K H a (ns.map V.int) ∧ ns.length ≤ 63 ∧ t ≤ 10 ∧
  ∀ (p : Addr) (xs : List V) (H' : Hp), Same H H' → H p = none → H' p = some (.lst xs) → SackO 0 xs → Q (.ref p) H'
theorem ok_jug (F : FnD K "_law_jug" "_law_jug" s_L_jug f fd) (T : Glob mg) : FnOk P w K mg base CX0 1 f fd ["_law_script", "_law_spot"] (spSack K) := by
  refine F.ok sc_L_jug (fun vs H Q E h => ?_) (fun cdv A outer s H vs Q E hr h => ?_)
  · obtain ⟨a, ns, t, rfl, _⟩ := h; rfl
  · obtain ⟨a, ns, t, rfl, hS, hl, ht, q⟩ := h
    refine ⟨_, PSs.nox (Evl.pss_cut (ps_set (i := 2) sc_L_jug.nd rfl (Or.inl rfl) (pe_ifExp (pt_cmp (pc_lt (pv 1) (pe_callB call_len_seq (by rfl) T.m_len (by decide +kernel) (pa_cons (pv 0) pa_nil)))) (pe_callTy call_int1 (by rfl) T.m_int (by decide +kernel) (pa_cons (pe_ix ix_list (pv 0) (pv 1) (fun _ _ => rfl)) pa_nil)) (pe_op op_add (pe_op op_add (pe_op op_mulW pe_int (pv 1)) pe_int) (pe_op op_mod (pe_callTy call_int1 (by rfl) T.m_int (by decide +kernel) (pa_cons (pe_callB (cr_sum rfl) (by rfl) T.m_sum (by decide +kernel) (pa_cons (pe_slice sl_list (pv 0) po_none (po_some pe_int)) pa_nil)) pa_nil)) pe_int))))
      (pss_cons (ps_set (i := 3) sc_L_jug.nd rfl (Or.inl rfl) (pe_op op_mod (pe_callTy call_int1 (by rfl) T.m_int (by decide +kernel) (pa_cons (pe_callB call_abs (by rfl) T.m_abs (by decide +kernel) (pa_cons (pv 2) pa_nil)) pa_nil)) (pe_op op_powW (pe_op op_powW pe_int pe_int) pe_int)))
      (pss_cons (ps_set (i := 4) sc_L_jug.nd rfl (Or.inl rfl) (pe_op op_mod (pe_callTy call_int1 (by rfl) T.m_int (by decide +kernel) (pa_cons (pe_op op_add (pe_op op_add (pe_op op_add (pe_op op_mulW (pe_op op_mod (pv 3) pe_int) pe_int) (pe_op op_mulW pe_int (pv 1))) (pe_op op_mulW pe_int (pe_callTy call_int1 (by rfl) T.m_int (by decide +kernel) (pa_cons (pe_cmp (pc_lt (pv 2) pe_int) rfl) pa_nil)))) pe_int) pa_nil)) pe_int))
      (pss_one (ps_ret (pe_lst (pa_cons (pe_callB (call_max2 rfl) (by rfl) T.m_max (by decide +kernel) (pa_cons pe_int (pa_cons (pe_op op_sub (pv 3) (pe_op op_powW pe_int pe_int)) pa_nil))) (pa_cons (pv 4) (pa_cons pe_int pa_nil))))))))), ?_⟩
    refine ⟨fun σ' H' => ∃ c : Int, σ' = [some (.ref a), some (.int t), some (.int c), none, none] ∧ Same H H', ?_, ?_⟩
    · refine ⟨_, rfl, _, rfl, a, _, rfl, .inl hS, _, _, rfl, rfl, _, rfl, ifd (fun h => ?_) (fun h => ?_)⟩
      · have hi : t < ns.length := by
          rw [List.length_map] at h
          omega
        refine ⟨_, rfl, _, rfl, a, _, t, .int ns[t], rfl, rfl, hS, atI_nat (by rw [List.getElem?_map, List.getElem?_eq_getElem hi]; rfl), .inl ⟨_, rfl, ?_⟩⟩
        exact ⟨_, rfl, Same.refl H⟩
      · refine ⟨_, rfl, _, _, rfl, rfl, CMulW.of (lt3000s (by decide) (by decide)) (lt3000s (by omega) (by omega)), _, _, rfl, rfl, _, rfl, _, rfl, a, _, rfl, hS, fun p hp => ?_⟩
        refine ⟨p, ns.take 1, rfl, SqL.of ?_, .inl ⟨_, rfl, _, _, rfl, rfl, (by show (0 : Int) < 1000033; decide), _, _, rfl, rfl, ?_⟩⟩
        · rw [upd_same, cut_first, List.map_take]
        · exact ⟨_, rfl, same_upd hp⟩
    · rintro σ' H' ⟨c, rfl, hs⟩
      refine ⟨_, rfl, c, rfl, .inl ⟨_, rfl, 10, 59, rfl, rfl, ⟨by decide, by decide +kernel⟩, 10 ^ 59, 8, rfl, rfl, ⟨by decide, by decide +kernel⟩, _, _, rfl, rfl, (by show (0 : Int) < (10 ^ 59) ^ (8 : Int).toNat; decide +kernel), ?_⟩⟩
      have g0 := Int.emod_nonneg (if c < 0 then -c else c) (by decide +kernel : ((10 : Int) ^ 59) ^ (8 : Int).toNat ≠ 0)
      have g1 := Int.emod_lt_of_pos (if c < 0 then -c else c) (by decide +kernel : (0 : Int) < ((10 : Int) ^ 59) ^ (8 : Int).toNat)
      have e472 : ((10 : Int) ^ 59) ^ (8 : Int).toNat = 10 ^ 472 := by decide +kernel
      rw [e472] at g0 g1
      have gb : (((if c < 0 then -c else c) % 10 ^ 472 : Int)).natAbs < 2 ^ 3000 := by
        have : (10 : Int) ^ 472 < 2 ^ 3000 := by decide +kernel
        have e2 : ((2 ^ 3000 : Nat) : Int) = (2 : Int) ^ 3000 := by decide +kernel
        omega
      refine ⟨_, rfl, _, _, rfl, rfl, (by show (0 : Int) < 2305843009213693921; decide), _, _, rfl, rfl, CMulW.of (lt3000s (by omega) (by omega)) (lt3000s (by decide) (by decide)), _, rfl, _, _, rfl, rfl, CMulW.of (lt3000s (by decide) (by decide)) (lt3000s (by omega) (by omega)), _, _, rfl, rfl, ?_⟩
      have eb : ∀ b : Bool, 0 ≤ (if b = true then (1 : Int) else 0) ∧ (if b = true then (1 : Int) else 0) ≤ 1 := fun b => by cases b <;> decide
      have hb := eb (decide (c < 0))
      refine ⟨_, rfl, _, _, rfl, rfl, .inr ⟨_, rfl, _, _, rfl, rfl, CMulW.of (lt3000s (by decide) (by decide)) (lt3000s (by split <;> decide) (by split <;> decide)), _, _, rfl, rfl, _, _, rfl, rfl, .inl ⟨_, rfl, _, _, rfl, rfl, (by show (0 : Int) < 2305843009213693951; decide), ?_⟩⟩⟩
      refine ⟨_, rfl, 10, 17, rfl, rfl, ⟨by decide, by decide +kernel⟩, _, _, rfl, rfl, _, _, rfl, _, rfl, (by show 3 ≤ sizeLine; decide), fun p hp => ?_⟩
      have e17 : (10 : Int) ^ (17 : Int).toNat = 100000000000000000 := by decide +kernel
      refine q p _ _ (hs.trans (same_upd hp)) (hs.free hp) upd_same ⟨_, _, _, rfl, ?_, ?_, ?_, ?_, by decide, by decide⟩
      · rw [e17]
        split <;> omega
      · rw [e17, e472]
        have : (0 : Int) < 10 ^ 472 := by decide +kernel
        have h1 : ∀ z N : Int, 0 ≤ z → z < N → 0 < N → (if z - 100000000000000000 > 0 then z - 100000000000000000 else 0) < N := fun z N a b c => by split <;> omega
        exact Int.lt_trans (h1 _ _ g0 g1 this) (by decide +kernel)
      · omega
      · omega
end
end Sf

namespace Sf
open PySem PySem.Spec PyProof.Rows L2
/-! a class called: what stands then -/
theorem same_new {H : Hp} {x dx C : Addr} (hx : H x = none) (hd : H dx = none) (nd : dx ≠ x) : Same H (upd (upd H dx (.own x)) x (.ins C dx [])) := (same_upd hd).trans (same_upd (by rw [upd_ne nd.symm]; exact hx))
theorem same_keep {x : Addr} {H H1 H2 : Hp} (hx : H x = none) (s : Same H H1) (k : Keep x H1 H2) : Same H H2 := fun d o e => k _ _ (s _ _ e) (ne_of_none e hx)
theorem new_alg {CA : Addr} {H : Hp} {a b : Int} {R : VK} {x dx : Addr} (a0 : a ≠ 0) (b0 : b ≠ 0) (a1 : a.natAbs ≤ 1000000000) (b1 : b.natAbs ≤ 1000000000) (hx : H x = none) (hd : H dx = none) (nd : dx ≠ x) (q : ∀ (H' : Hp), Same H H' → AlgAt CA H' x a b → R .non H') :
    AlgInitP CA [.ref x, .int a, .int b] (upd (upd H dx (.own x)) x (.ins CA dx [])) R :=
  ⟨x, dx, a, b, rfl, a0, b0, a1, b1, upd_same, fun H' k hA => q H' (same_keep hx (same_new hx hd nd) k) hA⟩
end Sf

namespace Sf
open PySem PySem.Spec PyProof.Rows L2
section
variable {X : Cx}
theorem cr_repr_bl : CallR X (.builtin "repr") (fun xs H Q => ∃ b : Bool, xs = [.bl b] ∧ Q (.str (if b then "True" else "False")) H) := by
  intro pins s σ H xs us Q I r h
  obtain ⟨b, rfl, q⟩ := h
  obtain ⟨u, rfl, t⟩ := vals1 r
  cases (show u = Value.bool b from t)
  exact PySem.P.repr_of_bool ⟨.str _, H, I.tok _, ⟨_, rfl⟩, q⟩
end
end Sf

namespace Sf
open PySem PySem.Spec PyProof.Rows L2
section
variable {P : Program} {w : World} {K : PySem.W.Frag} {mg : Str → Option Value} {base : Heap} {f : Addr} {fd : FuncData}
structure DrawP (vs : List V) (H : Hp) (Q : VK) : Prop where
  ex : ∃ (p : Addr) (n : Nat) (m : Int), vs = [.ref p, .int m] ∧ Sk p n H ∧ n ≤ 900000 ∧ 1 ≤ m ∧ m ≤ 1000 ∧ ∀ (z : Int) (H' : Hp), z ≠ 0 → (z.natAbs : Int) ≤ m → Keep p H H' → Sk p (n + 2) H' → Q (.int z) H'
def spDraw : Sp := fun vs H Q _ => DrawP vs H Q
theorem ok_drawn (F : FnD K "_law_drawn" "_law_drawn" s_L_drawn f fd) (T : Glob mg) (C_L_pour : Cal P w K mg base 1 "_law_pour" ["_law_jug_here", "_law_many"] spTake) : FnOk P w K mg base CX0 2 f fd ["_law_jug_here", "_law_most"] spDraw := by
  refine F.ok sc_L_drawn (fun vs H Q E h => ?_) (fun cdv A outer s H vs Q E hr h => ?_)
  · obtain ⟨p, n, m, rfl, _⟩ := h.ex; rfl
  · obtain ⟨p, n, m, rfl, hs, hn, m0, m1, q⟩ := h.ex
    refine ⟨_, PSs.nox (pss_cons (ps_set (i := 2) sc_L_drawn.nd rfl (Or.inl rfl) (pe_op op_add pe_int (pe_cal C_L_pour (hr.mono (by decide)) (pa_cons (pv 0) (pa_cons (pv 1) pa_nil)))))
      (pss_one (ps_ret (pe_ifExp (pt_cmp (pc_eqI (pe_cal C_L_pour (hr.mono (by decide)) (pa_cons (pv 0) (pa_cons pe_int pa_nil))) pe_int)) (pv 2) (pe_un un_neg (pv 2)))))), ?_⟩
    refine ⟨_, rfl, _, rfl, take_of hs (by omega) m0 (Int.lt_trans (by omega : m < 1000001) (by decide +kernel)) fun t H2 t0 t1 k2 s2 _ => ?_⟩
    refine ⟨_, _, rfl, rfl, ?_⟩
    refine ⟨_, rfl, take_of s2 (by omega) (by decide) (by decide +kernel) fun r H3 r0 r1 k3 s3 _ => ?_⟩
    refine ⟨_, _, rfl, rfl, _, rfl, ifd (fun h => ?_) (fun h => ?_)⟩
    · exact ⟨_, rfl, q _ _ (by omega) (by omega) (k2.trans k3) s3⟩
    · exact ⟨_, rfl, _, rfl, q (-(1 + t)) _ (by omega) (by omega) (k2.trans k3) s3⟩
structure KPairP (vs : List V) (H : Hp) (Q : VK) : Prop where
  ex : ∃ (p : Addr) (n : Nat), vs = [.ref p] ∧ Sk p n H ∧ n ≤ 800000 ∧ ∀ (a b : Int) (t : Addr) (H' : Hp), a ≠ 0 → b ≠ 0 → a.natAbs ≤ 100 → b.natAbs ≤ 100 → Keep p H H' → Sk p (n + 5) H' → H' t = some (.tup [.int a, .int b]) → Q (.ref t) H'
def spKPair : Sp := fun vs H Q _ => KPairP vs H Q
theorem ok_pair (F : FnD K "_law_pair" "_law_pair" s_L_pair f fd) (T : Glob mg) (C_L_of : Cal P w K mg base 2 "_law_of" ["_law_jug_here", "_law_items"] (spOneOf K)) (C_L_drawn : Cal P w K mg base 2 "_law_drawn" ["_law_jug_here", "_law_most"] spDraw) : FnOk P w K mg base CX0 3 f fd ["_law_jug_here"] spKPair := by
  refine F.ok sc_L_pair (fun vs H Q E h => ?_) (fun cdv A outer s H vs Q E hr h => ?_)
  · obtain ⟨p, n, rfl, _⟩ := h.ex; rfl
  · obtain ⟨p, n, rfl, hs, hn, q⟩ := h.ex
    refine ⟨_, PSs.nox (pss_cons (ps_set (i := 1) sc_L_pair.nd rfl (Or.inl rfl) (pe_cal C_L_of (hr.mono (by decide)) (pa_cons (pv 0) (pa_cons (pe_lst (pa_cons pe_int (pa_cons pe_int (pa_cons pe_int (pa_cons pe_int (pa_cons pe_int (pa_cons pe_int (pa_cons pe_int pa_nil)))))))) pa_nil))))
      (pss_one (ps_ret (pe_tup (pa_cons (pe_cal C_L_drawn (hr.mono (by decide)) (pa_cons (pv 0) (pa_cons (pv 1) pa_nil))) (pa_cons (pe_cal C_L_drawn (hr.mono (by decide)) (pa_cons (pv 0) (pa_cons (pv 1) pa_nil))) pa_nil)))))), ?_⟩
    refine ⟨_, rfl, (by show 7 ≤ sizeLine; decide), fun b hb => one_of_new hs (by omega) hb (by show 1 ≤ 7; decide) (by show 7 ≤ 1000000; decide) fun x H1 hv k1 s1 => ?_⟩
    obtain ⟨u, rfl, u0, u1⟩ : ∃ u : Int, x = .int u ∧ 1 ≤ u ∧ u ≤ 100 := by
      have c : x = .int 3 ∨ x = .int 7 ∨ x = .int 12 ∨ x = .int 30 ∨ x = .int 100 := by simpa using hv
      rcases c with e | e | e | e | e <;> exact ⟨_, e, by omega, by omega⟩
    have k1 : Keep p H H1 := k1
    refine ⟨_, rfl, _, rfl, ⟨p, n + 1, u, rfl, s1, by omega, u0, by omega, fun a H2 a0 a1 k2 s2 => ?_⟩⟩
    refine ⟨_, rfl, _, rfl, ⟨p, n + 1 + 2, u, rfl, s2, by omega, u0, by omega, fun b2 H3 b0 b1 k3 s3 => ?_⟩⟩
    exact ⟨(by show 2 ≤ sizeLine; decide), fun t ht => q a b2 t _ a0 b0 (by omega) (by omega) (((k1.trans k2).trans k3).trans (Keep.new ht)) (s3.same (same_upd ht)) upd_same⟩
end
end Sf

namespace Sf
open PySem PySem.Spec PyProof.Rows L2
/-! ### signs multiply -/
def par2 (s t : Nat) (u v : Int) : Int := (u - 1) / 2 * ((v - 1) / 2) + s * ((v * v - 1) / 8) + t * ((u * u - 1) / 8)
theorem sgn2 (s t : Nat) (u v : Int) : sgnAt 2 s t u v = if par2 s t u v % 2 = 1 then -1 else 1 := rfl
theorem e_mul {v w : Int} (hv : v % 2 = 1) (hw : w % 2 = 1) : ((v * w - 1) / 2) % 2 = ((v - 1) / 2 + (w - 1) / 2) % 2 := by
  have h1 : v = 2 * ((v - 1) / 2) + 1 := by omega
  have h2 : w = 2 * ((w - 1) / 2) + 1 := by omega
  generalize (v - 1) / 2 = k at h1 ⊢
  generalize (w - 1) / 2 = l at h2 ⊢
  have e : v * w = 4 * (k * l) + 2 * k + 2 * l + 1 := by rw [h1, h2]; grind
  omega
theorem w_mul {v w : Int} (hv : v % 2 = 1) (hw : w % 2 = 1) : ((v * w * (v * w) - 1) / 8) % 2 = ((v * v - 1) / 8 + (w * w - 1) / 8) % 2 := by
  have s1 := odd_sq8 (w := v) (by omega)
  have s2 := odd_sq8 (w := w) (by omega)
  have h1 : v * v = 8 * ((v * v - 1) / 8) + 1 := by omega
  have h2 : w * w = 8 * ((w * w - 1) / 8) + 1 := by omega
  generalize (v * v - 1) / 8 = k at h1 ⊢
  generalize (w * w - 1) / 8 = l at h2 ⊢
  have e : v * w * (v * w) = (v * v) * (w * w) := by grind
  have e2 : v * w * (v * w) = 64 * (k * l) + 8 * k + 8 * l + 1 := by rw [e, h1, h2]; grind
  omega
theorem par2_mul {s t t' : Nat} {u v w : Int} (hv : v % 2 = 1) (hw : w % 2 = 1) : par2 s (t + t') u (v * w) % 2 = (par2 s t u v + par2 s t' u w) % 2 := by
  unfold par2
  have h1 := par_mul ((u - 1) / 2) ((v * w - 1) / 2) ((u - 1) / 2) _ rfl (e_mul hv hw)
  have h2 := par_mul (s : Int) ((v * w * (v * w) - 1) / 8) (s : Int) _ rfl (w_mul hv hw)
  rw [Int.mul_add] at h1 h2
  have h3 : ((t + t' : Nat) : Int) * ((u * u - 1) / 8) = t * ((u * u - 1) / 8) + t' * ((u * u - 1) / 8) := by rw [Int.natCast_add, Int.add_mul]
  omega
theorem sgn_mul2 {s t t' : Nat} {u v w : Int} (hv : v % 2 = 1) (hw : w % 2 = 1) : sgnAt 2 s (t + t') u (v * w) = sgnAt 2 s t u v * sgnAt 2 s t' u w := by
  rw [sgn2, sgn2, sgn2]
  have h := par2_mul (s := s) (t := t) (t' := t') (u := u) hv hw
  by_cases c1 : par2 s t u v % 2 = 1 <;> by_cases c2 : par2 s t' u w % 2 = 1
  · rw [if_pos c1, if_pos c2, if_neg (by omega)]; rfl
  · rw [if_pos c1, if_neg c2, if_pos (by omega)]; rfl
  · rw [if_neg c1, if_pos c2, if_pos (by omega)]; rfl
  · rw [if_neg c1, if_neg c2, if_neg (by omega)]; rfl
theorem sgn_mul_odd {q : Nat} (h3 : 3 ≤ q) (he : euler q = true) (hp : PrP q) {s t t' : Nat} {u v w : Int} (hu : u % (q : Int) ≠ 0) : sgnAt q s (t + t') u (v * w) = sgnAt q s t u v * sgnAt q s t' u w := by
  have n2 : ¬ (q : Int) = 2 := by omega
  have m1 : (-1 : Int) % (q : Int) ≠ 0 := fun z => prime_one hp ((Int.dvd_neg).mp (Int.dvd_of_emod_eq_zero z))
  have r1 := rest_unit m1
  have r2 := rest_unit hu
  unfold sgnAt
  rw [if_neg n2, if_neg n2, if_neg n2, sign_mul h3 he hp]
  have k1 : s * (t + t') % 2 = (s % 2) * ((t % 2 + t' % 2) % 2) % 2 := by rw [Nat.mul_mod, Nat.add_mod]
  have k2 : s * t % 2 = (s % 2) * (t % 2) % 2 := by rw [Nat.mul_mod]
  have k3 : s * t' % 2 = (s % 2) * (t' % 2) % 2 := by rw [Nat.mul_mod]
  have k4 : (t + t') % 2 = (t % 2 + t' % 2) % 2 := Nat.add_mod _ _ _
  rw [k1, k2, k3, k4]
  generalize restSign (-1) (q : Int) = A at r1 ⊢
  generalize restSign u (q : Int) = B at r2 ⊢
  generalize restSign v (q : Int) = C
  generalize restSign w (q : Int) = D
  have d1 : s % 2 = 0 ∨ s % 2 = 1 := by omega
  have d2 : t % 2 = 0 ∨ t % 2 = 1 := by omega
  have d3 : t' % 2 = 0 ∨ t' % 2 = 1 := by omega
  have g1 : A * B * C * (A * B * D) = C * D := by
    have : A * B * C * (A * B * D) = (A * A) * (B * B) * (C * D) := by clear r1 r2 k1 k2 k3 k4 d1 d2 d3; grind
    rw [this, r1, r2]; simp
  clear k1 k2 k3 k4 h3 he hp hu n2 m1
  rcases d1 with e1 | e1 <;> rcases d2 with e2 | e2 <;> rcases d3 with e3 | e3 <;> rw [e1, e2, e3] <;> simp <;> clear e1 e2 e3 <;> grind
def GoodPl (p : Int) : Prop := p = 0 ∨ (PrP p ∧ (p = 2 ∨ ∃ q : Nat, p = q ∧ 3 ≤ q ∧ euler q = true))
theorem hsign_mul {a b c p r1 r2 : Int} (hp : GoodPl p) (b0 : b ≠ 0) (c0 : c ≠ 0) (h1 : HSign a b p r1) (h2 : HSign a c p r2) : HSign a (b * c) p (r1 * r2) := by
  rcases hp with p0 | ⟨hp, he⟩
  · have f1 : r1 = if a < 0 ∧ b < 0 then -1 else 1 := by
      rcases h1 with ⟨_, e⟩ | ⟨n, _⟩
      · exact e
      · exact absurd p0 n
    have f2 : r2 = if a < 0 ∧ c < 0 then -1 else 1 := by
      rcases h2 with ⟨_, e⟩ | ⟨n, _⟩
      · exact e
      · exact absurd p0 n
    refine .inl ⟨p0, ?_⟩
    rw [f1, f2]
    rcases Int.lt_or_gt_of_ne b0 with b1 | b1 <;> rcases Int.lt_or_gt_of_ne c0 with c1 | c1
    · have : 0 < b * c := Int.mul_pos_of_neg_of_neg b1 c1
      by_cases a1 : a < 0
      · rw [if_pos ⟨a1, b1⟩, if_pos ⟨a1, c1⟩, if_neg (by omega)]; rfl
      · rw [if_neg (fun z => a1 z.1), if_neg (fun z => a1 z.1), if_neg (fun z => a1 z.1)]; rfl
    · have : b * c < 0 := Int.mul_neg_of_neg_of_pos b1 c1
      by_cases a1 : a < 0
      · rw [if_pos ⟨a1, b1⟩, if_neg (by omega), if_pos (by omega)]; rfl
      · rw [if_neg (fun z => a1 z.1), if_neg (fun z => a1 z.1), if_neg (fun z => a1 z.1)]; rfl
    · have : b * c < 0 := Int.mul_neg_of_pos_of_neg b1 c1
      by_cases a1 : a < 0
      · rw [if_pos (by omega : a < 0 ∧ c < 0), if_neg (by omega), if_pos (by omega)]; rfl
      · rw [if_neg (fun z => a1 z.1), if_neg (fun z => a1 z.1), if_neg (fun z => a1 z.1)]; rfl
    · have : 0 < b * c := Int.mul_pos b1 c1
      rw [if_neg (by omega), if_neg (by omega), if_neg (by omega)]; rfl
  · have p2 := hp.1
    obtain ⟨p0, s, t, u, v, g1, g2, e1⟩ := h1.resolve_left (fun z => by omega)
    obtain ⟨_, s', t', u', v', k1, k2, e2⟩ := h2.resolve_left (fun z => by omega)
    obtain ⟨es, eu⟩ := strip_unique hp k1 g1
    subst es eu
    refine .inr ⟨p0, s', t + t', u', v * v', k1, ?_, ?_⟩
    · constructor
      · rw [g2.1, k2.1, Int.pow_add]
        grind
      · intro z
        rcases prime_mul hp (Int.dvd_of_emod_eq_zero z) with d | d
        · exact g2.2 (Int.emod_eq_zero_of_dvd d)
        · exact k2.2 (Int.emod_eq_zero_of_dvd d)
    · rw [e1, e2]
      rcases he with e | ⟨q, e, h3, h4⟩
      · subst e
        have h5 := g2.2
        have h6 := k2.2
        exact (sgn_mul2 (by omega) (by omega)).symm
      · subst e
        exact (sgn_mul_odd h3 h4 hp k1.2).symm
theorem hsign_sq {a b p r : Int} (hp : p = 0 ∨ PrP p) (h : HSign a b p r) : r = 1 ∨ r = -1 := by
  rcases h with ⟨_, e⟩ | ⟨p0, s, t, u, v, g1, g2, e⟩
  · rw [e]; split
    · exact .inr rfl
    · exact .inl rfl
  · have hp := hp.resolve_left p0
    have pm : ∀ x : Int, x * x = 1 → x = 1 ∨ x = -1 := fun x h => by
      have : x.natAbs * x.natAbs = 1 := by rw [← Int.natAbs_mul, h]; rfl
      have := Nat.eq_one_of_mul_eq_one_left this
      omega
    apply pm
    rw [e]
    unfold sgnAt
    split
    · split <;> rfl
    · have m1 : (-1 : Int) % p ≠ 0 := fun z => prime_one hp ((Int.dvd_neg).mp (Int.dvd_of_emod_eq_zero z))
      have r1 := rest_unit m1
      have r2 := rest_unit g1.2
      have r3 := rest_unit g2.2
      have q1 : (if s * t % 2 = 1 then restSign (-1) p else 1) * (if s * t % 2 = 1 then restSign (-1) p else 1) = 1 := by split <;> simp_all
      have q2 : (if t % 2 = 1 then restSign u p else 1) * (if t % 2 = 1 then restSign u p else 1) = 1 := by split <;> simp_all
      have q3 : (if s % 2 = 1 then restSign v p else 1) * (if s % 2 = 1 then restSign v p else 1) = 1 := by split <;> simp_all
      grind
/-! ### pairs with the sign 1 everywhere -/
theorem rest_one {n p : Int} (hp : 2 < p) (h : n % p = 1) : restSign n p = 1 := by
  unfold restSign
  rw [if_neg (by omega), if_neg (by omega), ← pow_mod, h, Int.one_pow, if_pos (Int.emod_eq_of_lt (by decide) (by omega))]
theorem hs_one {b p r : Int} (hp : p = 0 ∨ PrP p) (h : HSign 1 b p r) : r = 1 := by
  rcases h with ⟨_, e⟩ | ⟨p0, s, t, u, v, g1, g2, e⟩
  · rw [e]; rfl
  · have hp := hp.resolve_left p0
    have p2 := hp.1
    have z := strip_unique hp g1 (show Strip 1 p 0 1 from ⟨by rw [Int.pow_zero]; rfl, by rw [Int.emod_eq_of_lt (by decide) (by omega)]; decide⟩)
    rw [e, z.1, z.2]
    unfold sgnAt
    by_cases c : p = 2
    · rw [if_pos c, if_neg (by simp)]
    · rw [if_neg c, rest_one (by omega) (Int.emod_eq_of_lt (by decide) (by omega))]
      simp
theorem hs_neg {a p r : Int} (hp : GoodPl p) (a0 : a ≠ 0) (h : HSign a (-a) p r) : r = 1 := by
  rcases hp with p0 | ⟨hp, he⟩
  · rcases h with ⟨_, e⟩ | ⟨n, _⟩
    · rw [e, if_neg (by omega)]
    · exact absurd p0 n
  · have p2 := hp.1
    obtain ⟨p0, s, t, u, v, g1, g2, e⟩ := h.resolve_left (fun z => by omega)
    have hn : Strip (-a) p s (-u) := ⟨by rw [g1.1, Int.mul_neg], fun z => g1.2 (Int.emod_eq_zero_of_dvd ((Int.dvd_neg).mp (Int.dvd_of_emod_eq_zero z)))⟩
    obtain ⟨e1, e2⟩ := strip_unique hp g2 hn
    rw [e, e1, e2]
    rcases he with c | ⟨q, c, h3, h4⟩
    · subst c
      rw [sgn2, if_neg ?_]
      unfold par2
      have hu := g1.2
      have h1 : u = 2 * ((u - 1) / 2) + 1 := by omega
      have h2 : (-u - 1) / 2 = -((u - 1) / 2) - 1 := by omega
      rw [h2, Int.neg_mul_neg]
      generalize (u - 1) / 2 = k
      have : (k * (-k - 1)) % 2 = 0 := by
        rcases (by omega : k % 2 = 0 ∨ k % 2 = 1) with c | c
        · have := par_mul k (-k - 1) 0 (-k - 1) (by omega) rfl
          omega
        · have := par_mul k (-k - 1) k 0 rfl (by omega)
          omega
      omega
    · subst c
      have n2 : ¬ (q : Int) = 2 := by omega
      have m1 : (-1 : Int) % (q : Int) ≠ 0 := fun z => prime_one hp ((Int.dvd_neg).mp (Int.dvd_of_emod_eq_zero z))
      have r1 := rest_unit m1
      have r2 := rest_unit g1.2
      unfold sgnAt
      rw [if_neg n2]
      have en : -u = (-1) * u := by omega
      rw [en, sign_mul h3 h4 hp]
      have k2 : s * s % 2 = (s % 2) * (s % 2) % 2 := by rw [Nat.mul_mod]
      rw [k2]
      rcases (by omega : s % 2 = 0 ∨ s % 2 = 1) with c | c
      · rw [c]; simp
      · rw [c]; simp; grind
theorem hs_even {b p r : Int} (hp : p = 0 ∨ PrP p) (b0 : b ≠ 0) (b1 : b ≠ 1) (hb : p = 2 → b % 2 = 0) (h : HSign b (1 - b) p r) : r = 1 := by
  rcases h with ⟨_, e⟩ | ⟨p0, s, t, u, v, g1, g2, e⟩
  · rw [e, if_neg (by omega)]
  · have hp := hp.resolve_left p0
    have p2 := hp.1
    by_cases c : p = 2
    · subst c
      have hb := hb rfl
      have z2 := strip_unique hp g2 (show Strip (1 - b) 2 0 (1 - b) from ⟨by rw [Int.pow_zero, Int.one_mul], by omega⟩)
      rw [e, z2.1, z2.2, sgn2, if_neg ?_]
      unfold par2
      have hu := g1.2
      have e1 := g1.1
      rcases s with _ | _ | _ | s
      · rw [Int.pow_zero, Int.one_mul] at e1
        omega
      · have eb : b = 2 * u := by rw [e1]; rfl
        rw [eb]
        have h1 : u = 2 * ((u - 1) / 2) + 1 := by omega
        generalize (u - 1) / 2 = k at h1 ⊢
        have f1 : (1 - 2 * u - 1) / 2 = -u := by omega
        have f2 : ((1 - 2 * u) * (1 - 2 * u) - 1) / 8 = 2 * (k * k) + k := by
          have : (1 - 2 * u) * (1 - 2 * u) = 8 * (2 * (k * k) + k) + 1 := by rw [h1]; grind
          omega
        rw [f1, f2, h1]
        have f3 : k * -(2 * k + 1) = -(2 * (k * k)) - k := by grind
        rw [f3]
        omega
      · have eb : b = 4 * u := by rw [e1]; rfl
        rw [eb]
        have f1 : (1 - 4 * u - 1) / 2 = 2 * (-u) := by omega
        rw [f1]
        have f2 : (u - 1) / 2 * (2 * -u) = 2 * ((u - 1) / 2 * -u) := by grind
        rw [f2]
        omega
      · have eb : b = 8 * (2 ^ s * u) := by rw [e1, Int.pow_succ, Int.pow_succ, Int.pow_succ]; grind
        generalize 2 ^ s * u = m at eb
        rw [eb]
        have f1 : (1 - 8 * m - 1) / 2 = 2 * (-(2 * m)) := by omega
        have f2 : ((1 - 8 * m) * (1 - 8 * m) - 1) / 8 = 2 * (4 * (m * m) - m) := by
          have : (1 - 8 * m) * (1 - 8 * m) = 16 * (4 * (m * m) - m) + 1 := by grind
          omega
        rw [f1, f2]
        have f3 : (u - 1) / 2 * (2 * -(2 * m)) = 2 * ((u - 1) / 2 * -(2 * m)) := by grind
        have f4 : ((s + 1 + 1 + 1 : Nat) : Int) * (2 * (4 * (m * m) - m)) = 2 * (((s + 1 + 1 + 1 : Nat) : Int) * (4 * (m * m) - m)) := by grind
        rw [f3, f4]
        omega
    · have p3 : 2 < p := by omega
      rw [e]
      unfold sgnAt
      rw [if_neg c]
      by_cases d1 : b % p = 0
      · have d2 : (1 - b) % p = 1 := by
          have := Int.dvd_of_emod_eq_zero d1
          obtain ⟨k, hk⟩ := this
          rw [hk, Int.sub_eq_add_neg, ← Int.mul_neg, Int.add_mul_emod_self_left]
          exact Int.emod_eq_of_lt (by decide) (by omega)
        have z2 := strip_unique hp g2 (show Strip (1 - b) p 0 (1 - b) from ⟨by rw [Int.pow_zero, Int.one_mul], by rw [d2]; decide⟩)
        rw [z2.1, z2.2, rest_one p3 d2]
        simp
      · have z1 := strip_unique hp g1 (show Strip b p 0 b from ⟨by rw [Int.pow_zero, Int.one_mul], d1⟩)
        rw [z1.1, z1.2]
        by_cases d2 : (1 - b) % p = 0
        · have d3 : b % p = 1 := by
            obtain ⟨k, hk⟩ := Int.dvd_of_emod_eq_zero d2
            have : b = 1 + p * (-k) := by rw [Int.mul_neg]; omega
            rw [this, Int.add_mul_emod_self_left]
            exact Int.emod_eq_of_lt (by decide) (by omega)
          rw [rest_one p3 d3]
          simp
        · have z2 := strip_unique hp g2 (show Strip (1 - b) p 0 (1 - b) from ⟨by rw [Int.pow_zero, Int.one_mul], d2⟩)
          rw [z2.1]
          simp
theorem hs_flip {b p r : Int} (hp : p = 0 ∨ PrP p) (b0 : b ≠ 0) (b1 : b ≠ 1) (h : HSign b (1 - b) p r) : r = 1 := by
  by_cases c : b % 2 = 0
  · exact hs_even hp b0 b1 (fun _ => c) h
  · have e : b = 1 - (1 - b) := by omega
    refine hs_even (b := 1 - b) hp (by omega) (by omega) (fun _ => by omega) ?_
    rw [← e]
    exact hsign_comm h
end Sf

namespace Sf
open PySem PySem.Spec PyProof.Rows L2
/-! Fermat's little theorem by the residues that a multiplication exchanges; residue signs multiply for every prime -/
theorem perm_sub : ∀ {l m : List Int}, l.Nodup → m.Nodup → (∀ x ∈ l, x ∈ m) → m.length ≤ l.length → l.Perm m
  | [], m, _, _, _, h => by
    have : m = [] := List.eq_nil_of_length_eq_zero (by simpa using h)
    rw [this]
  | x :: l, m, hl, hm, hs, h => by
    have hx := hs x List.mem_cons_self
    have p := List.perm_cons_erase hx
    have hl' := List.nodup_cons.mp hl
    refine (List.Perm.cons x (perm_sub hl'.2 (hm.erase x) (fun y hy => ?_) ?_)).trans p.symm
    · have ne : y ≠ x := fun z => hl'.1 (z ▸ hy)
      exact (List.mem_erase_of_ne ne).mpr (hs y (List.mem_cons_of_mem _ hy))
    · rw [List.length_erase_of_mem hx]
      have := h
      rw [List.length_cons] at this
      omega
def prL (l : List Int) : Int := l.foldr (· * ·) 1
theorem prL_perm {l m : List Int} (h : l.Perm m) : prL l = prL m := by
  induction h with
  | nil => rfl
  | cons x _ ih => show x * prL _ = x * prL _; rw [ih]
  | swap x y l =>
    show y * (x * prL l) = x * (y * prL l)
    rw [← Int.mul_assoc, ← Int.mul_assoc, Int.mul_comm y x]
  | trans _ _ h1 h2 => exact h1.trans h2
theorem prL_mod (a p : Int) : ∀ l : List Int, prL (l.map fun x => a * x % p) % p = a ^ l.length * prL l % p
  | [] => by
    show (1 : Int) % p = a ^ 0 * 1 % p
    rw [Int.pow_zero, Int.mul_one]
  | x :: l => by
    show (a * x % p) * prL (l.map fun x => a * x % p) % p = a ^ (l.length + 1) * (x * prL l) % p
    rw [Int.mul_emod, prL_mod a p l, Int.emod_emod, ← Int.mul_emod, Int.pow_succ]
    congr 1
    grind
theorem prL_prime {p : Int} (hp : PrP p) : ∀ {l : List Int}, (∀ x ∈ l, ¬ p ∣ x) → ¬ p ∣ prL l
  | [], _ => prime_one hp
  | x :: l, h => fun z => by
    rcases prime_mul hp (show p ∣ x * prL l from z) with y | y
    · exact h x List.mem_cons_self y
    · exact prL_prime hp (fun x hx => h x (List.mem_cons_of_mem _ hx)) y
def resL (p : Nat) : List Int := (List.range' 1 (p - 1)).map fun x : Nat => (x : Int)
theorem resL_mem {p : Nat} (hp : 1 ≤ p) {x : Int} : x ∈ resL p ↔ 1 ≤ x ∧ x < p := by
  unfold resL
  rw [List.mem_map]
  constructor
  · rintro ⟨y, hy, rfl⟩
    have := List.mem_range'_1.mp hy
    omega
  · rintro ⟨h1, h2⟩
    exact ⟨x.toNat, List.mem_range'_1.mpr (by omega), by omega⟩
theorem resL_nodup (p : Nat) : (resL p).Nodup := by
  unfold resL
  refine List.pairwise_map.mpr (List.Pairwise.imp (fun {a b : Nat} (h : a ≠ b) (e : (a : Int) = b) => h (by omega)) (List.nodup_range' (s := 1) (n := p - 1)))
theorem small_dvd {p x : Int} (h : p ∣ x) (h1 : -p < x) (h2 : x < p) : x = 0 := by
  obtain ⟨k, rfl⟩ := h
  have hp : 0 < p := by omega
  by_cases k0 : k = 0
  · rw [k0, Int.mul_zero]
  · exfalso
    by_cases kp : 0 < k
    · have : p * 1 ≤ p * k := Int.mul_le_mul_of_nonneg_left (by omega) (by omega)
      omega
    · have : p * k ≤ p * (-1) := Int.mul_le_mul_of_nonneg_left (by omega) (by omega)
      omega
theorem fermat {p : Nat} (hp : PrP (p : Int)) {a : Int} (ha : ¬ (p : Int) ∣ a) : a ^ (p - 1) % (p : Int) = 1 := by
  have p2 := hp.1
  have hf : ∀ x ∈ resL p, ¬ (p : Int) ∣ x := fun x hx z => by
    have h := (resL_mem (by omega)).mp hx
    have := small_dvd z (by omega) h.2
    omega
  have nd : ((resL p).map fun x => a * x % (p : Int)).Nodup := by
    refine List.pairwise_map.mpr (List.Pairwise.imp_of_mem (fun {x y} hx hy ne e => ne ?_) (resL_nodup p))
    have h1 := (resL_mem (by omega)).mp hx
    have h2 := (resL_mem (by omega)).mp hy
    have d : (p : Int) ∣ a * (x - y) := by
      rw [Int.mul_sub]
      exact Int.dvd_of_emod_eq_zero (Int.emod_eq_emod_iff_emod_sub_eq_zero.mp e)
    rcases prime_mul hp d with z | z
    · exact absurd z ha
    · have := small_dvd z (by omega) (by omega)
      omega
  have sub : ∀ y ∈ (resL p).map fun x => a * x % (p : Int), y ∈ resL p := fun y hy => by
    obtain ⟨x, hx, rfl⟩ := List.mem_map.mp hy
    have h3 := Int.emod_nonneg (a * x) (by omega : (p : Int) ≠ 0)
    have h4 := Int.emod_lt_of_pos (a * x) (by omega : (0 : Int) < p)
    refine (resL_mem (by omega)).mpr ⟨?_, h4⟩
    by_cases z : a * x % (p : Int) = 0
    · rcases prime_mul hp (Int.dvd_of_emod_eq_zero z) with y | y
      · exact absurd y ha
      · exact absurd y (hf x hx)
    · omega
  have pm := perm_sub nd (resL_nodup p) sub (by rw [List.length_map]; exact Nat.le_refl _)
  have e := prL_mod a p (resL p)
  rw [prL_perm pm] at e
  have len : (resL p).length = p - 1 := by unfold resL; rw [List.length_map, List.length_range']
  rw [len] at e
  have d : (p : Int) ∣ (a ^ (p - 1) - 1) * prL (resL p) := by
    rw [Int.sub_mul, Int.one_mul]
    exact Int.dvd_of_emod_eq_zero (Int.emod_eq_emod_iff_emod_sub_eq_zero.mp e.symm)
  rcases prime_mul hp d with z | z
  · have h := Int.emod_eq_emod_iff_emod_sub_eq_zero.mpr (Int.emod_eq_zero_of_dvd z)
    rw [h]
    exact Int.emod_eq_of_lt (by omega) (by omega)
  · exact absurd z (prL_prime hp hf)
/-- a power by half of p - 1 leaves 1 or p - 1 -/
theorem half_two {p : Nat} (hp : PrP (p : Int)) (h3 : p ≠ 2) {a : Int} (ha : a % (p : Int) ≠ 0) : a ^ ((p - 1) / 2) % (p : Int) = 1 ∨ a ^ ((p - 1) / 2) % (p : Int) = p - 1 := by
  have p2 := hp.1
  have odd : p % 2 = 1 := by
    have h := hp.2 2 (by omega)
    by_cases z : p % 2 = 1
    · exact z
    · exact absurd (by omega) (h (by omega))
  have f := fermat hp (fun z => ha (Int.emod_eq_zero_of_dvd z))
  have e : p - 1 = (p - 1) / 2 + (p - 1) / 2 := by omega
  rw [e, Int.pow_add] at f
  generalize a ^ ((p - 1) / 2) = c at f ⊢
  have d : (p : Int) ∣ (c - 1) * (c + 1) := by
    have h : c * c % (p : Int) = 1 % (p : Int) := by rw [f, Int.emod_eq_of_lt (by omega) (by omega)]
    have g := Int.dvd_of_emod_eq_zero (Int.emod_eq_emod_iff_emod_sub_eq_zero.mp h)
    have ee : (c - 1) * (c + 1) = c * c - 1 := by grind
    rw [ee]
    exact g
  rcases prime_mul hp d with z | z
  · left
    have h := Int.emod_eq_emod_iff_emod_sub_eq_zero.mpr (Int.emod_eq_zero_of_dvd z)
    rw [h]
    exact Int.emod_eq_of_lt (by omega) (by omega)
  · right
    have h : c % (p : Int) = (-1) % (p : Int) := Int.emod_eq_emod_iff_emod_sub_eq_zero.mpr (Int.emod_eq_zero_of_dvd (by
      have ee : c - -1 = c + 1 := by omega
      rw [ee]
      exact z))
    have m1 : (-1 : Int) % (p : Int) = p - 1 := by
      have e1 : (-1 : Int) % (p : Int) = (-1 + p * 1) % (p : Int) := (Int.add_mul_emod_self_left ..).symm
      rw [e1, Int.emod_eq_of_lt (by omega) (by omega)]
      omega
    rw [h, m1]
/-- residue signs multiply, for every prime -/
theorem sign_all {p : Int} (hq : PrP p) (a b : Int) : restSign (a * b) p = restSign a p * restSign b p := by
  by_cases h2 : p = 2
  · rw [h2]
    exact sign_mul2 a b
  obtain ⟨n, rfl⟩ : ∃ n : Nat, p = n := ⟨p.toNat, by have := hq.1; omega⟩
  have p2 := hq.1
  have n2 : n ≠ 2 := fun z => h2 (by rw [z]; rfl)
  unfold restSign
  by_cases ha : a % (n : Int) = 0
  · have hab : a * b % (n : Int) = 0 := Int.emod_eq_zero_of_dvd (Int.dvd_mul_of_dvd_left (Int.dvd_of_emod_eq_zero ha))
    rw [if_pos ha, if_pos hab, Int.zero_mul]
  by_cases hb : b % (n : Int) = 0
  · have hab : a * b % (n : Int) = 0 := Int.emod_eq_zero_of_dvd (Int.dvd_mul_of_dvd_right (Int.dvd_of_emod_eq_zero hb))
    rw [if_pos hb, if_pos hab, Int.mul_zero]
  have hab : ¬ a * b % (n : Int) = 0 := fun z => by
    rcases prime_mul hq (Int.dvd_of_emod_eq_zero z) with y | y
    · exact ha (Int.emod_eq_zero_of_dvd y)
    · exact hb (Int.emod_eq_zero_of_dvd y)
  rw [if_neg ha, if_neg hb, if_neg hab, if_neg h2, if_neg h2, if_neg h2, half_cast n (by omega)]
  have e1 := half_two hq n2 ha
  have e2 := half_two hq n2 hb
  have pm : (a * b) ^ ((n - 1) / 2) % (n : Int) = ((a ^ ((n - 1) / 2) % (n : Int)) * (b ^ ((n - 1) / 2) % (n : Int))) % (n : Int) := by rw [Int.mul_pow, Int.mul_emod]
  have q1 : ((n : Int) - 1) * ((n : Int) - 1) % (n : Int) = 1 := by
    have : ((n : Int) - 1) * ((n : Int) - 1) = 1 + n * (n - 2) := by grind
    rw [this, Int.add_mul_emod_self_left]
    exact Int.emod_eq_of_lt (by omega) (by omega)
  have q2 : ((n : Int) - 1) % (n : Int) = n - 1 := Int.emod_eq_of_lt (by omega) (by omega)
  have q3 : (1 : Int) % (n : Int) = 1 := Int.emod_eq_of_lt (by omega) (by omega)
  have n1 : ¬ ((n : Int) - 1) = 1 := by omega
  rw [pm]
  rcases e1 with e1 | e1 <;> rcases e2 with e2 | e2 <;> rw [e1, e2]
  · rw [Int.one_mul, q3]; rfl
  · rw [Int.one_mul, q2, if_neg n1]; rfl
  · rw [Int.mul_one, q2, if_neg n1]; rfl
  · rw [q1, if_neg n1]; rfl
/-- the sign of a square that the prime doesn't divide -/
theorem sign_sq {p : Int} (hq : PrP p) {a : Int} (ha : a % p ≠ 0) : restSign (a * a) p = 1 := by
  rw [sign_all hq, rest_unit ha]
end Sf

namespace Sf
open PySem PySem.Spec PyProof.Rows L2
section
variable {X : Cx}
theorem gcd_args3 (a b c : Value) : argsOk "math.gcd" ⟨[a, b, c], []⟩ := by unfold argsOk; kernel_rfl
theorem gcd_run3 (a b c : Int) (ta tb tc : Tok) : Gives (Builtin.«math.gcd» ⟨[.int a ta, .int b tb, .int c tc], []⟩) (.int ((((Nat.gcd 0 a.natAbs).gcd b.natAbs).gcd c.natAbs : Nat) : Int)) :=
  .of_wp fun M A E s Q h => by
    obtain ⟨hp, g, d, tk, os⟩ := s
    wp_walk
    exact ⟨_, rfl, h⟩
/-- gcd of three integers -/
def rGcd3 : List V → Hp → VK → Prop := fun vs H Q => ∃ a b c : Int, vs = [.int a, .int b, .int c] ∧ Q (.int (((a.natAbs.gcd b.natAbs).gcd c.natAbs : Nat) : Int)) H
theorem cr_gcd3 : CallR X (.builtin "math.gcd") rGcd3 := by
  intro pins s σ H xs us Q I r h
  obtain ⟨a, b, c, rfl, q⟩ := h
  cases r with
  | cons r1 r => cases r with
    | cons r2 r => cases r with
      | cons r3 r =>
        cases r
        obtain ⟨t1, rfl⟩ := r1
        obtain ⟨t2, rfl⟩ := r2
        obtain ⟨t3, rfl⟩ := r3
        have g := gcd_run3 a b c t1 t2 t3
        rw [Nat.gcd_zero_left] at g
        exact call_function_meets PySem.W.MGF.kind_gcd PySem.W.MGF.plain_gcd PySem.W.MGF.entry_gcd (gcd_args3 _ _ _) g.meets ⟨.int _, H, I.tok _, ⟨_, rfl⟩, q⟩
/-- the root of an integer, rounded down -/
def rIsqrt : List V → Hp → VK → Prop := fun vs H Q => ∃ n : Nat, vs = [.int n] ∧ n < 2 ^ 60 ∧ Q (.int (PySem.Float64.isqrt n : Nat)) H
theorem cr_isqrt : CallR X (.builtin "math.isqrt") rIsqrt := by
  intro pins s σ H xs us Q I r h
  obtain ⟨n, rfl, hn, q⟩ := h
  cases r with
  | cons r1 r =>
    cases r
    obtain ⟨t1, rfl⟩ := r1
    have l60 : n.log2 < 60 := by
      by_cases z : n = 0
      · rw [z]; decide
      · exact (Nat.log2_lt z).mpr hn
    have g := PySem.W.mg_run_isqrt (n : Int) t1 (by omega) (by rw [Int.toNat_natCast]; omega) (by rw [Int.toNat_natCast]; omega)
    rw [Int.toNat_natCast] at g
    exact call_function_meets PySem.W.MGF.kind_isqrt PySem.W.MGF.plain_isqrt PySem.W.MGF.entry_isqrt (PySem.W.MGF.args_isqrt _) g.meets ⟨.int _, H, I.tok _, ⟨_, rfl⟩, q⟩
end
end Sf

namespace Sf
open PySem PySem.Spec PyProof.Rows L2
/-- whether what is left of a number is a square at a prime -/
def sqU (u p : Int) : Bool := if p = 2 then decide (u % 8 = 1) else decide (restSign u p = 1)
/-- whether a number is a square at a place -/
def SqAt (n p : Int) (r : Bool) : Prop := (p = 0 ∧ r = decide (0 < n)) ∨ (p ≠ 0 ∧ ∃ (m : Nat) (u : Int), Strip n p m u ∧ r = (decide (m % 2 = 0) && sqU u p))
theorem sqAt_uni {n p : Int} (hp : p = 0 ∨ PrP p) {r r' : Bool} (h : SqAt n p r) (h' : SqAt n p r') : r = r' := by
  rcases h with ⟨h1, h2⟩ | ⟨h1, m, u, h2, h3⟩
  · rcases h' with ⟨_, g2⟩ | ⟨g1, _⟩
    · rw [h2, g2]
    · exact absurd h1 g1
  · rcases h' with ⟨g1, _⟩ | ⟨_, m', u', g2, g3⟩
    · exact absurd g1 h1
    · obtain ⟨rfl, rfl⟩ := strip_unique (hp.resolve_left h1) h2 g2
      rw [h3, g3]
section
variable {P : Program} {w : World} {K : PySem.W.Frag} {mg : Str → Option Value} {base : Heap} {f : Addr} {fd : FuncData}
def spSqU : Sp := fun vs H Q _ => ∃ u p : Int, vs = [.int u, .int p] ∧ 2 ≤ p ∧ p.natAbs < 2 ^ 1000 ∧ ∀ H', Same H H' → Q (.bl (sqU u p)) H'
theorem ok_square_unit (F : FnD K "square_unit" "square_unit" s_P_square_unit f fd) (C_P_rest_sign : Cal P w K mg base 2 "rest_sign" ["number", "prime"] spRestSign) : FnOk P w K mg base CX0 3 f fd ["unit", "prime"] spSqU := by
  refine F.ok sc_P_square_unit (fun vs H Q E h => ?_) (fun cdv A outer s H vs Q E hr h => ?_)
  · obtain ⟨u, p, rfl, _⟩ := h; rfl
  · obtain ⟨u, p, rfl, hp, hb, q⟩ := h
    refine ⟨_, PSs.nox (pss_cons (ps_if (pt_cmp (pc_eqI (pv 1) pe_int)) (pss_one (ps_ret (pe_cmp (pc_eqI (pe_op op_mod (pv 0) pe_int) pe_int) rfl))) pss_nil)
      (pss_one (ps_ret (pe_cmp (pc_eqI (pe_cal C_P_rest_sign (hr.mono (by decide)) (pa_cons (pv 0) (pa_cons (pv 1) pa_nil))) pe_int) rfl)))), ?_⟩
    unfold sqU at q
    refine ⟨_, rfl, _, _, rfl, rfl, _, rfl, ifd (fun h => ?_) (fun h => ?_)⟩
    · rw [if_pos h] at q
      exact ⟨_, rfl, _, _, rfl, rfl, (by show (0 : Int) < 8; decide), _, _, rfl, rfl, q H (Same.refl H)⟩
    · rw [if_neg h] at q
      exact ⟨_, rfl, _, rfl, u, p, rfl, hp, hb, fun H1 e1 => ⟨_, _, rfl, rfl, q H1 e1⟩⟩
def spSqAt : Sp := fun vs H Q _ => ∃ n p : Int, vs = [.int n, .int p] ∧ n ≠ 0 ∧ n.natAbs ≤ 1000000000 ∧ (p = 0 ∨ (PrP p ∧ p ≤ 1000000000)) ∧ ∀ (r : Bool) (H' : Hp), SqAt n p r → Same H H' → Q (.bl r) H'
theorem ok_is_square_at (F : FnD K "is_square_at" "is_square_at" s_P_is_square_at f fd) (C_P_check_number : Cal P w K mg base 2 "check_number" ["value"] spCheckNumber) (C_P_check_place : Cal P w K mg base 3 "check_place" ["value"] spCheckPlace) (C_P_stripped : Cal P w K mg base 1 "stripped" ["number", "prime"] spStripped) (C_P_square_unit : Cal P w K mg base 3 "square_unit" ["unit", "prime"] spSqU) : FnOk P w K mg base CX0 4 f fd ["number", "place"] spSqAt := by
  refine F.ok sc_P_is_square_at (fun vs H Q E h => ?_) (fun cdv A outer s H vs Q E hr h => ?_)
  · obtain ⟨n, p, rfl, _⟩ := h; rfl
  · obtain ⟨n, p, rfl, n0, nb, hp, q⟩ := h
    refine ⟨_, PSs.nox (pss_cons (ps_expr (pe_cal C_P_check_number (hr.mono (by decide)) (pa_cons (pv 0) pa_nil)))
      (pss_cons (ps_expr (pe_cal C_P_check_place (hr.mono (by decide)) (pa_cons (pv 1) pa_nil)))
      (pss_cons (ps_if (pt_cmp (pc_eqI (pv 1) pe_int)) (pss_one (ps_ret (pe_cmp (pc_gt (pv 0) pe_int) rfl))) pss_nil)
      (pss_cons (ps_asg (pe_cal C_P_stripped (hr.mono (by decide)) (pa_cons (pv 0) (pa_cons (pv 1) pa_nil))) (pg_tup (by rfl) (pgs_cons (pg_name (i := 2) sc_P_is_square_at.nd rfl (Or.inl rfl)) (pgs_cons (pg_name (i := 3) sc_P_is_square_at.nd rfl (Or.inl rfl)) pgs_nil))))
      (pss_one (ps_ret (pe_and (pe_cmp (pc_eqI (pe_op op_mod (pv 2) pe_int) pe_int) rfl) (pe_one (pe_cal C_P_square_unit (hr.mono (by decide)) (pa_cons (pv 3) (pa_cons (pv 1) pa_nil))))))))))), ?_⟩
    have hp2 : p ≠ 0 → 2 ≤ p ∧ p.natAbs < 2 ^ 1000 := fun h => by
      rcases hp with h' | ⟨h1, h2⟩
      · exact absurd h' h
      · exact ⟨h1.1, Nat.lt_of_le_of_lt (by have := h1.1; omega : p.natAbs ≤ 1000000000) (by decide +kernel)⟩
    refine ⟨_, rfl, ⟨n, rfl, n0, by omega, by omega, ?_⟩⟩
    refine ⟨_, rfl, ⟨p, rfl, hp, ?_⟩⟩
    refine ⟨_, rfl, _, _, rfl, rfl, _, rfl, ifd (fun h => ?_) (fun h => ?_)⟩
    · exact ⟨_, rfl, _, _, rfl, rfl, q _ H (.inl ⟨h, rfl⟩) (Same.refl H)⟩
    · obtain ⟨g1, g2⟩ := hp2 h
      refine ⟨_, rfl, _, rfl, n, p, rfl, n0, g1, Nat.lt_trans g2 (by decide +kernel), fun m u a hS ha => ?_⟩
      refine ⟨a, _, rfl, .inl (.inl upd_same), rfl, _, _, rfl, _, _, rfl, rfl, ?_⟩
      have sa := same_upd (o := .tup [.int (m : Int), .int u]) ha
      have em : decide ((m : Int) % 2 = 0) = decide (m % 2 = 0) := by rw [decide_eq_decide]; omega
      refine ⟨_, rfl, _, _, rfl, rfl, (by show (0 : Int) < 2; decide), _, _, rfl, rfl, _, rfl, ?_⟩
      by_cases c : m % 2 = 0
      · refine (if_pos (by show decide ((m : Int) % 2 = 0) = true; rw [em]; exact decide_eq_true c)).mpr ?_
        refine ⟨_, rfl, _, rfl, u, p, rfl, g1, g2, fun H1 e1 => ?_⟩
        refine q _ H1 (.inr ⟨h, m, u, hS, ?_⟩) (sa.trans e1)
        rw [decide_eq_true c]
        rfl
      · refine (if_neg (by show ¬ decide ((m : Int) % 2 = 0) = true; rw [em, decide_eq_false c]; decide)).mpr ?_
        have z := q false _ (.inr ⟨h, m, u, hS, by rw [decide_eq_false c]; rfl⟩) sa
        rw [show (decide ((m : Int) % 2 = 0)) = false by rw [em]; exact decide_eq_false c] at *
        exact z
end
end Sf

namespace Sf
open PySem PySem.Spec PyProof.Rows L2
section
variable {P : Program} {w : World} {K : PySem.W.Frag} {mg : Str → Option Value} {base : Heap} {f : Addr} {fd : FuncData}
def spBare : Sp := fun vs H Q _ => ∃ n p : Int, vs = [.int n, .int p] ∧ n ≠ 0 ∧ 2 ≤ p ∧ p.natAbs < 2 ^ 3000 ∧
  ∀ (m : Nat) (u : Int) (a : Addr), Strip n p m u → H a = none → Q (.ref a) (upd H a (.tup [.int m, .int u]))
theorem ok_bare (F : FnD K "_law_bare" "_law_bare" s_L_bare f fd) (T : Glob mg) : FnOk P w K mg base CX0 1 f fd ["_law_number", "_law_prime"] spBare := by
  refine F.ok sc_L_bare (fun vs H Q E h => ?_) (fun cdv A outer s H vs Q E hr h => ?_)
  · obtain ⟨n, p, rfl, _⟩ := h; rfl
  · obtain ⟨n, p, rfl, hn, hp, hb, q⟩ := h
    refine ⟨_, PSs.nox (pss_cons (ps_set (i := 2) sc_L_bare.nd rfl (Or.inl rfl) pe_int)
      (pss_cons (ps_while PassesOwn.never (pt_cmp (pc_eqI (pe_op op_mod (pe_callTy call_int1 (by rfl) T.m_int (by decide +kernel) (pa_cons (pv 0) pa_nil)) (pv 1)) pe_int)) (pss_one (ps_par (i := 0) (j := 2) (by rfl) sc_L_bare.nd rfl rfl (by decide) rfl rfl (pa_cons (pe_op op_fdivW (pv 0) (pv 1)) (pa_cons (pe_op op_add (pv 2) pe_int) pa_nil)) (by rfl))))
      (pss_one (ps_ret (pe_tup (pa_cons (pv 2) (pa_cons (pv 0) pa_nil))))))), ?_⟩
    refine ⟨fun c σ H' => H' = H ∧ ∃ (m : Nat) (u : Int), σ = [some (.int u), some (.int p), some (.int m)] ∧ n = p ^ m * u ∧ u ≠ 0 ∧ c = u.natAbs, ⟨_, rfl, 0, n, rfl, by simp, hn, rfl⟩, ?_⟩
    rintro c σ _ ⟨rfl, m, u, rfl, e, hu, rfl⟩
    refine ⟨_, rfl, .inl ⟨_, rfl, _, rfl, _, _, rfl, rfl, (by omega), _, _, rfl, rfl, _, rfl, ifd (fun h => ⟨_, fun _ _ z => z, ?_⟩) (fun h => ?_)⟩⟩
    · have hl := strip_less hu hp h
      refine ⟨_, rfl, _, rfl, _, _, rfl, rfl, CDivW.of (by omega) hb, _, rfl, _, _, rfl, rfl, _, _, rfl, ?_⟩
      refine ⟨_, hl.1, rfl, m + 1, u / p, rfl, ?_, hl.2.1, rfl⟩
      rw [e, Int.pow_succ, Int.mul_assoc, ← hl.2.2]
    · refine ⟨_, rfl, _, rfl, (by show 2 ≤ sizeLine; decide), fun a ha => ?_⟩
      exact q m u a ⟨e, h⟩ ha
def spResidue : Sp := fun vs H Q _ => ∃ n p : Int, vs = [.int n, .int p] ∧ 3 ≤ p ∧ p.natAbs < 2 ^ 1000 ∧ Q (.int (restSign n p)) H
theorem ok_residue (F : FnD K "_law_residue" "_law_residue" s_L_residue f fd) (T : Glob mg) : FnOk P w K mg base CX0 1 f fd ["_law_number", "_law_prime"] spResidue := by
  refine F.ok sc_L_residue (fun vs H Q E h => ?_) (fun cdv A outer s H vs Q E hr h => ?_)
  · obtain ⟨n, p, rfl, _⟩ := h; rfl
  · obtain ⟨n, p, rfl, hp, hb, q⟩ := h
    have hm0 : (0 : Int) < p := by omega
    refine ⟨_, PSs.nox (pss_cons (ps_par3 (i := 2) (j := 3) (l := 4) (by rfl) sc_L_residue.nd rfl rfl rfl (by decide) (by decide) (by decide) rfl rfl rfl (pa_cons pe_int (pa_cons (pe_op op_mod (pe_callTy call_int1 (by rfl) T.m_int (by decide +kernel) (pa_cons (pv 0) pa_nil)) (pv 1)) (pa_cons (pe_op op_fdivW (pe_op op_sub (pv 1) pe_int) pe_int) pa_nil))) (by rfl))
      (pss_cons (ps_if (pt_cmp (pc_eqI (pv 3) pe_int)) (pss_one (ps_ret pe_int)) pss_nil)
      (pss_cons (ps_while PassesOwn.never (pt_cmp (pc_gt (pv 4) pe_int)) (pss_cons (ps_if (pt_cmp (pc_eqI (pe_op op_mod (pv 4) pe_int) pe_int)) (pss_one (ps_set (i := 2) sc_L_residue.nd rfl (Or.inl rfl) (pe_op op_mod (pe_callTy call_int1 (by rfl) T.m_int (by decide +kernel) (pa_cons (pe_op op_mulW (pv 2) (pv 3)) pa_nil)) (pv 1)))) pss_nil)
      (pss_one (ps_par (i := 3) (j := 4) (by rfl) sc_L_residue.nd rfl rfl (by decide) rfl rfl (pa_cons (pe_op op_mod (pe_callTy call_int1 (by rfl) T.m_int (by decide +kernel) (pa_cons (pe_op op_mulW (pv 3) (pv 3)) pa_nil)) (pv 1)) (pa_cons (pe_op op_fdivW (pv 4) pe_int) pa_nil)) (by rfl)))))
      (pss_one (ps_ret (pe_ifExp (pt_cmp (pc_eqI (pv 2) pe_int)) pe_int (pe_un un_neg pe_int))))))), ?_⟩
    refine ⟨_, rfl, .inl ⟨_, rfl, _, rfl, _, _, rfl, rfl, hm0, _, rfl, _, _, rfl, rfl, _, _, rfl, rfl, CDivW.of (by decide) (by decide +kernel), _, _, _, rfl, ?_⟩⟩
    refine ⟨_, rfl, _, _, rfl, rfl, _, rfl, ifd (fun h => ?_) (fun h => ?_)⟩
    · unfold restSign at q
      rw [if_pos h] at q
      exact q
    have hr : restSign n p = if n ^ ((p - 1) / 2).toNat % p = 1 then 1 else -1 := by
      unfold restSign
      rw [if_neg h, if_neg (by omega)]
    rw [hr] at q
    refine ⟨fun c σ H' => H = H' ∧ ∃ (k' made sq : Int), σ = [some (.int n), some (.int p), some (.int made), some (.int sq), some (.int k')] ∧ 0 ≤ k' ∧ c = k'.toNat ∧ (made * sq ^ k'.toNat) % p = n ^ ((p - 1) / 2).toNat % p ∧ made % p = made ∧ made.natAbs < 2 ^ 3000 ∧ sq.natAbs < 2 ^ 3000, ⟨_, rfl, (p - 1) / 2, 1, n % p, rfl, by omega, rfl, ?_, Int.emod_eq_of_lt (by decide) (by omega), by decide +kernel, mod_lt3000 (by omega) hb⟩, ?_⟩
    · rw [Int.one_mul]
      exact pow_mod _ _ _
    rintro c σ _ ⟨rfl, k', made, sq, rfl, hk', rfl, e, em, b1, b2⟩
    have sq2 : ∀ made' : Int, (made' * (sq * sq % p) ^ (k' / 2).toNat) % p = (made' * (sq * sq) ^ (k' / 2).toNat) % p := fun made' => by
      rw [Int.mul_emod, pow_mod, ← Int.mul_emod]
    refine ⟨_, rfl, _, _, rfl, rfl, _, rfl, ifd (fun h1 => ⟨fun σ' H' => ∃ m', m' < k'.toNat ∧ H = H' ∧ ∃ (k' made sq : Int), σ' = [some (.int n), some (.int p), some (.int made), some (.int sq), some (.int k')] ∧ 0 ≤ k' ∧ m' = k'.toNat ∧ (made * sq ^ k'.toNat) % p = n ^ ((p - 1) / 2).toNat % p ∧ made % p = made ∧ made.natAbs < 2 ^ 3000 ∧ sq.natAbs < 2 ^ 3000, fun _ _ z => z, ?_⟩) (fun h1 => ?_)⟩
    · have hh := pow_half sq k' h1
      refine ⟨_, rfl, _, _, rfl, rfl, (by show (0 : Int) < 2; decide), _, _, rfl, rfl, _, rfl, ifd (fun c2 => ?_) (fun c2 => ?_)⟩
      · refine ⟨_, rfl, _, rfl, _, _, rfl, rfl, CMulW.of b1 b2, .inl ⟨_, rfl, _, rfl, _, _, rfl, rfl, hm0, ?_⟩⟩
        refine ⟨_, rfl, _, rfl, _, _, rfl, rfl, CMulW.of b2 b2, .inl ⟨_, rfl, _, rfl, _, _, rfl, rfl, hm0, _, rfl, _, _, rfl, rfl, CDivW.of (by decide) (by decide +kernel), _, _, rfl, ?_⟩⟩
        refine ⟨_, (by omega : (k' / 2).toNat < k'.toNat), rfl, k' / 2, _, _, rfl, by omega, rfl, ?_, Int.emod_emod_of_dvd _ (Int.dvd_refl _), mod_lt3000 (by omega) hb, mod_lt3000 (by omega) hb⟩
        rw [sq2, ← e, hh, c2, Int.mul_emod, Int.emod_emod_of_dvd _ (Int.dvd_refl _), ← Int.mul_emod]
        congr 1
        simp
        grind
      · refine ⟨_, rfl, _, rfl, _, _, rfl, rfl, CMulW.of b2 b2, .inl ⟨_, rfl, _, rfl, _, _, rfl, rfl, hm0, _, rfl, _, _, rfl, rfl, CDivW.of (by decide) (by decide +kernel), _, _, rfl, ?_⟩⟩
        refine ⟨_, (by omega : (k' / 2).toNat < k'.toNat), rfl, k' / 2, _, _, rfl, by omega, rfl, ?_, em, b1, mod_lt3000 (by omega) hb⟩
        rw [sq2, ← e, hh, show k' % 2 = 0 by omega]
        simp
    · have z : k' = 0 := by omega
      subst z
      have em2 : made = n ^ ((p - 1) / 2).toNat % p := by
        rw [← e, ← em]
        simp
      rw [← em2] at q
      refine ⟨_, rfl, _, _, rfl, rfl, _, rfl, ifd (fun h2 => ?_) (fun h2 => ?_)⟩
      · rw [if_pos h2] at q
        exact q
      · rw [if_neg h2] at q
        exact ⟨_, rfl, q⟩
end
end Sf

namespace Sf
open PySem PySem.Spec PyProof.Rows L2
section
variable {P : Program} {w : World} {K : PySem.W.Frag} {mg : Str → Option Value} {base : Heap} {f : Addr} {fd : FuncData}
theorem ok_is_local_square (F : FnD K "_law_is_local_square" "_law_is_local_square" s_L_is_local_square f fd) (T : Glob mg) (C_L_bare : Cal P w K mg base 1 "_law_bare" ["_law_number", "_law_prime"] spBare) (C_L_residue : Cal P w K mg base 1 "_law_residue" ["_law_number", "_law_prime"] spResidue) : FnOk P w K mg base CX0 2 f fd ["_law_number", "_law_place"] spSqAt := by
  refine F.ok sc_L_is_local_square (fun vs H Q E h => ?_) (fun cdv A outer s H vs Q E hr h => ?_)
  · obtain ⟨n, p, rfl, _⟩ := h; rfl
  · obtain ⟨n, p, rfl, n0, nb, hp, q⟩ := h
    refine ⟨_, PSs.nox (pss_cons (ps_if (pt_cmp (pc_eqI (pv 1) pe_int)) (pss_one (ps_ret (pe_cmp (pc_gt (pv 0) pe_int) rfl))) pss_nil)
      (pss_cons (ps_asg (pe_cal C_L_bare (hr.mono (by decide)) (pa_cons (pv 0) (pa_cons (pv 1) pa_nil))) (pg_tup (by rfl) (pgs_cons (pg_name (i := 2) sc_L_is_local_square.nd rfl (Or.inl rfl)) (pgs_cons (pg_name (i := 3) sc_L_is_local_square.nd rfl (Or.inl rfl)) pgs_nil))))
      (pss_cons (ps_if (pt_cmp (pc_eqI (pe_op op_mod (pv 2) pe_int) pe_int)) (pss_one (ps_ret pe_bl)) pss_nil)
      (pss_one (ps_ret (pe_ifExp (pt_cmp (pc_eqI (pv 1) pe_int)) (pe_cmp (pc_eqI (pe_op op_mod (pe_callTy call_int1 (by rfl) T.m_int (by decide +kernel) (pa_cons (pv 3) pa_nil)) pe_int) pe_int) rfl) (pe_cmpR op_eq (pe_cal C_L_residue (hr.mono (by decide)) (pa_cons (pv 3) (pa_cons (pv 1) pa_nil))) pe_int (nomark _)))))))), ?_⟩
    refine ⟨_, rfl, _, _, rfl, rfl, _, rfl, ifd (fun h => ?_) (fun h => ?_)⟩
    · exact ⟨_, rfl, _, _, rfl, rfl, q _ H (.inl ⟨h, rfl⟩) (Same.refl H)⟩
    · obtain ⟨hP, hp9⟩ := hp.resolve_left h
      have p2 := hP.1
      have pb : p.natAbs < 2 ^ 1000 := Nat.lt_of_le_of_lt (by omega : p.natAbs ≤ 1000000000) (by decide +kernel)
      refine ⟨_, rfl, _, rfl, n, p, rfl, n0, p2, Nat.lt_trans pb (by decide +kernel), fun m u a hS ha => ?_⟩
      refine ⟨a, _, rfl, .inl (.inl upd_same), rfl, _, _, rfl, _, _, rfl, rfl, ?_⟩
      have sa := same_upd (o := .tup [.int (m : Int), .int u]) ha
      have z := fun r e => q r _ (.inr ⟨h, m, u, hS, e⟩) sa
      refine ⟨_, rfl, _, _, rfl, rfl, (by show (0 : Int) < 2; decide), _, _, rfl, rfl, _, rfl, ifd (fun c => ?_) (fun c => ?_)⟩
      · exact z false (by rw [decide_eq_false (by omega)]; rfl)
      · have em : decide (m % 2 = 0) = true := decide_eq_true (by omega)
        refine ⟨_, rfl, _, _, rfl, rfl, _, rfl, ifd (fun h2 => ?_) (fun h2 => ?_)⟩
        · refine ⟨_, rfl, .inl ⟨_, rfl, _, _, rfl, rfl, (by show (0 : Int) < 8; decide), _, _, rfl, rfl, ?_⟩⟩
          refine z _ ?_
          rw [em]
          unfold sqU
          rw [if_pos h2]
          rfl
        · refine ⟨_, rfl, _, rfl, u, p, rfl, by omega, pb, ?_⟩
          refine ⟨rfl, ?_⟩
          refine z _ ?_
          rw [em]
          unfold sqU
          rw [if_neg h2, Bool.true_and, decide_eq_decide]
          exact ⟨fun e => V.int.inj e, fun e => congrArg V.int e⟩
end
end Sf

namespace Sf
open PySem PySem.Spec PyProof.Rows L2
/-- the sign by the rests: at 2 by the units modulo 8, else by one power -/
theorem sgn2_rest {s t : Nat} {u v : Int} (hu : u % 2 = 1) (hv : v % 2 = 1) : sgnAt 2 s t u v = if (u % 8 / 2 * (v % 8 / 2) + s * (if v % 8 = 3 ∨ v % 8 = 5 then 1 else 0) + t * (if u % 8 = 3 ∨ u % 8 = 5 then 1 else 0)) % 2 = 0 then 1 else -1 := by
  rw [sgn2]
  unfold par2
  have h1 := par_mul ((u - 1) / 2) ((v - 1) / 2) (u % 8 / 2) (v % 8 / 2) (by omega) (by omega)
  have sq : ∀ {w : Int}, w % 2 = 1 → ((w * w - 1) / 8) % 2 = (if w % 8 = 3 ∨ w % 8 = 5 then (1 : Int) else 0) % 2 := fun {w} h => by
    have e : w = 8 * (w / 8) + w % 8 := by omega
    have c : w % 8 = 1 ∨ w % 8 = 3 ∨ w % 8 = 5 ∨ w % 8 = 7 := by omega
    generalize w / 8 = k at e
    rcases c with c | c | c | c <;> rw [c] at e ⊢
    · have : w * w = 16 * (4 * (k * k) + k) + 1 := by rw [e]; grind
      have e2 : (w * w - 1) / 8 = 2 * (4 * (k * k) + k) := by omega
      rw [e2, if_neg (by decide)]
      omega
    · have : w * w = 16 * (4 * (k * k) + 3 * k) + 9 := by rw [e]; grind
      have e2 : (w * w - 1) / 8 = 2 * (4 * (k * k) + 3 * k) + 1 := by omega
      rw [e2, if_pos (by decide)]
      omega
    · have : w * w = 16 * (4 * (k * k) + 5 * k + 1) + 9 := by rw [e]; grind
      have e2 : (w * w - 1) / 8 = 2 * (4 * (k * k) + 5 * k + 1) + 1 := by omega
      rw [e2, if_pos (by decide)]
      omega
    · have : w * w = 16 * (4 * (k * k) + 7 * k + 3) + 1 := by rw [e]; grind
      have e2 : (w * w - 1) / 8 = 2 * (4 * (k * k) + 7 * k + 3) := by omega
      rw [e2, if_neg (by decide)]
      omega
  have h2 := par_mul (s : Int) ((v * v - 1) / 8) (s : Int) (if v % 8 = 3 ∨ v % 8 = 5 then 1 else 0) rfl (sq hv)
  have h3 := par_mul (t : Int) ((u * u - 1) / 8) (t : Int) (if u % 8 = 3 ∨ u % 8 = 5 then 1 else 0) rfl (sq hu)
  by_cases c : ((u - 1) / 2 * ((v - 1) / 2) + s * ((v * v - 1) / 8) + t * ((u * u - 1) / 8)) % 2 = 1
  · rw [if_pos c, if_neg (by omega)]
  · rw [if_neg c, if_pos (by omega)]
theorem sgn2_law {s t : Nat} {u v : Int} (hu : u % 2 = 1) (hv : v % 2 = 1) : sgnAt 2 s t u v = if ((if u % 4 = 3 ∧ v % 4 = 3 then 1 else 0) + s * (if v % 8 = 3 ∨ v % 8 = 5 then 1 else 0) + t * (if u % 8 = 3 ∨ u % 8 = 5 then 1 else 0) : Int) % 2 = 0 then 1 else -1 := by
  rw [sgn2_rest hu hv]
  have e : (u % 8 / 2 * (v % 8 / 2)) % 2 = (if u % 4 = 3 ∧ v % 4 = 3 then (1 : Int) else 0) % 2 := by
    have c1 : u % 8 = 1 ∨ u % 8 = 3 ∨ u % 8 = 5 ∨ u % 8 = 7 := by omega
    have c2 : v % 8 = 1 ∨ v % 8 = 3 ∨ v % 8 = 5 ∨ v % 8 = 7 := by omega
    have f1 : u % 4 = u % 8 % 4 := by omega
    have f2 : v % 4 = v % 8 % 4 := by omega
    rw [f1, f2]
    rcases c1 with c1 | c1 | c1 | c1 <;> rcases c2 with c2 | c2 | c2 | c2 <;> rw [c1, c2] <;> decide
  generalize (s : Int) * (if v % 8 = 3 ∨ v % 8 = 5 then 1 else 0) = x
  generalize (t : Int) * (if u % 8 = 3 ∨ u % 8 = 5 then 1 else 0) = y
  generalize u % 8 / 2 * (v % 8 / 2) = z at e ⊢
  generalize (if u % 4 = 3 ∧ v % 4 = 3 then (1 : Int) else 0) = w at e ⊢
  by_cases c : (z + x + y) % 2 = 0
  · rw [if_pos c, if_pos (by omega)]
  · rw [if_neg c, if_neg (by omega)]
section
variable {P : Program} {w : World} {K : PySem.W.Frag} {mg : Str → Option Value} {base : Heap} {f : Addr} {fd : FuncData}
def spLSign : Sp := fun vs H Q _ => ∃ a b p : Int, vs = [.int a, .int b, .int p] ∧ a ≠ 0 ∧ b ≠ 0 ∧ a.natAbs ≤ 1000000000 ∧ b.natAbs ≤ 1000000000 ∧ (p = 0 ∨ (PrP p ∧ p ≤ 1000000000)) ∧ ∀ (r : Int) (H' : Hp), HSign a b p r → Same H H' → Q (.int r) H'
set_option maxHeartbeats 8000000 in
theorem ok_lsign (F : FnD K "_law_sign" "_law_sign" s_L_sign f fd) (T : Glob mg) (C_L_bare : Cal P w K mg base 1 "_law_bare" ["_law_number", "_law_prime"] spBare) (C_L_residue : Cal P w K mg base 1 "_law_residue" ["_law_number", "_law_prime"] spResidue) : FnOk P w K mg base CX0 2 f fd ["_law_a", "_law_b", "_law_place"] spLSign := by
  refine F.ok sc_L_sign (fun vs H Q E h => ?_) (fun cdv A outer s H vs Q E hr h => ?_)
  · obtain ⟨a, b, p, rfl, _⟩ := h; rfl
  · obtain ⟨a, b, p, rfl, a0, b0, ab, bb, hp, q⟩ := h
    refine ⟨_, PSs.nox (pss_cons (ps_if (pt_cmp (pc_eqI (pv 2) pe_int)) (pss_one (ps_ret (pe_ifExp (PW.pt (pw_and (pt_cmp (pc_lt (pv 0) pe_int)) (pw_and1 (pt_cmp (pc_lt (pv 1) pe_int))))) (pe_un un_neg pe_int) pe_int))) pss_nil)
      (pss_cons (ps_asg (pe_cal C_L_bare (hr.mono (by decide)) (pa_cons (pv 0) (pa_cons (pv 2) pa_nil))) (pg_tup (by rfl) (pgs_cons (pg_name (i := 3) sc_L_sign.nd rfl (Or.inl rfl)) (pgs_cons (pg_name (i := 4) sc_L_sign.nd rfl (Or.inl rfl)) pgs_nil))))
      (pss_cons (ps_asg (pe_cal C_L_bare (hr.mono (by decide)) (pa_cons (pv 1) (pa_cons (pv 2) pa_nil))) (pg_tup (by rfl) (pgs_cons (pg_name (i := 5) sc_L_sign.nd rfl (Or.inl rfl)) (pgs_cons (pg_name (i := 6) sc_L_sign.nd rfl (Or.inl rfl)) pgs_nil))))
      (pss_cons (ps_if (pt_cmp (pc_eqI (pv 2) pe_int)) (pss_cons (ps_set (i := 7) sc_L_sign.nd rfl (Or.inl rfl) (pe_cut (pe_and (pe_cmp (pc_eqI (pe_op op_mod (pe_callTy call_int1 (by rfl) T.m_int (by decide +kernel) (pa_cons (pv 4) pa_nil)) pe_int) pe_int) rfl) (pe_one (pe_cmp (pc_eqI (pe_op op_mod (pe_callTy call_int1 (by rfl) T.m_int (by decide +kernel) (pa_cons (pv 6) pa_nil)) pe_int) pe_int) rfl)))))
      (pss_cons (ps_set (i := 8) sc_L_sign.nd rfl (Or.inl rfl) (pe_op op_add (pe_op op_add (pe_callTy call_int1 (by rfl) T.m_int (by decide +kernel) (pa_cons (pv 7) pa_nil)) (pe_op op_mulW (pv 3) (pe_callTy call_int1 (by rfl) T.m_int (by decide +kernel) (pa_cons (pe_cmpR op_in_seq (pe_op op_mod (pe_callTy call_int1 (by rfl) T.m_int (by decide +kernel) (pa_cons (pv 6) pa_nil)) pe_int) (pe_tup (pa_cons pe_int (pa_cons pe_int pa_nil))) (by rfl)) pa_nil)))) (pe_op op_mulW (pv 5) (pe_callTy call_int1 (by rfl) T.m_int (by decide +kernel) (pa_cons (pe_cmpR op_in_seq (pe_op op_mod (pe_callTy call_int1 (by rfl) T.m_int (by decide +kernel) (pa_cons (pv 4) pa_nil)) pe_int) (pe_tup (pa_cons pe_int (pa_cons pe_int pa_nil))) (by rfl)) pa_nil)))))
      (pss_one (ps_ret (pe_ifExp (pt_cmp (pc_eqI (pe_op op_mod (pe_callTy call_int1 (by rfl) T.m_int (by decide +kernel) (pa_cons (pv 8) pa_nil)) pe_int) pe_int)) pe_int (pe_un un_neg pe_int)))))) pss_nil)
      (pss_cons (ps_set (i := 9) sc_L_sign.nd rfl (Or.inl rfl) (pe_cut (pe_ifExp (pt_cmp (pc_eqI (pe_op op_mod (pe_callTy call_int1 (by rfl) T.m_int (by decide +kernel) (pa_cons (pe_op op_mulW (pv 3) (pv 5)) pa_nil)) pe_int) pe_int)) (pe_cal C_L_residue (hr.mono (by decide)) (pa_cons (pe_un un_neg pe_int) (pa_cons (pv 2) pa_nil))) pe_int)))
      (pss_cons (ps_set (i := 9) sc_L_sign.nd rfl (Or.inl rfl) (pe_op op_mulW (pv 9) (pe_cut (pe_ifExp (pt_cmp (pc_eqI (pe_op op_mod (pv 5) pe_int) pe_int)) (pe_cal C_L_residue (hr.mono (by decide)) (pa_cons (pv 4) (pa_cons (pv 2) pa_nil))) pe_int))))
      (pss_one (ps_ret (pe_op op_mulW (pv 9) (pe_cut (pe_ifExp (pt_cmp (pc_eqI (pe_op op_mod (pv 3) pe_int) pe_int)) (pe_cal C_L_residue (hr.mono (by decide)) (pa_cons (pv 6) (pa_cons (pv 2) pa_nil))) pe_int))))))))))), ?_⟩
    refine ⟨_, rfl, _, _, rfl, rfl, _, rfl, ifd (fun h => ?_) (fun h => ?_)⟩
    · have z := q _ H (.inl ⟨h, rfl⟩) (Same.refl H)
      refine ⟨_, rfl, _, _, rfl, rfl, _, rfl, ifd (fun h1 => ?_) (fun h1 => ?_)⟩
      · refine ⟨_, rfl, _, _, rfl, rfl, _, rfl, ifd (fun h2 => ?_) (fun h2 => ?_)⟩
        · rw [if_pos ⟨h1, h2⟩] at z
          exact ⟨_, rfl, z⟩
        · rw [if_neg (fun k => h2 k.2)] at z
          exact z
      · rw [if_neg (fun k => h1 k.1)] at z
        exact (if_neg (by decide)).mpr z
    · obtain ⟨hP, hp9⟩ := hp.resolve_left h
      have p2 := hP.1
      have pb : p.natAbs < 2 ^ 1000 := Nat.lt_of_le_of_lt (by omega : p.natAbs ≤ 1000000000) (by decide +kernel)
      have pb3 : p.natAbs < 2 ^ 3000 := Nat.lt_trans pb (by decide +kernel)
      refine ⟨_, rfl, _, rfl, a, p, rfl, a0, p2, pb3, fun m u x1 hS ha => ?_⟩
      refine ⟨x1, _, rfl, .inl (.inl upd_same), rfl, _, _, rfl, _, _, rfl, rfl, ?_⟩
      have e1 := same_upd (o := .tup [.int (m : Int), .int u]) ha
      generalize upd H x1 _ = H1 at e1 ⊢
      refine ⟨_, rfl, _, rfl, b, p, rfl, b0, p2, pb3, fun n v x2 hS2 hb => ?_⟩
      refine ⟨x2, _, rfl, .inl (.inl upd_same), rfl, _, _, rfl, _, _, rfl, rfl, ?_⟩
      have e2 := e1.trans (same_upd (o := .tup [.int (n : Int), .int v]) hb)
      generalize upd H1 x2 _ = H2 at e2 ⊢
      have z0 : ∀ J, Same H2 J → Q (.int (sgnAt p m n u v)) J := fun J e => q _ J (.inr ⟨h, m, n, u, v, hS, hS2, rfl⟩) (e2.trans e)
      have z := z0 H2 (Same.refl _)
      obtain ⟨s1, s2⟩ := strip_le p2 hS
      obtain ⟨s3, s4⟩ := strip_le p2 hS2
      clear q e1 e2 ha hb
      have wm : (m : Int).natAbs < 2 ^ 3000 := lt3000s (by omega) (by omega)
      have wn : (n : Int).natAbs < 2 ^ 3000 := lt3000s (by omega) (by omega)
      have r1 := rest_small (-1) p
      have r2 := rest_small u p
      have r3 := rest_small v p
      refine ⟨_, rfl, _, _, rfl, rfl, _, rfl, ifd (fun h2 => ?_) (fun h2 => ?_)⟩
      · subst h2
        have hu : u % 2 = 1 := by
          have := hS.2
          omega
        have hv : v % 2 = 1 := by
          have := hS2.2
          omega
        rw [sgn2_law hu hv] at z0
        clear z
        refine ⟨fun x H' => x = .bl (decide (u % 4 = 3 ∧ v % 4 = 3)) ∧ H2 = H', ?_, fun x H' hx => ?_⟩
        · refine ⟨_, rfl, .inl ⟨_, rfl, _, _, rfl, rfl, (by show (0 : Int) < 4; decide), _, _, rfl, rfl, _, rfl, ifd (fun c => ?_) (fun c => ?_)⟩⟩
          · refine ⟨_, rfl, .inl ⟨_, rfl, _, _, rfl, rfl, (by show (0 : Int) < 4; decide), _, _, rfl, rfl, ?_, rfl⟩⟩
            refine congrArg V.bl ?_
            show decide (v % 4 = 3) = _
            rw [decide_eq_decide]
            exact ⟨fun k => ⟨c, k⟩, fun k => k.2⟩
          · refine ⟨?_, rfl⟩
            refine congrArg V.bl ?_
            rw [decide_eq_false (fun k => c k.1)]
        obtain ⟨rfl, rfl⟩ := hx
        refine ⟨_, rfl, .inr ⟨_, rfl, ?_⟩⟩
        refine ⟨_, rfl, _, rfl, .inl ⟨_, rfl, _, _, rfl, rfl, (by show (0 : Int) < 8; decide), (by show 2 ≤ sizeLine; decide), fun y1 hy1 => ?_⟩⟩
        refine ⟨y1, _, rfl, .inr (.inl (.inl upd_same)), rfl, rfl, ?_⟩
        have wb : ∀ k : Prop, [Decidable k] → ((if k then (1 : Int) else 0)).natAbs < 2 ^ 3000 := fun k _ => lt3000s (by split <;> decide) (by split <;> decide)
        have ebl : ∀ (x : Int), (if inV (.int x) [.int 3, .int 5] = true then (1 : Int) else 0) = if x = 3 ∨ x = 5 then 1 else 0 := fun x => by
          rw [inV_two]
          by_cases c : x = 3 ∨ x = 5
          · rw [if_pos c, if_pos (decide_eq_true c)]
          · rw [if_neg c, if_neg (by rw [decide_eq_false c]; decide)]
        refine .inr ⟨_, rfl, _, _, rfl, rfl, CMulW.of wm ?_, _, _, rfl, rfl, ?_⟩
        · show (if inV (.int (v % 8)) [.int 3, .int 5] = true then (1 : Int) else 0).natAbs < _
          rw [ebl]
          exact wb _
        refine ⟨_, rfl, _, rfl, .inl ⟨_, rfl, _, _, rfl, rfl, (by show (0 : Int) < 8; decide), (by show 2 ≤ sizeLine; decide), fun y2 hy2 => ?_⟩⟩
        refine ⟨y2, _, rfl, .inr (.inl (.inl upd_same)), rfl, rfl, ?_⟩
        refine .inr ⟨_, rfl, _, _, rfl, rfl, CMulW.of wn ?_, _, _, rfl, rfl, ?_⟩
        · show (if inV (.int (u % 8)) [.int 3, .int 5] = true then (1 : Int) else 0).natAbs < _
          rw [ebl]
          exact wb _
        replace z0 := z0 _ ((same_upd (o := .tup [.int 3, .int 5]) hy1).trans (same_upd (o := .tup [.int 3, .int 5]) hy2))
        have eM : ((if decide (u % 4 = 3 ∧ v % 4 = 3) = true then (1 : Int) else 0) + (m : Int) * (if inV (.int (v % 8)) [.int 3, .int 5] = true then (1 : Int) else 0) + (n : Int) * (if inV (.int (u % 8)) [.int 3, .int 5] = true then (1 : Int) else 0)) = ((if u % 4 = 3 ∧ v % 4 = 3 then 1 else 0) + (m : Int) * (if v % 8 = 3 ∨ v % 8 = 5 then 1 else 0) + (n : Int) * (if u % 8 = 3 ∨ u % 8 = 5 then 1 else 0)) := by
          rw [ebl, ebl]
          congr 2
          by_cases c : u % 4 = 3 ∧ v % 4 = 3
          · rw [if_pos c, if_pos (decide_eq_true c)]
          · rw [if_neg c, if_neg (by rw [decide_eq_false c]; decide)]
        refine ⟨_, rfl, .inl ⟨_, rfl, _, _, rfl, rfl, (by show (0 : Int) < 2; decide), _, _, rfl, rfl, _, rfl, ifd (fun c => ?_) (fun c => ?_)⟩⟩
        · replace c : (((if decide (u % 4 = 3 ∧ v % 4 = 3) = true then (1 : Int) else 0) + (m : Int) * (if inV (.int (v % 8)) [.int 3, .int 5] = true then (1 : Int) else 0) + (n : Int) * (if inV (.int (u % 8)) [.int 3, .int 5] = true then (1 : Int) else 0))) % 2 = 0 := c
          rw [eM] at c
          rw [if_pos c] at z0
          exact z0
        · replace c : ¬ (((if decide (u % 4 = 3 ∧ v % 4 = 3) = true then (1 : Int) else 0) + (m : Int) * (if inV (.int (v % 8)) [.int 3, .int 5] = true then (1 : Int) else 0) + (n : Int) * (if inV (.int (u % 8)) [.int 3, .int 5] = true then (1 : Int) else 0))) % 2 = 0 := c
          rw [eM] at c
          rw [if_neg c] at z0
          exact ⟨_, rfl, z0⟩
      · have F1 : (if m * n % 2 = 1 then restSign (-1) p else 1).natAbs ≤ 1 := by split <;> omega
        have F2 : (if n % 2 = 1 then restSign u p else 1).natAbs ≤ 1 := by split <;> omega
        have F3 : (if m % 2 = 1 then restSign v p else 1).natAbs ≤ 1 := by split <;> omega
        have emn : (m : Int) * n = ((m * n : Nat) : Int) := (Int.natCast_mul _ _).symm
        have eS : sgnAt p m n u v = (if m * n % 2 = 1 then restSign (-1) p else 1) * (if n % 2 = 1 then restSign u p else 1) * (if m % 2 = 1 then restSign v p else 1) := by
          unfold sgnAt
          rw [if_neg h2]
        rw [eS] at z
        refine ⟨fun x H' => x = .int (if m * n % 2 = 1 then restSign (-1) p else 1) ∧ H2 = H', ?_, fun x H' hx => ?_⟩
        · refine ⟨_, rfl, _, rfl, _, _, rfl, rfl, CMulW.of wm wn, .inl ⟨_, rfl, _, _, rfl, rfl, (by show (0 : Int) < 2; decide), _, _, rfl, rfl, _, rfl, ifd (fun c => ?_) (fun c => ?_)⟩⟩
          · refine ⟨_, rfl, _, rfl, -1, p, rfl, by omega, pb, ?_, rfl⟩
            rw [if_pos (by rw [emn] at c; omega)]
          · refine ⟨?_, rfl⟩
            rw [if_neg (by rw [emn] at c; omega)]
        obtain ⟨rfl, rfl⟩ := hx
        generalize (if m * n % 2 = 1 then restSign (-1) p else 1) = f1 at F1 z ⊢
        refine ⟨_, rfl, fun x H' => x = .int (if n % 2 = 1 then restSign u p else 1) ∧ H2 = H', ?_, fun x H' hx => ?_⟩
        · refine ⟨_, rfl, _, _, rfl, rfl, (by show (0 : Int) < 2; decide), _, _, rfl, rfl, _, rfl, ifd (fun c => ?_) (fun c => ?_)⟩
          · refine ⟨_, rfl, _, rfl, u, p, rfl, by omega, pb, ?_, rfl⟩
            rw [if_pos (by omega)]
          · refine ⟨?_, rfl⟩
            rw [if_neg (by omega)]
        obtain ⟨rfl, rfl⟩ := hx
        generalize (if n % 2 = 1 then restSign u p else 1) = f2 at F2 z ⊢
        have F12 : (f1 * f2).natAbs ≤ 1 := by
          rw [Int.natAbs_mul]
          exact Nat.mul_le_mul F1 F2
        refine ⟨_, _, rfl, rfl, CMulW.of (lt3000s (by omega) (by omega)) (lt3000s (by omega) (by omega)), ?_⟩
        refine ⟨_, rfl, fun x H' => x = .int (if m % 2 = 1 then restSign v p else 1) ∧ H2 = H', ?_, fun x H' hx => ?_⟩
        · refine ⟨_, rfl, _, _, rfl, rfl, (by show (0 : Int) < 2; decide), _, _, rfl, rfl, _, rfl, ifd (fun c => ?_) (fun c => ?_)⟩
          · refine ⟨_, rfl, _, rfl, v, p, rfl, by omega, pb, ?_, rfl⟩
            rw [if_pos (by omega)]
          · refine ⟨?_, rfl⟩
            rw [if_neg (by omega)]
        obtain ⟨rfl, rfl⟩ := hx
        exact ⟨_, _, rfl, rfl, CMulW.of (lt3000s (by omega) (by omega)) (lt3000s (by omega) (by omega)), z⟩
end
end Sf

namespace Sf
open PySem PySem.Spec PyProof.Rows L2
section
variable {P : Program} {w : World} {K : PySem.W.Frag} {mg : Str → Option Value} {base : Heap} {f : Addr} {fd : FuncData} {CR CA CF : Addr}
def spIsAlg (CA : Addr) : Sp := fun vs H Q _ => ∃ x a b, vs = [.ref x] ∧ AlgAt CA H x a b ∧ Q .non H
theorem ok_check_algebra (F : FnD K "check_algebra" "check_algebra" s_P_check_algebra f fd) (T : Glob mg) (R : AlgK K CA) (G_Algebra : mg "Algebra" = some (.ref CA)) : FnOk P w K mg base CX0 1 f fd ["value"] (spIsAlg CA) := by
  refine F.ok sc_P_check_algebra (fun vs H Q E h => ?_) (fun cdv A outer s H vs Q E hr h => ?_)
  · obtain ⟨x, a, b, rfl, _⟩ := h; rfl
  · obtain ⟨x, a, b, rfl, hx, q⟩ := h
    refine ⟨_, PSs.nox (pss_one (ps_if (pt_not (pt_val (pe_callB call_isi (by rfl) T.m_isinstance (by decide +kernel) (pa_cons (pv 0) (pa_cons (pe_glob (v := .ref _) rfl G_Algebra rfl) pa_nil))))) (pss_one ps_never) pss_nil)), ?_⟩
    exact ⟨_, rfl, _, .ref CA, _, _, true, rfl, .own CA, R.own.ty hx.ins, R.own.kk, _, rfl, q⟩
def spSide (CA : Addr) : Sp := fun vs H Q _ => ∃ (al : Addr) (a b : Int), vs = [.ref al] ∧ AlgAt CA H al a b ∧ a.natAbs ≤ 10000 ∧ b.natAbs ≤ 10000 ∧ Q .non H
theorem ok_check_side (F : FnD K "check_side" "check_side" s_P_check_side f fd) (T : Glob mg) (R : AlgK K CA) : FnOk P w K mg base CX0 1 f fd ["algebra"] (spSide CA) := by
  refine F.ok sc_P_check_side (fun vs H Q E h => ?_) (fun cdv A outer s H vs Q E hr h => ?_)
  · obtain ⟨al, a, b, rfl, _⟩ := h; rfl
  · obtain ⟨al, a, b, rfl, hA, a1, b1, q⟩ := h
    obtain ⟨tM, hc_MAX_SIDE⟩ := T.m_MAX_SIDE
    refine ⟨_, PSs.nox (pss_one (ps_if (pt_cmp (pc_gt (pe_callB (call_max2 rfl) (by rfl) T.m_max (by decide +kernel) (pa_cons (pe_callB call_abs (by rfl) T.m_abs (by decide +kernel) (pa_cons (pe_fld (pv 0) rfl) pa_nil)) (pa_cons (pe_callB call_abs (by rfl) T.m_abs (by decide +kernel) (pa_cons (pe_fld (pv 0) rfl) pa_nil)) pa_nil))) (pe_glob (v := .int 10000) rfl hc_MAX_SIDE ⟨_, rfl⟩))) (pss_one ps_never) pss_nil)), ?_⟩
    obtain ⟨dx, pl, l, hx, _⟩ := hA.ex
    refine ⟨_, rfl, al, CA, dx, _, .int a, rfl, hx, R.own.cls, R.n2, rfl, a, rfl, _, rfl, al, CA, dx, _, .int b, rfl, hx, R.own.cls, R.n3, rfl, b, rfl, _, _, rfl, ?_⟩
    refine ⟨_, _, rfl, rfl, _, rfl, ifd (fun c => ?_) (fun c => q)⟩
    exfalso
    revert c
    repeat' split
    all_goals omega
structure SidesP (CA : Addr) (vs : List V) (H : Hp) (Q : VK) : Prop where
  ex : ∃ (al be : Addr) (a b c d : Int), vs = [.ref al, .ref be] ∧ AlgAt CA H al a b ∧ AlgAt CA H be c d ∧ a.natAbs ≤ 10000 ∧ b.natAbs ≤ 10000 ∧ c.natAbs ≤ 10000 ∧ d.natAbs ≤ 10000 ∧ Q .non H
def spSides (CA : Addr) : Sp := fun vs H Q _ => SidesP CA vs H Q
theorem ok_check_sides (F : FnD K "check_sides" "check_sides" s_P_check_sides f fd) (C_P_check_algebra : Cal P w K mg base 1 "check_algebra" ["value"] (spIsAlg CA)) (C_P_check_side : Cal P w K mg base 1 "check_side" ["algebra"] (spSide CA)) : FnOk P w K mg base CX0 2 f fd ["one", "other"] (spSides CA) := by
  refine F.ok sc_P_check_sides (fun vs H Q E h => ?_) (fun cdv A outer s H vs Q E hr h => ?_)
  · obtain ⟨al, be, a, b, c, d, rfl, _⟩ := h.ex; rfl
  · obtain ⟨al, be, a, b, c, d, rfl, hA, hB, a1, b1, c1, d1, q⟩ := h.ex
    refine ⟨_, PSs.nox (pss_cons (ps_expr (pe_cal C_P_check_algebra (hr.mono (by decide)) (pa_cons (pv 0) pa_nil)))
      (pss_cons (ps_expr (pe_cal C_P_check_algebra (hr.mono (by decide)) (pa_cons (pv 1) pa_nil)))
      (pss_cons (ps_expr (pe_cal C_P_check_side (hr.mono (by decide)) (pa_cons (pv 0) pa_nil)))
      (pss_one (ps_expr (pe_cal C_P_check_side (hr.mono (by decide)) (pa_cons (pv 1) pa_nil))))))), ?_⟩
    refine ⟨_, rfl, al, a, b, rfl, hA, _, rfl, be, c, d, rfl, hB, ?_⟩
    exact ⟨_, rfl, al, a, b, rfl, hA, a1, b1, _, rfl, be, c, d, rfl, hB, c1, d1, q⟩
end
end Sf

namespace Sf
open PySem PySem.Spec PyProof.Rows L2
open Classical in
/-- whether a number is a square at a place, as a truth value -/
noncomputable def sqB (n p : Int) : Bool := decide (SqAt n p true)
open Classical in
theorem sqB_is {n p : Int} (hp : p = 0 ∨ PrP p) {r : Bool} (h : SqAt n p r) : r = sqB n p := by
  unfold sqB
  cases r with
  | true => exact (decide_eq_true h).symm
  | false => exact (decide_eq_false fun z => Bool.noConfusion (sqAt_uni hp h z)).symm
/-- the places at which a number is a square -/
noncomputable def sqL (n : Int) (l : List Int) : List Int := l.filter (sqB n)
theorem sqL_step {n : Int} {l : List Int} {i : Nat} {p : Int} (h : l[i]? = some p) : sqL n (l.take (i + 1)) = sqL n (l.take i) ++ cond (sqB n p) [p] [] := by
  unfold sqL
  rw [List.take_add_one, h, List.filter_append]
  cases e : sqB n p <;> simp [e]
theorem sqL_len (n : Int) (l : List Int) : (sqL n l).length ≤ l.length := List.length_filter_le _ _
/-- the places of small numbers are small -/
theorem place_le4 {a b p : Int} {l : List Int} (h : PlacesOf a b l) (a0 : a ≠ 0) (b0 : b ≠ 0) (a1 : a.natAbs ≤ 10000) (b1 : b.natAbs ≤ 10000) (hp : p ∈ l) : 0 ≤ p ∧ p ≤ 10000 := by
  obtain ⟨g, n⟩ := (h.2 p).mp hp
  rcases g with e | g
  · omega
  · refine ⟨by have := g.1; omega, ?_⟩
    by_cases c : p = 2
    · omega
    · have dv : ∀ {n : Int}, n ≠ 0 → n % p = 0 → p ≤ n.natAbs := fun {n} n0 d => by
        obtain ⟨k, hk⟩ := Int.dvd_of_emod_eq_zero d
        have k0 : k ≠ 0 := fun z => n0 (by rw [hk, z, Int.mul_zero])
        have p2 := g.1
        have e : n.natAbs = p.natAbs * k.natAbs := by rw [hk]; exact Int.natAbs_mul _ _
        have : p.natAbs * 1 ≤ p.natAbs * k.natAbs := Nat.mul_le_mul_left _ (by omega)
        omega
      by_cases ca : a % p = 0
      · have := dv a0 ca
        omega
      · by_cases cb : b % p = 0
        · have := dv b0 cb
          omega
        · exact absurd (sign_far g c ca cb n) (by decide)
theorem asc_few : ∀ {l : List Int} {lo hi : Int}, l.Pairwise (· < ·) → (∀ x ∈ l, lo ≤ x ∧ x ≤ hi) → (l.length : Int) ≤ max 0 (hi - lo + 1)
  | [], _, _, _, _ => by
    show ((0 : Nat) : Int) ≤ _
    omega
  | x :: l, lo, hi, h, g => by
    have hx := g x (by simp)
    have ih := asc_few (l := l) (lo := x + 1) (hi := hi) (List.Pairwise.of_cons h) fun y hy => ⟨by have := List.rel_of_pairwise_cons h hy; omega, (g y (List.mem_cons_of_mem _ hy)).2⟩
    rw [List.length_cons]
    push_cast
    omega
theorem places_few {a b : Int} {l : List Int} (h : PlacesOf a b l) (a0 : a ≠ 0) (b0 : b ≠ 0) (a1 : a.natAbs ≤ 10000) (b1 : b.natAbs ≤ 10000) : l.length ≤ 10001 := by
  have := asc_few (lo := 0) (hi := 10000) h.1 fun x hx => place_le4 h a0 b0 a1 b1 hx
  omega
section
variable {P : Program} {w : World} {K : PySem.W.Frag} {mg : Str → Option Value} {base : Heap} {f : Addr} {fd : FuncData} {CR CA CF : Addr}
/-- an integer that is no square, of a size of at most 10000 -/
def NoSq (n : Int) : Prop := n ≠ 0 ∧ n.natAbs ≤ 10000 ∧ ∀ k : Nat, n ≠ (k : Int) * k
/-- whether an integer is the square of an integer -/
def sqN (n : Int) : Bool := decide (0 ≤ n ∧ PySem.Float64.isqrt n.toNat * PySem.Float64.isqrt n.toNat = n.toNat)
theorem sqN_iff {n : Int} : sqN n = true ↔ ∃ k : Nat, n = (k : Int) * k := by
  unfold sqN
  rw [decide_eq_true_iff]
  constructor
  · rintro ⟨h0, h⟩
    refine ⟨PySem.Float64.isqrt n.toNat, ?_⟩
    rw [← Int.natCast_mul, h]
    omega
  · rintro ⟨k, hk⟩
    rw [← Int.natCast_mul] at hk
    refine ⟨by omega, ?_⟩
    have e : n.toNat = k * k := by omega
    rw [e]
    obtain ⟨s1, s2⟩ := PySem.Float64.isqrt_spec (k * k)
    generalize PySem.Float64.isqrt (k * k) = r at s1 s2 ⊢
    rcases Nat.lt_trichotomy r k with c | c | c
    · have := Nat.mul_le_mul (show r + 1 ≤ k by omega) (show r + 1 ≤ k by omega)
      omega
    · rw [c]
    · have : k * k < r * r := Nat.mul_lt_mul'' c c
      omega
theorem sqN_no {n : Int} (h : NoSq n) : sqN n = false := by
  cases e : sqN n with
  | false => rfl
  | true =>
    obtain ⟨k, hk⟩ := sqN_iff.mp e
    exact absurd hk (h.2.2 k)
def spIsSq : Sp := fun vs H Q _ => ∃ n : Int, vs = [.int n] ∧ n.natAbs ≤ 1000000000 ∧ Q (.bl (sqN n)) H
theorem ok_is_square (F : FnD K "is_square" "is_square" s_P_is_square f fd) (T : Glob mg) : FnOk P w K mg base CX0 1 f fd ["number"] spIsSq := by
  refine F.ok sc_P_is_square (fun vs H Q E h => ?_) (fun cdv A outer s H vs Q E hr h => ?_)
  · obtain ⟨n, rfl, _⟩ := h; rfl
  · obtain ⟨n, rfl, n1, q⟩ := h
    refine ⟨_, PSs.nox (pss_one (ps_ret (pe_and (pe_cmp (pc_ge (pv 0) pe_int) rfl) (pe_one (pe_cmp (pc_eqI (pe_op op_mulW (pe_callGB cr_isqrt (by rfl) T.m_isqrt (pa_cons (pv 0) pa_nil)) (pe_callGB cr_isqrt (by rfl) T.m_isqrt (pa_cons (pv 0) pa_nil))) (pv 0)) rfl))))), ?_⟩
    unfold sqN at q
    refine ⟨_, rfl, _, _, rfl, rfl, _, rfl, ifd (fun h => ?_) (fun h => ?_)⟩
    · have h : 0 ≤ n := h
      have hN : n = ((n.toNat : Nat) : Int) := by omega
      have sp := (PySem.Float64.isqrt_spec n.toNat).1
      have i1 : PySem.Float64.isqrt n.toNat ≤ 100000 := by
        rcases Nat.lt_or_ge 100000 (PySem.Float64.isqrt n.toNat) with z | z
        · have := Nat.mul_le_mul z z
          omega
        · exact z
      have w1 : ((PySem.Float64.isqrt n.toNat : Nat) : Int).natAbs < 2 ^ 3000 := lt3000s (by omega) (by omega)
      refine ⟨_, rfl, n.toNat, congrArg (fun z : Int => [V.int z]) hN, Nat.lt_of_le_of_lt (by omega : n.toNat ≤ 1000000000) (by decide +kernel), ?_⟩
      refine ⟨_, rfl, n.toNat, congrArg (fun z : Int => [V.int z]) hN, Nat.lt_of_le_of_lt (by omega : n.toNat ≤ 1000000000) (by decide +kernel), _, _, rfl, rfl, CMulW.of w1 w1, _, rfl, _, _, rfl, rfl, ?_⟩
      show Q (.bl (decide (((PySem.Float64.isqrt n.toNat : Nat) : Int) * ((PySem.Float64.isqrt n.toNat : Nat) : Int) = n))) H
      have e : decide (((PySem.Float64.isqrt n.toNat : Nat) : Int) * ((PySem.Float64.isqrt n.toNat : Nat) : Int) = n) = decide (0 ≤ n ∧ PySem.Float64.isqrt n.toNat * PySem.Float64.isqrt n.toNat = n.toNat) := by
        rw [decide_eq_decide, ← Int.natCast_mul]
        generalize PySem.Float64.isqrt n.toNat * PySem.Float64.isqrt n.toNat = r
        omega
      rw [e]
      exact q
    · have h : ¬ 0 ≤ n := h
      rw [decide_eq_false (fun z => h z.1)] at q
      exact q
structure ChkRP (CA : Addr) (vs : List V) (H : Hp) (Q : VK) : Prop where
  ex : ∃ (al : Addr) (a b n : Int), vs = [.ref al, .int n] ∧ AlgAt CA H al a b ∧ a.natAbs ≤ 10000 ∧ b.natAbs ≤ 10000 ∧ NoSq n ∧ Q .non H
def spChkR (CA : Addr) : Sp := fun vs H Q _ => ChkRP CA vs H Q
theorem ok_check_root (F : FnD K "check_root" "check_root" s_P_check_root f fd) (T : Glob mg) (C_P_check_algebra : Cal P w K mg base 1 "check_algebra" ["value"] (spIsAlg CA)) (C_P_is_integer : Cal P w K mg base 1 "is_integer" ["value"] (spIsInt K)) (C_P_is_square : Cal P w K mg base 1 "is_square" ["number"] spIsSq) (C_P_check_side : Cal P w K mg base 1 "check_side" ["algebra"] (spSide CA)) : FnOk P w K mg base CX0 2 f fd ["algebra", "number"] (spChkR CA) := by
  refine F.ok sc_P_check_root (fun vs H Q E h => ?_) (fun cdv A outer s H vs Q E hr h => ?_)
  · obtain ⟨al, a, b, n, rfl, _⟩ := h.ex; rfl
  · obtain ⟨al, a, b, n, rfl, hA, a1, b1, hn, q⟩ := h.ex
    obtain ⟨tM, hc_MAX_SIDE⟩ := T.m_MAX_SIDE
    refine ⟨_, PSs.nox (pss_cons (ps_expr (pe_cal C_P_check_algebra (hr.mono (by decide)) (pa_cons (pv 0) pa_nil)))
      (pss_cons (ps_if (PW.pt (pw_or (pt_not (pt_val (pe_cal C_P_is_integer (hr.mono (by decide)) (pa_cons (pv 1) pa_nil)))) (pw_or (pt_cmp (pc_eqI (pv 1) pe_int)) (pw_or (pt_cmp (pc_gt (pe_callB call_abs (by rfl) T.m_abs (by decide +kernel) (pa_cons (pv 1) pa_nil)) (pe_glob (v := .int 10000) rfl hc_MAX_SIDE ⟨_, rfl⟩))) (pw_or1 (pt_val (pe_cal C_P_is_square (hr.mono (by decide)) (pa_cons (pv 1) pa_nil)))))))) (pss_one ps_never) pss_nil)
      (pss_one (ps_expr (pe_cal C_P_check_side (hr.mono (by decide)) (pa_cons (pv 0) pa_nil)))))), ?_⟩
    refine ⟨_, rfl, al, a, b, rfl, hA, ?_⟩
    refine ⟨_, rfl, .int n, true, rfl, .int n, ?_⟩
    refine ⟨_, rfl, (if_neg (by decide)).mpr ?_⟩
    have ha : (if n < 0 then -n else n) ≤ 10000 := by
      have := hn.2.1
      split <;> omega
    refine ⟨_, rfl, _, _, rfl, rfl, _, rfl, ifd (fun h => absurd h hn.1) (fun _ => ?_)⟩
    refine ⟨_, rfl, n, rfl, _, _, rfl, rfl, _, rfl, ifd (fun h => absurd h (by omega)) (fun _ => ?_)⟩
    refine ⟨_, rfl, n, rfl, (by have := hn.2.1; omega), _, rfl, (if_neg (by rw [sqN_no hn]; decide)).mpr ?_⟩
    exact ⟨_, rfl, al, a, b, rfl, hA, a1, b1, q⟩
def iSeq (K : PySem.W.Frag) (tl : TE) : TI := fun σ H R => tl σ H fun x H1 => ∃ a, x = .ref a ∧ (((∃ xs, SqL K H1 a xs) ∧ R (Itl K a) H1) ∨ ((∃ xs, SqT K H1 a xs) ∧ R (Itt K a) H1))
theorem pi_seq {X : Cx} {tg l : Expr} {tl : TE} (hl : PE X l tl) : PI X tg l (iSeq X.K tl) := by
  refine ⟨fun pins s σ H R I h => ?_⟩
  refine thn (hl.run pins s σ H _ I h) fun v s1 ⟨x, H1, I1, r1, q1⟩ => ?_
  obtain ⟨a, e, q⟩ := q1
  subst e
  cases r1
  rcases q with ⟨⟨xs, hq⟩, q⟩ | ⟨⟨xs, hq⟩, q⟩
  · obtain ⟨its, rv, p, hz⟩ := I1.list hq
    refine wpAny_pyIter_list p.isList ?_
    refine ⟨s1.heap.objs.size, [s1.heap.objs.size], _, _, H1, rfl, I1.kept (t' := s1.toks) fun b o e => Heap.get?_push_of_some _ e, turn_list a _, ⟨_, Heap.get?_push_size _ rfl, rfl, rfl⟩, fun b hb => ?_, q⟩
    have e : b = s1.heap.objs.size := by simpa using hb
    subst e
    exact I1.fpOk (Nat.le_refl _) (I1.hok.fresh (Nat.le_refl _))
  · obtain ⟨its, rv, p, hz⟩ := I1.tuple hq
    refine wpAny_pyIter_tuple (show s1.heap.IsTuple a its.toArray from p) ?_
    refine ⟨s1.heap.objs.size, [s1.heap.objs.size], _, _, H1, rfl, I1.kept (t' := s1.toks) fun b o e => Heap.get?_push_of_some _ e, turn_tuple a _, ⟨_, Heap.get?_push_size _ rfl, rfl, rfl⟩, fun b hb => ?_, q⟩
    have e : b = s1.heap.objs.size := by simpa using hb
    subst e
    exact I1.fpOk (Nat.le_refl _) (I1.hok.fresh (Nat.le_refl _))
/-- a list or a tuple of integers -/
def LT (H : Hp) (t : Addr) (l : List Int) : Prop := H t = some (.lst (l.map V.int)) ∨ H t = some (.tup (l.map V.int))
structure SqPlP (vs : List V) (H : Hp) (Q : VK) : Prop where
  ex : ∃ (t : Addr) (l : List Int) (n : Int), vs = [.ref t, .int n] ∧ LT H t l ∧ l.length ≤ 20000 ∧ n ≠ 0 ∧ n.natAbs ≤ 1000000000 ∧ (∀ p ∈ l, p = 0 ∨ (PrP p ∧ p ≤ 1000000000)) ∧ ∀ (D : Addr) (H' : Hp), Same H H' → H' D = some (.lst ((sqL n l).map V.int)) → Q (.ref D) H'
def spSqPl : Sp := fun vs H Q _ => SqPlP vs H Q
theorem ok_square_places (F : FnD K "square_places" "square_places" s_P_square_places f fd) (T : Glob mg) (C_P_is_square_at : Cal P w K mg base 4 "is_square_at" ["number", "place"] spSqAt) : FnOk P w K mg base CX0 5 f fd ["places", "number"] spSqPl := by
  refine F.ok sc_P_square_places (fun vs H Q E h => ?_) (fun cdv A outer s H vs Q E hr h => ?_)
  · obtain ⟨t, l, n, rfl, _⟩ := h.ex; rfl
  · obtain ⟨t, l, n, rfl, ht, hl, n0, nb, hp, q⟩ := h.ex
    refine ⟨_, PSs.nox (pss_one (ps_ret (pe_lc rfl sc_P_square_places.nd (own := [("place", 2)]) (pi_seq (pv 0)) (blkOk_by (N := ["places", "number", "place"]) (sc := defScope s_P_square_places) (by decide +kernel)) (fun _ _ _ _ _ => pg_name (i := 2) sc_P_square_places.nd rfl (Or.inl rfl)) (fun _ _ _ _ _ => pts_one (pt_val (pe_cal C_P_is_square_at (hr.mono (by decide)) (pa_cons (pv 1) (pa_cons (pv 2) pa_nil))))) (fun _ _ _ _ _ => (pv 2))))), ?_⟩
    rcases ht with ht | ht
    · refine ⟨_, rfl, t, rfl, .inl ⟨⟨_, SqL.of ht⟩, fun D hD => lc_list (K := K) (a := t) (xs := l.map V.int) (fun i H' => Same H H' ∧ H' D = some (.lst ((sqL n (l.take i)).map V.int))) ⟨same_upd hD, upd_same⟩ (fun i H' _ hp => SqL.of (hp.1 _ _ ht)) (fun i v H' hv hP => ?_) (fun H' hP => ?_)⟩⟩
      · obtain ⟨e1, hd⟩ := hP
        rw [List.getElem?_map] at hv
        obtain ⟨p, hpi, rfl⟩ := Option.map_eq_some_iff.mp hv
        have hpp := hp p (List.mem_of_getElem? hpi)
        have st := sqL_step (n := n) hpi
        have hp' : p = 0 ∨ PrP p := hpp.imp id (·.1)
        refine ⟨rfl, ?_⟩
        refine ⟨_, rfl, _, rfl, n, p, rfl, n0, nb, hpp, fun r H2 hr e2 => ⟨_, rfl, ?_⟩⟩
        rw [← sqB_is hp' hr] at st
        cases r with
        | true =>
          rw [cond_true] at st
          refine (if_pos rfl).mpr ⟨_, rfl, _, e2 _ _ hd, ?_, ?_, ?_⟩
          · rw [List.length_map]
            have k1 := sqL_len n (l.take i)
            have k2 := List.length_take_le' i l
            exact Nat.lt_of_le_of_lt (by omega : (sqL n (l.take i)).length ≤ 20000) (by decide)
          · intro b o eb
            rw [upd_ne (ne_of_none eb hD)]
            exact e2 _ _ (e1 _ _ eb)
          · rw [upd_same, st, List.map_append]
            rfl
        | false =>
          rw [cond_false, List.append_nil] at st
          exact (if_neg (by decide)).mpr ⟨e1.trans e2, by rw [st]; exact e2 _ _ hd⟩
      · obtain ⟨e1, hd⟩ := hP
        rw [List.length_map, List.take_length] at hd
        exact q D H' e1 hd
    · refine ⟨_, rfl, t, rfl, .inr ⟨⟨_, SqT.of ht⟩, fun D hD => lc_tup (K := K) (a := t) (xs := l.map V.int) (fun i H' => Same H H' ∧ H' D = some (.lst ((sqL n (l.take i)).map V.int))) ⟨same_upd hD, upd_same⟩ (fun i H' _ hp => SqT.of (hp.1 _ _ ht)) (fun i v H' hv hP => ?_) (fun H' hP => ?_)⟩⟩
      · obtain ⟨e1, hd⟩ := hP
        rw [List.getElem?_map] at hv
        obtain ⟨p, hpi, rfl⟩ := Option.map_eq_some_iff.mp hv
        have hpp := hp p (List.mem_of_getElem? hpi)
        have st := sqL_step (n := n) hpi
        have hp' : p = 0 ∨ PrP p := hpp.imp id (·.1)
        refine ⟨rfl, ?_⟩
        refine ⟨_, rfl, _, rfl, n, p, rfl, n0, nb, hpp, fun r H2 hr e2 => ⟨_, rfl, ?_⟩⟩
        rw [← sqB_is hp' hr] at st
        cases r with
        | true =>
          rw [cond_true] at st
          refine (if_pos rfl).mpr ⟨_, rfl, _, e2 _ _ hd, ?_, ?_, ?_⟩
          · rw [List.length_map]
            have k1 := sqL_len n (l.take i)
            have k2 := List.length_take_le' i l
            exact Nat.lt_of_le_of_lt (by omega : (sqL n (l.take i)).length ≤ 20000) (by decide)
          · intro b o eb
            rw [upd_ne (ne_of_none eb hD)]
            exact e2 _ _ (e1 _ _ eb)
          · rw [upd_same, st, List.map_append]
            rfl
        | false =>
          rw [cond_false, List.append_nil] at st
          exact (if_neg (by decide)).mpr ⟨e1.trans e2, by rw [st]; exact e2 _ _ hd⟩
      · obtain ⟨e1, hd⟩ := hP
        rw [List.length_map, List.take_length] at hd
        exact q D H' e1 hd
structure HasRP (CA : Addr) (vs : List V) (H : Hp) (Q : VK) : Prop where
  ex : ∃ (al : Addr) (a b n : Int), vs = [.ref al, .int n] ∧ AlgAt CA H al a b ∧ a.natAbs ≤ 10000 ∧ b.natAbs ≤ 10000 ∧ NoSq n ∧ ∀ (l : List Int) (H' : Hp), PlacesOf a b l → Same H H' → Q (.bl (decide ((sqL n l).length = 0))) H'
def spHasR (CA : Addr) : Sp := fun vs H Q _ => HasRP CA vs H Q
theorem ok_has_root (F : FnD K "has_root" "has_root" s_P_has_root f fd) (T : Glob mg) (RA : AlgK K CA) (C_P_check_root : Cal P w K mg base 2 "check_root" ["algebra", "number"] (spChkR CA)) (C_P_square_places : Cal P w K mg base 5 "square_places" ["places", "number"] spSqPl) : FnOk P w K mg base CX0 6 f fd ["algebra", "number"] (spHasR CA) := by
  refine F.ok sc_P_has_root (fun vs H Q E h => ?_) (fun cdv A outer s H vs Q E hr h => ?_)
  · obtain ⟨al, a, b, n, rfl, _⟩ := h.ex; rfl
  · obtain ⟨al, a, b, n, rfl, hA, a1, b1, hn, q⟩ := h.ex
    refine ⟨_, PSs.nox (pss_cons (ps_expr (pe_cal C_P_check_root (hr.mono (by decide)) (pa_cons (pv 0) (pa_cons (pv 1) pa_nil))))
      (pss_one (ps_ret (pe_notT (pe_cal C_P_square_places (hr.mono (by decide)) (pa_cons (pe_fld (pv 0) rfl) (pa_cons (pv 1) pa_nil))))))), ?_⟩
    refine ⟨_, rfl, _, rfl, al, a, b, n, rfl, hA, a1, b1, hn, ?_⟩
    obtain ⟨dA, pl, l, g1, g2, hP, a0, b0, _⟩ := hA.ex
    have few := places_few hP a0 b0 a1 b1
    refine ⟨_, rfl, al, CA, dA, _, .ref pl, rfl, g1, RA.own.cls, RA.n1, rfl, _, rfl, pl, l, n, rfl, .inr g2, by omega, hn.1, by have := hn.2.1; omega, fun p hp => ?_, fun D H' e1 hD => ?_⟩
    · have hle := place_le4 hP a0 b0 a1 b1 hp
      obtain ⟨k1, _⟩ := (hP.2 p).mp hp
      exact k1.imp id fun k => ⟨k, by omega⟩
    · have z := q l H' hP e1
      refine ⟨_, .inl ⟨_, SqL.of hD, rfl⟩, ?_⟩
      rw [show (!(!((sqL n l).map V.int).isEmpty)) = decide ((sqL n l).length = 0) by cases sqL n l <;> rfl]
      exact z
theorem nosq_neg {n : Int} (h : n < 0) (b : n.natAbs ≤ 10000) : NoSq n := ⟨by omega, b, fun k e => by
  have : 0 ≤ (k : Int) * k := by rw [← Int.natCast_mul]; omega
  omega⟩
theorem sqN_neg {n : Int} (h : n < 0) : sqN n = false := by
  unfold sqN
  exact decide_eq_false fun z => by omega
theorem sqL_mem {n p : Int} {l : List Int} : p ∈ sqL n l ↔ p ∈ l ∧ SqAt n p true := by
  classical
  unfold sqL sqB
  rw [List.mem_filter, decide_eq_true_iff]
end
end Sf

namespace Sf
open PySem PySem.Spec PyProof.Rows L2
/-- no divisor from 2 on below t -/
def NoDv (n t : Int) : Prop := 2 ≤ t ∧ ∀ k : Int, 2 ≤ k → k < t → n % k ≠ 0
theorem nodv_prime {n t : Int} (h : NoDv n t) (d : n % t = 0) : PrP t := ⟨h.1, fun k k2 hk hz => h.2 k k2 hk (mod_of_dvd d hz)⟩
/-- what is known of the primes of N while they are taken out one by one -/
structure PartJ (N : Int) (ks : List Int) (left t : Int) : Prop where
  nod : NoDv left t
  pos : 1 ≤ left
  pr : ∀ k ∈ ks, PrP k ∧ N % k = 0
  dv : ∀ p, PrP p → N % p = 0 → p ∈ ks ∨ left % p = 0
  ld : ∀ p : Int, left % p = 0 → N % p = 0
  le : left ≤ N
  len : (ks.length : Int) ≤ t - 2
  pw : 2 ^ ks.length * left ≤ N
theorem partj_start {N : Int} (h : 1 ≤ N) : PartJ N [] N 2 := ⟨⟨by decide, fun k h1 h2 => by omega⟩, h, fun k hk => (by cases hk), fun p _ d => .inr d, fun _ d => d, Int.le_refl _, (by decide), (by rw [List.length_nil, Int.pow_zero, Int.one_mul]; exact Int.le_refl _)⟩
theorem dvd_mod {a b : Int} : a % b = 0 ↔ b ∣ a := ⟨Int.dvd_of_emod_eq_zero, Int.emod_eq_zero_of_dvd⟩
theorem partj_step {N left left' t : Int} {ks : List Int} {m : Nat} (h : PartJ N ks left t) (hS : left = t ^ m * left') (hn : left' % t ≠ 0) (hp : 1 ≤ left') :
    (m = 0 → PartJ N ks left' (t + 1)) ∧ (0 < m → PrP t ∧ PartJ N (ks ++ [t]) left' (t + 1)) := by
  have dv' : left' ∣ left := ⟨t ^ m, by rw [hS, Int.mul_comm]⟩
  have t2 := h.nod.1
  have ldv : ∀ p : Int, left' % p = 0 → left % p = 0 := fun p d => dvd_mod.mpr (Int.dvd_trans (dvd_mod.mp d) dv')
  have nod : NoDv left' (t + 1) := by
    refine ⟨by omega, fun k k2 hk hz => ?_⟩
    by_cases c : k = t
    · rw [c] at hz
      exact hn hz
    · exact h.nod.2 k k2 (by omega) (ldv k hz)
  have le' : left' ≤ left := Int.le_of_dvd (by have := h.pos; omega) dv'
  constructor
  · intro m0
    rw [m0, Int.pow_zero, Int.one_mul] at hS
    subst hS
    exact ⟨nod, hp, h.pr, h.dv, h.ld, h.le, by have := h.len; omega, h.pw⟩
  · intro m0
    have td : left % t = 0 := by
      rw [dvd_mod, hS]
      obtain ⟨j, rfl⟩ : ∃ j, m = j + 1 := ⟨m - 1, by omega⟩
      rw [Int.pow_succ]
      exact ⟨t ^ j * left', by rw [Int.mul_comm (t ^ j) t, Int.mul_assoc]⟩
    have pt : PrP t := nodv_prime h.nod td
    refine ⟨pt, nod, hp, fun k hk => ?_, fun p hP d => ?_, fun p d => h.ld p (ldv p d), Int.le_trans le' h.le, ?_, ?_⟩
    · rcases List.mem_append.mp hk with hk | hk
      · exact h.pr k hk
      · rw [List.mem_singleton.mp hk]
        exact ⟨pt, h.ld t td⟩
    · rcases h.dv p hP d with c | c
      · exact .inl (List.mem_append_left _ c)
      · by_cases e : p = t
        · exact .inl (List.mem_append_right _ (by rw [e]; exact List.mem_singleton.mpr rfl))
        · right
          rw [dvd_mod] at c ⊢
          rw [hS] at c
          rcases prime_mul hP c with c | c
          · exact absurd (prime_dvd_prime hP pt (prime_pow hP c)) e
          · exact c
    · rw [List.length_append]
      have := h.len
      show ((ks.length + 1 : Nat) : Int) ≤ _
      omega
    · rw [List.length_append, show [t].length = 1 from rfl, Int.pow_succ, Int.mul_assoc]
      refine Int.le_trans (Int.mul_le_mul_of_nonneg_left ?_ (Int.le_of_lt (Int.pow_pos (by decide)))) h.pw
      rw [hS]
      refine Int.mul_le_mul_of_nonneg_right ?_ (by omega)
      obtain ⟨j, rfl⟩ : ∃ j, m = j + 1 := ⟨m - 1, by omega⟩
      have h1 : (1 : Int) ≤ t ^ j := Int.pow_pos (by omega)
      have h2 : (1 : Int) * t ≤ t ^ j * t := Int.mul_le_mul_of_nonneg_right h1 (by omega)
      rw [Int.pow_succ]
      omega
theorem partj_few {N left t : Int} {ks : List Int} (h : PartJ N ks left t) (hN : N ≤ 1000000000) : ks.length ≤ 29 := by
  rcases Nat.lt_or_ge 29 ks.length with c | c
  · exfalso
    have h1 := h.pw
    have h2 : (2 : Int) ^ ks.length * 1 ≤ 2 ^ ks.length * left := Int.mul_le_mul_of_nonneg_left h.pos (Int.le_of_lt (Int.pow_pos (by decide)))
    have h3 : (2 : Int) ^ 30 ≤ 2 ^ ks.length := by
      rw [show ks.length = 30 + (ks.length - 30) by omega, Int.pow_add]
      have h4 : (1 : Int) ≤ 2 ^ (ks.length - 30) := Int.pow_pos (by decide)
      have : (2 : Int) ^ 30 * 1 ≤ 2 ^ 30 * 2 ^ (ks.length - 30) := Int.mul_le_mul_of_nonneg_left h4 (by decide)
      omega
    have h5 : (2 : Int) ^ 30 = 1073741824 := by decide
    omega
  · exact c
section
variable {P : Program} {w : World} {K : PySem.W.Frag} {mg : Str → Option Value} {base : Heap} {f : Addr} {fd : FuncData}
abbrev Ent := Addr × Int × Int
/-- pairs of integers that stand in a list -/
def EntAt (H : Hp) (D : Addr) (es : List Ent) : Prop := H D = some (.lst (es.map fun e => V.ref e.1)) ∧ ∀ e ∈ es, H e.1 = some (.tup [.int e.2.1, .int e.2.2])
structure LPartP (vs : List V) (H : Hp) (Q : VK) : Prop where
  ex : ∃ n : Int, vs = [.int n] ∧ n ≠ 0 ∧ n.natAbs ≤ 1000000000 ∧ ∀ (L : Addr) (es : List Ent) (H' : Hp), Same H H' → EntAt H' L es → es.length ≤ 30 → (∀ e ∈ es, PrP e.2.1 ∧ n % e.2.1 = 0) → (∀ p, PrP p → n % p = 0 → p ∈ es.map (·.2.1)) → Q (.ref L) H'
def spLPart : Sp := fun vs H Q _ => LPartP vs H Q
set_option maxHeartbeats 8000000 in
theorem ok_lparts (F : FnD K "_law_parts" "_law_parts" s_L_parts f fd) (T : Glob mg) : FnOk P w K mg base CX0 1 f fd ["_law_number"] spLPart := by
  refine F.ok sc_L_parts (fun vs H Q E h => ?_) (fun cdv A outer s H vs Q E hr h => ?_)
  · obtain ⟨n, rfl, _⟩ := h.ex; rfl
  · obtain ⟨n, rfl, n0, nb, q⟩ := h.ex
    refine ⟨_, PSs.nox (pss_cons (ps_par3 (i := 1) (j := 2) (l := 3) (by rfl) sc_L_parts.nd rfl rfl rfl (by decide) (by decide) (by decide) rfl rfl rfl (pa_cons (pe_lst pa_nil) (pa_cons (pe_callB call_abs (by rfl) T.m_abs (by decide +kernel) (pa_cons (pv 0) pa_nil)) (pa_cons pe_int pa_nil))) (by rfl))
      (pss_cons (ps_while PassesOwn.never (pt_cmp (pc_le (pe_op op_mulW (pv 3) (pv 3)) (pv 2))) (pss_cons (ps_set (i := 4) sc_L_parts.nd rfl (Or.inl rfl) pe_int)
      (pss_cons (ps_while PassesOwn.never (pt_cmp (pc_eqI (pe_op op_mod (pe_callTy call_int1 (by rfl) T.m_int (by decide +kernel) (pa_cons (pv 2) pa_nil)) (pv 3)) pe_int)) (pss_one (ps_par (i := 2) (j := 4) (by rfl) sc_L_parts.nd rfl rfl (by decide) rfl rfl (pa_cons (pe_op op_fdivW (pv 2) (pv 3)) (pa_cons (pe_op op_add (pv 4) pe_int) pa_nil)) (by rfl))))
      (pss_cons (ps_if (pt_cmp (pc_gt (pv 4) pe_int)) (pss_one (ps_expr (pe_bm PySem.F.plainAttrs_list PySem.F.slot_list_append PySem.F.type_list_append mt_append (pv 1) (pa_cons (pe_tup (pa_cons (pv 3) (pa_cons (pv 4) pa_nil))) pa_nil)))) pss_nil)
      (pss_one (ps_set (i := 3) sc_L_parts.nd rfl (Or.inl rfl) (pe_op op_add (pv 3) pe_int)))))))
      (pss_one (ps_ret (pe_op op_cat (pv 1) (pe_cut (pe_ifExp (pt_cmp (pc_gt (pv 2) pe_int)) (pe_lst (pa_cons (pe_tup (pa_cons (pv 2) (pa_cons pe_int pa_nil))) pa_nil)) (pe_lst pa_nil)))))))), ?_⟩
    obtain ⟨N, eN, hN1, hN2⟩ : ∃ N : Int, (if n < 0 then -n else n) = N ∧ 1 ≤ N ∧ N ≤ 1000000000 := ⟨_, rfl, by split <;> omega, by split <;> omega⟩
    have nN : ∀ p : Int, n % p = 0 ↔ N % p = 0 := fun p => by
      rw [dvd_mod, dvd_mod, ← eN]
      split
      · exact Int.dvd_neg.symm
      · exact Iff.rfl
    refine ⟨(by show 0 ≤ sizeLine; decide), fun D hD => ⟨_, rfl, n, rfl, _, _, _, rfl, ?_⟩⟩
    rw [eN]
    refine ⟨fun c σ H' => ∃ (es : List Ent) (left t : Int) (v4 : Option V), σ = [some (.int n), some (.ref D), some (.int left), some (.int t), v4] ∧ Same H H' ∧ EntAt H' D es ∧ PartJ N (es.map (·.2.1)) left t ∧ t ≤ 31625 ∧ c = (31626 - t).toNat, ⟨_, [], N, 2, none, rfl, same_upd hD, ⟨upd_same, fun e h => by cases h⟩, partj_start hN1, by decide, rfl⟩, ?_⟩
    rintro c σ H1 ⟨es, left, t, v4, rfl, e1, hE, hJ, t5, rfl⟩
    have t2 := hJ.nod.1
    have l1 := hJ.pos
    have lN := hJ.le
    have wt : t.natAbs < 2 ^ 3000 := lt3000s (by omega) (by omega)
    refine ⟨_, rfl, _, rfl, _, _, rfl, rfl, CMulW.of wt wt, _, rfl, t * t, left, rfl, rfl, _, rfl, ifd (fun h => ⟨fun σ' H' => ∃ m', m' < (31626 - t).toNat ∧ ∃ (es : List Ent) (left t : Int) (v4 : Option V), σ' = [some (.int n), some (.ref D), some (.int left), some (.int t), v4] ∧ Same H H' ∧ EntAt H' D es ∧ PartJ N (es.map (·.2.1)) left t ∧ t ≤ 31625 ∧ m' = (31626 - t).toNat, fun _ _ z => z, ?_⟩) (fun h => ?_)⟩
    · have tb : t ≤ 31622 := by
        by_cases c : t ≤ 31622
        · exact c
        · have : 31623 * 31623 ≤ t * t := Int.mul_le_mul (by omega) (by omega) (by decide) (by omega)
          omega
      refine ⟨fun c2 σ H' => H1 = H' ∧ ∃ (m : Nat) (u : Int), σ = [some (.int n), some (.ref D), some (.int u), some (.int t), some (.int (m : Int))] ∧ left = t ^ m * u ∧ 1 ≤ u ∧ c2 = u.natAbs, ⟨_, rfl, 0, left, rfl, by rw [Int.pow_zero, Int.one_mul], l1, rfl⟩, ?_⟩
      rintro c2 σ _ ⟨rfl, m, u, rfl, eu, u1, rfl⟩
      refine ⟨_, rfl, .inl ⟨_, rfl, _, rfl, _, _, rfl, rfl, (by omega), _, _, rfl, rfl, _, rfl, ifd (fun hd => ⟨fun σ' H' => ∃ m', m' < u.natAbs ∧ H1 = H' ∧ ∃ (m : Nat) (u : Int), σ' = [some (.int n), some (.ref D), some (.int u), some (.int t), some (.int (m : Int))] ∧ left = t ^ m * u ∧ 1 ≤ u ∧ m' = u.natAbs, fun _ _ z => z, ?_⟩) (fun hd => ?_)⟩⟩
      · have hl := strip_less (by omega : u ≠ 0) t2 hd
        have up1 : 1 ≤ u / t := by
          have := Int.ediv_nonneg (by omega : 0 ≤ u) (by omega : 0 ≤ t)
          have := hl.2.1
          omega
        refine ⟨_, rfl, _, rfl, _, _, rfl, rfl, CDivW.of (by omega) wt, _, rfl, _, _, rfl, rfl, _, _, rfl, ?_⟩
        refine ⟨_, hl.1, rfl, m + 1, u / t, rfl, ?_, up1, rfl⟩
        rw [eu, Int.pow_succ, Int.mul_assoc, ← hl.2.2]
      · obtain ⟨J1, J2⟩ := partj_step (m := m) hJ eu hd u1
        refine ⟨_, rfl, _, _, rfl, rfl, _, rfl, ifd (fun hm => ?_) (fun hm => ?_)⟩
        · obtain ⟨pt, J3⟩ := J2 (by omega)
          refine ⟨_, rfl, .inl ⟨rfl, _, SqL.of hE.1⟩, _, rfl, _, rfl, (by show 2 ≤ sizeLine; decide), fun tt htt => ?_⟩
          have e2 := same_upd (o := .tup [.int t, .int (m : Int)]) htt
          have hu : upd H1 tt (.tup [.int t, .int (m : Int)]) tt = some (.tup [.int t, .int (m : Int)]) := upd_same
          have hD2 := e2 _ _ hE.1
          have hes : ∀ e ∈ es, upd H1 tt (.tup [.int t, .int (m : Int)]) e.1 = some (.tup [.int e.2.1, .int e.2.2]) := fun e he => e2 _ _ (hE.2 e he)
          generalize upd H1 tt (.tup [.int t, .int (m : Int)]) = H2 at e2 hu hD2 hes ⊢
          have neD : ∀ x o, H2 x = some (.tup o) → x ≠ D := fun x o hx z => by
            rw [z, hD2] at hx
            cases hx
          have lk := hJ.len
          rw [List.length_map] at lk
          refine ⟨D, _, _, rfl, rfl, hD2, ?_, ?_⟩
          · rw [List.length_map]
            exact Nat.lt_of_lt_of_le (by omega : es.length < 100000) (by decide)
          refine ⟨_, rfl, _, _, rfl, rfl, ?_⟩
          refine ⟨_, (by omega : (31626 - (t + 1)).toNat < (31626 - t).toNat), es ++ [(tt, t, (m : Int))], u, t + 1, _, rfl, ?_, ⟨?_, ?_⟩, ?_, by omega, rfl⟩
          · intro b o eb
            rw [upd_ne (ne_of_none eb hD)]
            exact e2 _ _ (e1 _ _ eb)
          · rw [upd_same, List.map_append]
            rfl
          · intro e he
            rcases List.mem_append.mp he with he | he
            · rw [upd_ne (neD _ _ (hes e he))]
              exact hes e he
            · rw [List.mem_singleton.mp he, upd_ne (neD _ _ hu)]
              exact hu
          · rw [List.map_append]
            exact J3
        · refine ⟨_, rfl, _, _, rfl, rfl, ?_⟩
          exact ⟨_, (by omega : (31626 - (t + 1)).toNat < (31626 - t).toNat), es, u, t + 1, _, rfl, e1, hE, J1 (by omega), by omega, rfl⟩
    · have hlast : 1 < left → PrP left := fun hl => prp_of_trial (by omega) t2 hJ.nod.2 (by omega)
      refine ⟨_, rfl, fun x H' => ∃ (M : Addr) (es2 : List Ent), x = .ref M ∧ Same H1 H' ∧ EntAt H' M es2 ∧ ((es2 = [] ∧ left = 1) ∨ ∃ a, es2 = [(a, left, 1)] ∧ 1 < left), ?_, fun x H' hx => ?_⟩
      · refine ⟨_, rfl, _, _, rfl, rfl, _, rfl, ifd (fun hl => ?_) (fun hl => ?_)⟩
        · refine ⟨_, rfl, (by show 2 ≤ sizeLine; decide), fun a ha => ⟨(by show 1 ≤ sizeLine; decide), fun M hM => ?_⟩⟩
          have g1 := same_upd (o := .tup [.int left, .int 1]) ha
          have g2 := same_upd (o := .lst [.ref a]) hM
          refine ⟨M, [(a, left, 1)], rfl, g1.trans g2, ⟨upd_same, fun e he => ?_⟩, .inr ⟨a, rfl, hl⟩⟩
          rw [List.mem_singleton.mp he]
          exact g2 _ _ upd_same
        · refine ⟨(by show 0 ≤ sizeLine; decide), fun M hM => ⟨M, [], rfl, same_upd hM, ⟨upd_same, fun e he => by cases he⟩, .inl ⟨rfl, by omega⟩⟩⟩
      · obtain ⟨M, es2, rfl, g, hE2, hc⟩ := hx
        have lk := partj_few hJ hN2
        rw [List.length_map] at lk
        have l2 : es2.length ≤ 1 := by
          rcases hc with ⟨rfl, _⟩ | ⟨a, rfl, _⟩
          · exact Nat.zero_le _
          · exact Nat.le_refl _
        refine ⟨D, M, _, _, rfl, rfl, g _ _ hE.1, hE2.1, ?_, fun L hL => ?_⟩
        · rw [List.length_map, List.length_map]
          exact Nat.le_trans (by omega : es.length + es2.length ≤ 100000) (by decide)
        have g3 := same_upd (o := .lst (es.map (fun e => V.ref e.1) ++ es2.map fun e => V.ref e.1)) hL
        refine q L (es ++ es2) _ (e1.trans (g.trans g3)) ⟨by rw [upd_same, List.map_append], fun e he => ?_⟩ (by rw [List.length_append]; omega) (fun e he => ?_) (fun p hp hd => ?_)
        · rcases List.mem_append.mp he with he | he
          · exact g3 _ _ (g _ _ (hE.2 e he))
          · exact g3 _ _ (hE2.2 e he)
        · rcases List.mem_append.mp he with he | he
          · obtain ⟨k1, k2⟩ := hJ.pr e.2.1 (List.mem_map.mpr ⟨e, he, rfl⟩)
            exact ⟨k1, (nN _).mpr k2⟩
          · rcases hc with ⟨rfl, _⟩ | ⟨a, rfl, hl⟩
            · cases he
            · rw [List.mem_singleton.mp he]
              exact ⟨hlast hl, (nN _).mpr (hJ.ld left Int.emod_self)⟩
        · rw [List.map_append]
          rcases hJ.dv p hp ((nN p).mp hd) with c | c
          · exact List.mem_append_left _ c
          · rcases hc with ⟨rfl, hl⟩ | ⟨a, rfl, hl⟩
            · rw [hl, dvd_mod] at c
              exact absurd c (prime_one hp)
            · rw [dvd_mod] at c
              rw [prime_dvd_prime hp (hlast hl) c]
              exact List.mem_append_right _ (List.mem_singleton.mpr rfl)
end
end Sf

namespace Sf
open PySem PySem.Spec PyProof.Rows L2
theorem neg_placeA {a b p : Int} (hp : p = 0 ∨ PrP p) (h : HSign a b p (-1)) : p = 0 ∨ p = 2 ∨ (PrP p ∧ (a % p = 0 ∨ b % p = 0)) := by
  rcases hp with e | hp
  · exact .inl e
  · by_cases c : p = 2
    · exact .inr (.inl c)
    · by_cases c1 : a % p = 0
      · exact .inr (.inr ⟨hp, .inl c1⟩)
      · by_cases c2 : b % p = 0
        · exact .inr (.inr ⟨hp, .inr c2⟩)
        · exact absurd (sign_far hp c c1 c2 h) (by decide)
theorem prime2 : PrP 2 := ⟨by decide, fun k h1 h2 => by omega⟩
/-- what is sorted: 0, 2, and the primes of both numbers -/
structure NearL (a b : Int) (D : List Int) : Prop where
  asc : D.Pairwise (· < ·)
  ok : ∀ p ∈ D, p = 0 ∨ (PrP p ∧ p ≤ 1000000000)
  all : ∀ p, p = 0 ∨ p = 2 ∨ (PrP p ∧ (a % p = 0 ∨ b % p = 0)) → p ∈ D
theorem nearL_places {a b : Int} {D m : List Int} (h : NearL a b D) (hs : m.Sublist D) (hm : ∀ k, k ∈ m ↔ k ∈ D ∧ HSign a b k (-1)) : PlacesOf a b m := by
  refine ⟨h.asc.sublist hs, fun p => ?_⟩
  rw [hm]
  constructor
  · rintro ⟨h1, h2⟩
    exact ⟨(h.ok p h1).imp id (·.1), h2⟩
  · rintro ⟨h1, h2⟩
    exact ⟨h.all p (neg_placeA h1 h2), h2⟩
theorem dv_le {n p : Int} (n0 : n ≠ 0) (nb : n.natAbs ≤ 1000000000) (p2 : 2 ≤ p) (d : n % p = 0) : p ≤ 1000000000 := by
  obtain ⟨k, hk⟩ := Int.dvd_of_emod_eq_zero d
  have k0 : k ≠ 0 := fun z => n0 (by rw [hk, z, Int.mul_zero])
  have e : n.natAbs = p.natAbs * k.natAbs := by rw [hk]; exact Int.natAbs_mul _ _
  have : p.natAbs * 1 ≤ p.natAbs * k.natAbs := Nat.mul_le_mul_left _ (by omega)
  omega
section
variable {P : Program} {w : World} {K : PySem.W.Frag} {mg : Str → Option Value} {base : Heap} {f : Addr} {fd : FuncData}
structure LPlP (vs : List V) (H : Hp) (Q : VK) : Prop where
  ex : ∃ a b : Int, vs = [.int a, .int b] ∧ a ≠ 0 ∧ b ≠ 0 ∧ a.natAbs ≤ 1000000000 ∧ b.natAbs ≤ 1000000000 ∧ ∀ (l : List Int) (t : Addr) (H' : Hp), PlacesOf a b l → l.length ≤ 70 → Same H H' → H' t = some (.tup (l.map V.int)) → Q (.ref t) H'
def spLPl : Sp := fun vs H Q _ => LPlP vs H Q
set_option maxHeartbeats 8000000 in
theorem ok_lplaces (F : FnD K "_law_places" "_law_places" s_L_places f fd) (T : Glob mg) (C_L_parts : Cal P w K mg base 1 "_law_parts" ["_law_number"] spLPart) (C_L_sign : Cal P w K mg base 2 "_law_sign" ["_law_a", "_law_b", "_law_place"] spLSign) : FnOk P w K mg base CX0 3 f fd ["_law_a", "_law_b"] spLPl := by
  refine F.ok sc_L_places (fun vs H Q E h => ?_) (fun cdv A outer s H vs Q E hr h => ?_)
  · obtain ⟨a, b, rfl, _⟩ := h.ex; rfl
  · obtain ⟨a, b, rfl, a0, b0, ab, bb, q⟩ := h.ex
    have hu := hu_of hr
    refine ⟨_, PSs.nox (pss_cons (ps_set (i := 2) sc_L_places.nd rfl (Or.inl rfl) (pe_callB (cr_sortedSet rfl) (by rfl) T.m_sorted (by decide +kernel) (pa_cons (pe_callTy (cr_setL rfl) (by rfl) T.m_set (by decide +kernel) (pa_cons (pe_op op_cat (pe_op op_cat (pe_lst (pa_cons pe_int (pa_cons pe_int pa_nil))) (pe_lc rfl sc_L_places.nd (own := [("_law_part", 3)]) (pi_list (pe_cal C_L_parts (hr.mono (by decide)) (pa_cons (pv 0) pa_nil))) (blkOk_by (N := ["_law_a", "_law_b", "_law_near", "_law_part", "_law_place"]) (sc := defScope s_L_places) (by decide +kernel)) (fun _ _ _ _ _ => pg_name (i := 3) sc_L_places.nd rfl (Or.inl rfl)) (fun _ _ _ _ _ => pts_nil) (fun _ _ _ _ _ => (pe_ix (r := rIxT K) ix_tup (pv 3) pe_int (fun _ _ => rfl))))) (pe_lc rfl sc_L_places.nd (own := [("_law_part", 3)]) (pi_list (pe_cal C_L_parts (hr.mono (by decide)) (pa_cons (pv 1) pa_nil))) (blkOk_by (N := ["_law_a", "_law_b", "_law_near", "_law_part", "_law_place"]) (sc := defScope s_L_places) (by decide +kernel)) (fun _ _ _ _ _ => pg_name (i := 3) sc_L_places.nd rfl (Or.inl rfl)) (fun _ _ _ _ _ => pts_nil) (fun _ _ _ _ _ => (pe_ix (r := rIxT K) ix_tup (pv 3) pe_int (fun _ _ => rfl))))) pa_nil)) pa_nil)))
      (pss_one (ps_ret (pe_callTy call_tuple_of (by rfl) T.m_tuple (by decide +kernel) (pa_cons (pe_lc rfl sc_L_places.nd (own := [("_law_place", 4)]) (pi_list (pv 2)) (blkOk_by (N := ["_law_a", "_law_b", "_law_near", "_law_part", "_law_place"]) (sc := defScope s_L_places) (by decide +kernel)) (fun _ _ _ _ _ => pg_name (i := 4) sc_L_places.nd rfl (Or.inl rfl)) (fun _ _ _ _ _ => pts_one (pt_cmp (pc_eqI (pe_cal C_L_sign (hr.mono (by decide)) (pa_cons (pv 0) (pa_cons (pv 1) (pa_cons (pv 4) pa_nil)))) (pe_un un_neg pe_int)))) (fun _ _ _ _ _ => (pv 4))) pa_nil))))), ?_⟩
    refine ⟨(by show 2 ≤ sizeLine; decide), fun L1 h1 => ?_⟩
    have g1 := same_upd (o := .lst [.int 0, .int 2]) h1
    have k1 : upd H L1 (.lst [.int 0, .int 2]) L1 = some (.lst (([0, 2] : List Int).map V.int)) := upd_same
    generalize upd H L1 _ = H1 at g1 k1 ⊢
    refine ⟨_, rfl, ⟨a, rfl, a0, ab, fun La es H2 e2 hE hl hpr hall => ?_⟩⟩
    refine ⟨La, rfl, ⟨_, SqL.of hE.1⟩, fun D hD => lc_list (K := K) (a := La) (xs := es.map fun e => V.ref e.1) (fun i H' => Same H2 H' ∧ H' D = some (.lst (((es.map (·.2.1)).take i).map V.int))) ⟨same_upd hD, upd_same⟩ (fun i H' _ hp => SqL.of (hp.1 _ _ hE.1)) (fun i v H' hv hp => ?_) (fun H3 hp => ?_)⟩
    · obtain ⟨e3, hd⟩ := hp
      rw [List.getElem?_map] at hv
      obtain ⟨e, he, rfl⟩ := Option.map_eq_some_iff.mp hv
      have hz := e3 _ _ (hE.2 e (List.mem_of_getElem? he))
      refine ⟨rfl, ?_⟩
      refine ⟨_, rfl, e.1, _, 0, .int e.2.1, rfl, rfl, SqT.of hz, rfl, ?_⟩
      refine ⟨_, hd, ?_, ?_, ?_⟩
      · rw [List.length_map]
        have := List.length_take_le' i (es.map (·.2.1))
        rw [List.length_map] at this
        exact Nat.lt_of_le_of_lt (by omega : ((es.map (·.2.1)).take i).length ≤ 100) (by decide)
      · intro b' o eb
        rw [upd_ne (ne_of_none eb hD)]
        exact e3 _ _ eb
      · rw [upd_same, List.take_add_one, List.getElem?_map, he, List.map_append]
        rfl
    obtain ⟨e3, hd⟩ := hp
    rw [List.length_map, List.take_of_length_le (by rw [List.length_map]; exact Nat.le_refl _)] at hd
    have k1' := e3 _ _ (e2 _ _ k1)
    refine ⟨L1, D, _, _, rfl, rfl, k1', hd, ?_, fun L2 h2 => ?_⟩
    · rw [List.length_map, List.length_map, List.length_map]
      exact Nat.le_trans (show 2 + es.length ≤ 100 by omega) (by decide)
    have g2 := same_upd (o := .lst (([0, 2] : List Int).map V.int ++ (es.map (·.2.1)).map V.int)) h2
    have k2 : upd H3 L2 (.lst (([0, 2] : List Int).map V.int ++ (es.map (·.2.1)).map V.int)) L2 = some (.lst (([0, 2] ++ es.map (·.2.1) : List Int).map V.int)) := by rw [upd_same, List.map_append]
    generalize upd H3 L2 _ = H4 at g2 k2 ⊢
    refine ⟨_, rfl, ⟨b, rfl, b0, bb, fun Lb fs H5 e5 hE' hl' hpr' hall' => ?_⟩⟩
    refine ⟨Lb, rfl, ⟨_, SqL.of hE'.1⟩, fun D2 hD2 => lc_list (K := K) (a := Lb) (xs := fs.map fun e => V.ref e.1) (fun i H' => Same H5 H' ∧ H' D2 = some (.lst (((fs.map (·.2.1)).take i).map V.int))) ⟨same_upd hD2, upd_same⟩ (fun i H' _ hp => SqL.of (hp.1 _ _ hE'.1)) (fun i v H' hv hp => ?_) (fun H6 hp => ?_)⟩
    · obtain ⟨e3, hd⟩ := hp
      rw [List.getElem?_map] at hv
      obtain ⟨e, he, rfl⟩ := Option.map_eq_some_iff.mp hv
      have hz := e3 _ _ (hE'.2 e (List.mem_of_getElem? he))
      refine ⟨rfl, ?_⟩
      refine ⟨_, rfl, e.1, _, 0, .int e.2.1, rfl, rfl, SqT.of hz, rfl, ?_⟩
      refine ⟨_, hd, ?_, ?_, ?_⟩
      · rw [List.length_map]
        have := List.length_take_le' i (fs.map (·.2.1))
        rw [List.length_map] at this
        exact Nat.lt_of_le_of_lt (by omega : ((fs.map (·.2.1)).take i).length ≤ 100) (by decide)
      · intro b' o eb
        rw [upd_ne (ne_of_none eb hD2)]
        exact e3 _ _ eb
      · rw [upd_same, List.take_add_one, List.getElem?_map, he, List.map_append]
        rfl
    obtain ⟨e6, hd2⟩ := hp
    rw [List.length_map, List.take_of_length_le (by rw [List.length_map]; exact Nat.le_refl _)] at hd2
    have k2' := e6 _ _ (e5 _ _ k2)
    refine ⟨L2, D2, _, _, rfl, rfl, k2', hd2, ?_, fun L3 h3 => ?_⟩
    · rw [List.length_map, List.length_append, List.length_map, List.length_map, List.length_map]
      exact Nat.le_trans (show 2 + es.length + fs.length ≤ 100 by omega) (by decide)
    generalize hns : ([0, 2] ++ es.map (·.2.1)) ++ fs.map (·.2.1) = ns at *
    have hlen : ns.length ≤ 62 := by
      rw [← hns, List.length_append, List.length_append, List.length_map, List.length_map]
      show 2 + es.length + fs.length ≤ 62
      omega
    have g3 := same_upd (o := .lst (([0, 2] ++ es.map (·.2.1) : List Int).map V.int ++ (fs.map (·.2.1)).map V.int)) h3
    have k3 : upd H6 L3 (.lst (([0, 2] ++ es.map (·.2.1) : List Int).map V.int ++ (fs.map (·.2.1)).map V.int)) L3 = some (.lst (ns.map V.int)) := by rw [upd_same, ← hns, ← List.map_append]
    have eH := g1.trans (e2.trans (e3.trans (g2.trans (e5.trans (e6.trans g3)))))
    generalize upd H6 L3 _ = H7 at g3 k3 eH ⊢
    refine ⟨L3, ns, rfl, SqL.of k3, by omega, fun y n hn hy => ?_⟩
    refine ⟨y, _, n, rfl, upd_same, by omega, fun D3 z hD3 hm hDl hz => ?_⟩
    have hN : NearL a b D3 := by
      have mem : ∀ k, k ∈ D3 ↔ k ∈ ns := fun k => (hm k).trans decide_eq_true_iff
      refine ⟨hD3, fun p hp => ?_, fun p hp => ?_⟩
      · have hp' := (mem p).mp hp
        rw [← hns] at hp'
        rcases List.mem_append.mp hp' with hp' | hp'
        · rcases List.mem_append.mp hp' with hp' | hp'
          · rcases List.mem_cons.mp hp' with e | hp'
            · exact .inl e
            · rw [List.mem_singleton.mp hp']
              exact .inr ⟨prime2, by decide⟩
          · obtain ⟨e, he, rfl⟩ := List.mem_map.mp hp'
            obtain ⟨q1, q2⟩ := hpr e he
            exact .inr ⟨q1, dv_le a0 ab q1.1 q2⟩
        · obtain ⟨e, he, rfl⟩ := List.mem_map.mp hp'
          obtain ⟨q1, q2⟩ := hpr' e he
          exact .inr ⟨q1, dv_le b0 bb q1.1 q2⟩
      · rw [mem, ← hns]
        rcases hp with rfl | rfl | ⟨hP, hd | hd⟩
        · exact List.mem_append_left _ (List.mem_append_left _ (by decide))
        · exact List.mem_append_left _ (List.mem_append_left _ (by decide))
        · exact List.mem_append_left _ (List.mem_append_right _ (hall p hP hd))
        · exact List.mem_append_right _ (hall' p hP hd)
    have eZ := (eH.trans (same_upd (o := SetO w y (fun j => decide (j ∈ ns)) n) hy)).trans (same_upd (o := .lst (D3.map V.int)) hz)
    have kz : upd (upd H7 y (SetO w y (fun j => decide (j ∈ ns)) n)) z (.lst (D3.map V.int)) z = some (.lst (D3.map V.int)) := upd_same
    change gName 2 (V.ref z) _ (upd (upd H7 y (SetO w y (fun j => decide (j ∈ ns)) n)) z (.lst (D3.map V.int))) _
    generalize upd (upd H7 y (SetO w y (fun j => decide (j ∈ ns)) n)) z (.lst (D3.map V.int)) = H8 at eZ kz ⊢
    refine ⟨_, rfl, z, rfl, ⟨_, SqL.of kz⟩, fun D4 hD4 => lc_list (K := K) (a := z) (xs := D3.map V.int) (fun i H' => Same H8 H' ∧ ∃ m : List Int, H' D4 = some (.lst (m.map V.int)) ∧ m.Sublist (D3.take i) ∧ ∀ k, k ∈ m ↔ k ∈ D3.take i ∧ HSign a b k (-1)) ⟨same_upd hD4, [], upd_same, List.Sublist.refl _, fun k => ⟨fun z => (by cases z), fun z => absurd z.1 (by simp)⟩⟩ (fun i H' _ hp => SqL.of (hp.1 _ _ kz)) (fun i v H' hv hp => ?_) (fun H9 hp => ?_)⟩
    · obtain ⟨e9, m, hmd, msub, hmm⟩ := hp
      rw [List.getElem?_map] at hv
      obtain ⟨k, hk, rfl⟩ := Option.map_eq_some_iff.mp hv
      have kP := hN.ok k (List.mem_of_getElem? hk)
      have et : D3.take (i + 1) = D3.take i ++ [k] := by rw [List.take_add_one, hk]; rfl
      refine ⟨rfl, ?_⟩
      refine ⟨_, rfl, _, rfl, _, rfl, a, b, k, rfl, a0, b0, ab, bb, kP, fun r H6 hr e6 => ?_⟩
      refine ⟨_, rfl, _, _, rfl, rfl, _, rfl, ifd (fun h => ?_) (fun h => ?_)⟩
      · have h : r = -1 := h
        subst h
        refine ⟨_, rfl, m.map V.int, e6 _ _ hmd, ?_, ?_, m ++ [k], ?_, ?_, fun j => ?_⟩
        · rw [List.length_map]
          have k1 := msub.length_le
          have k2 := List.length_take_le' i D3
          exact Nat.lt_of_le_of_lt (by omega : m.length ≤ 70) (by decide)
        · intro b' o e
          rw [upd_ne (ne_of_none e hD4)]
          exact e6 _ _ (e9 _ _ e)
        · rw [upd_same, List.map_append]; rfl
        · rw [et]
          exact msub.append (List.Sublist.refl _)
        · rw [et, List.mem_append, List.mem_append, hmm, List.mem_singleton]
          constructor
          · rintro (h | h)
            · exact ⟨.inl h.1, h.2⟩
            · exact ⟨.inr h, h ▸ hr⟩
          · rintro ⟨h | h, h2⟩
            · exact .inl ⟨h, h2⟩
            · exact .inr h
      · refine ⟨e9.trans e6, m, e6 _ _ hmd, ?_, fun j => ?_⟩
        · rw [et]
          exact msub.trans (List.sublist_append_left _ _)
        · rw [et, List.mem_append, hmm, List.mem_singleton]
          constructor
          · rintro h
            exact ⟨.inl h.1, h.2⟩
          · rintro ⟨h1 | h1, h2⟩
            · exact ⟨h1, h2⟩
            · subst h1
              exact absurd (hsign_unique (kP.imp id (·.1)) hr h2) h
    · obtain ⟨e9, m, hmd, msub, hmm⟩ := hp
      rw [List.length_map, List.take_length] at msub hmm
      refine ⟨D4, m.map V.int, rfl, .inl ⟨SqL.of hmd, fun t ht => ?_⟩⟩
      have hl := nearL_places hN msub hmm
      have ml := msub.length_le
      exact q m t _ hl (by omega) (eZ.trans (e9.trans (same_upd ht))) upd_same
end
end Sf

namespace Sf
open PySem PySem.Spec PyProof.Rows L2
/-! the places of two algebras, and the product of the primes among them -/
/-- the places of two algebras, ascending -/
def JoinL (a b c d : Int) (D : List Int) : Prop := D.Pairwise (· < ·) ∧ ∀ p, p ∈ D ↔ (p = 0 ∨ PrP p) ∧ (HSign a b p (-1) ∨ HSign c d p (-1))
theorem join_of {a b c d : Int} {l m D : List Int} (h : PlacesOf a b l) (g : PlacesOf c d m) (hD : D.Pairwise (· < ·)) (hm : ∀ p, p ∈ D ↔ p ∈ l ∨ p ∈ m) : JoinL a b c d D := ⟨hD, fun p => by
  rw [hm, h.2, g.2]
  constructor
  · rintro (z | z)
    · exact ⟨z.1, .inl z.2⟩
    · exact ⟨z.1, .inr z.2⟩
  · rintro ⟨z, y | y⟩
    · exact .inl ⟨z, y⟩
    · exact .inr ⟨z, y⟩⟩
theorem join_le4 {a b c d p : Int} {D : List Int} (h : JoinL a b c d D) (a0 : a ≠ 0) (b0 : b ≠ 0) (c0 : c ≠ 0) (d0 : d ≠ 0) (a1 : a.natAbs ≤ 10000) (b1 : b.natAbs ≤ 10000) (c1 : c.natAbs ≤ 10000) (d1 : d.natAbs ≤ 10000) (hp : p ∈ D) : 0 ≤ p ∧ p ≤ 10000 := by
  obtain ⟨g, n⟩ := (h.2 p).mp hp
  have key : ∀ {a b : Int}, a ≠ 0 → b ≠ 0 → a.natAbs ≤ 10000 → b.natAbs ≤ 10000 → HSign a b p (-1) → 0 ≤ p ∧ p ≤ 10000 := fun {a b} a0 b0 a1 b1 n => by
    rcases neg_placeA g n with e | e | ⟨hP, e⟩
    · omega
    · omega
    · have dv : ∀ {n : Int}, n ≠ 0 → n % p = 0 → p ≤ n.natAbs := fun {n} n0 d => by
        obtain ⟨k, hk⟩ := Int.dvd_of_emod_eq_zero d
        have k0 : k ≠ 0 := fun z => n0 (by rw [hk, z, Int.mul_zero])
        have p2 := hP.1
        have e : n.natAbs = p.natAbs * k.natAbs := by rw [hk]; exact Int.natAbs_mul _ _
        have : p.natAbs * 1 ≤ p.natAbs * k.natAbs := Nat.mul_le_mul_left _ (by omega)
        omega
      have := hP.1
      rcases e with e | e
      · have := dv a0 e
        omega
      · have := dv b0 e
        omega
  rcases n with n | n
  · exact key a0 b0 a1 b1 n
  · exact key c0 d0 c1 d1 n
theorem disc_pos : ∀ l : List Int, 0 < discOf l
  | [] => by decide
  | p :: l => by
    show 0 < (if p > 0 then p else 1) * discOf l
    have := disc_pos l
    split
    · exact Int.mul_pos (by assumption) this
    · omega
theorem disc_no {p : Int} (hp : PrP p) : ∀ {l : List Int}, (∀ x ∈ l, x = 0 ∨ PrP x) → p ∉ l → ¬ p ∣ discOf l
  | [], _, _, z => prime_one hp z
  | x :: l, h, n, z => by
    rcases prime_mul hp (show p ∣ (if x > 0 then x else 1) * discOf l from z) with y | y
    · split at y
      · have hx := (h x (by simp)).resolve_left (by omega)
        exact n (by rw [prime_dvd_prime hp hx y]; simp)
      · exact prime_one hp y
    · exact disc_no hp (fun q hq => h q (List.mem_cons_of_mem _ hq)) (fun q => n (List.mem_cons_of_mem _ q)) y
theorem disc_split {p : Int} (hp : PrP p) : ∀ {l : List Int}, l.Pairwise (· < ·) → (∀ x ∈ l, x = 0 ∨ PrP x) → p ∈ l → ∃ q, discOf l = p * q ∧ ¬ p ∣ q
  | [], _, _, hm => by cases hm
  | x :: l, ha, h, hm => by
    obtain ⟨a1, a2⟩ := List.pairwise_cons.mp ha
    rcases List.mem_cons.mp hm with e | e
    · subst e
      have := hp.1
      refine ⟨discOf l, ?_, disc_no hp (fun q hq => h q (List.mem_cons_of_mem _ hq)) (fun z => by have := a1 p z; omega)⟩
      show (if p > 0 then p else 1) * discOf l = _
      rw [if_pos (by omega)]
    · obtain ⟨q, e1, e2⟩ := disc_split hp a2 (fun q hq => h q (List.mem_cons_of_mem _ hq)) e
      refine ⟨(if x > 0 then x else 1) * q, ?_, fun z => ?_⟩
      · show (if x > 0 then x else 1) * discOf l = _
        rw [e1]
        exact Int.mul_left_comm ..
      · rcases prime_mul hp z with y | y
        · split at y
          · have hx := (h x (by simp)).resolve_left (by omega)
            have := prime_dvd_prime hp hx y
            have := a1 p e
            omega
          · exact prime_one hp y
        · exact e2 y
theorem disc_dvd {M : Int} : ∀ {l : List Int}, l.Pairwise (· < ·) → (∀ x ∈ l, x = 0 ∨ PrP x) → (∀ x ∈ l, PrP x → x ∣ M) → discOf l ∣ M
  | [], _, _, _ => ⟨M, (Int.one_mul _).symm⟩
  | x :: l, ha, h, g => by
    obtain ⟨a1, a2⟩ := List.pairwise_cons.mp ha
    have h' : ∀ y ∈ l, y = 0 ∨ PrP y := fun q hq => h q (List.mem_cons_of_mem _ hq)
    obtain ⟨k, hk⟩ := disc_dvd (M := M) a2 h' fun q hq => g q (List.mem_cons_of_mem _ hq)
    show (if x > 0 then x else 1) * discOf l ∣ M
    split
    · have hx := (h x (by simp)).resolve_left (by omega)
      have d := g x (by simp) hx
      rw [hk] at d
      rcases prime_mul hx d with y | ⟨j, hj⟩
      · exact absurd y (disc_no hx h' fun z => by have := a1 x z; omega)
      · exact ⟨j, by rw [hk, hj, ← Int.mul_assoc, Int.mul_comm (discOf l)]⟩
    · exact ⟨k, by rw [hk, Int.one_mul]⟩
theorem disc_len1 : ∀ {l : List Int}, (∀ x ∈ l, PrP x) → (2 : Int) ^ l.length ≤ discOf l
  | [], _ => by decide
  | x :: l, h => by
    have ih := disc_len1 (l := l) fun y hy => h y (List.mem_cons_of_mem _ hy)
    have hx := (h x (by simp)).1
    show 2 ^ (l.length + 1) ≤ (if x > 0 then x else 1) * discOf l
    rw [if_pos (by omega), Int.pow_succ, Int.mul_comm]
    have p0 : (0 : Int) < 2 ^ l.length := pow_pos_int (by decide) _
    exact Int.mul_le_mul hx ih (by omega) (by omega)
theorem disc_len : ∀ {l : List Int}, l.Pairwise (· < ·) → (∀ x ∈ l, x = 0 ∨ PrP x) → (2 : Int) ^ l.length ≤ 2 * discOf l
  | [], _, _ => by decide
  | x :: l, ha, h => by
    obtain ⟨a1, a2⟩ := List.pairwise_cons.mp ha
    have x0 : 0 ≤ x := by
      rcases h x (by simp) with e | e
      · omega
      · have := e.1
        omega
    have hl : ∀ y ∈ l, PrP y := fun y hy => (h y (List.mem_cons_of_mem _ hy)).resolve_left (by have := a1 y hy; omega)
    have ih := disc_len1 hl
    show (2 : Int) ^ (l.length + 1) ≤ 2 * ((if x > 0 then x else 1) * discOf l)
    rw [Int.pow_succ, Int.mul_comm]
    have dp := disc_pos l
    have : discOf l ≤ (if x > 0 then x else 1) * discOf l := by
      split
      · have := Int.mul_le_mul_of_nonneg_right (show 1 ≤ x by omega) (show 0 ≤ discOf l by omega)
        omega
      · omega
    omega
theorem place_dvd {a b p : Int} (hp : PrP p) (n : HSign a b p (-1)) : p ∣ 2 * a * b := by
  rcases neg_placeA (.inr hp) n with e | e | ⟨_, e | e⟩
  · have := hp.1
    omega
  · rw [e, Int.mul_assoc]
    exact Int.dvd_mul_right ..
  · exact Int.dvd_trans (Int.dvd_trans (Int.dvd_of_emod_eq_zero e) (Int.dvd_mul_left ..)) (Int.dvd_mul_right ..)
  · exact Int.dvd_trans (Int.dvd_of_emod_eq_zero e) (Int.dvd_mul_left ..)
/-- the places of small numbers are few -/
theorem places_few29 {a b : Int} {l : List Int} (h : PlacesOf a b l) (a0 : a ≠ 0) (b0 : b ≠ 0) (a1 : a.natAbs ≤ 10000) (b1 : b.natAbs ≤ 10000) : l.length ≤ 28 := by
  have ok : ∀ x ∈ l, x = 0 ∨ PrP x := fun x hx => ((h.2 x).mp hx).1
  have d := disc_dvd (M := 2 * a * b) h.1 ok fun x hx hp => place_dvd hp ((h.2 x).mp hx).2
  have ln := disc_len h.1 ok
  have ne : 2 * a * b ≠ 0 := Int.mul_ne_zero (by omega) b0
  have le : discOf l ≤ (2 * a * b).natAbs := Int.le_of_dvd (by omega) (Int.dvd_natAbs.mpr d)
  have bd : (2 * a * b).natAbs ≤ 20000 * 10000 := by
    rw [Int.natAbs_mul]
    exact Nat.mul_le_mul (by omega) b1
  rcases Nat.lt_or_ge 28 l.length with z | z
  · have g : ((2 ^ 29 : Nat) : Int) ≤ ((2 ^ l.length : Nat) : Int) := Int.ofNat_le.mpr (Nat.pow_le_pow_right (by decide) z)
    rw [Int.natCast_pow, Int.natCast_pow] at g
    have : ((2 : Nat) : Int) ^ 29 = 536870912 := by decide
    have e2 : ((2 : Nat) : Int) ^ l.length = 2 ^ l.length := rfl
    omega
  · exact z
theorem join_ok {a b c d : Int} {D : List Int} (h : JoinL a b c d D) : ∀ x ∈ D, x = 0 ∨ PrP x := fun x hx => ((h.2 x).mp hx).1
/-- at no place of its own the product of the primes, made negative, is a square -/
theorem disc_nosq {D : List Int} (ha : D.Pairwise (· < ·)) (h : ∀ x ∈ D, x = 0 ∨ PrP x) : sqL (-discOf D) D = [] := by
  refine List.eq_nil_iff_forall_not_mem.mpr fun p hp => ?_
  obtain ⟨m, s⟩ := sqL_mem.mp hp
  have hp' := h p m
  have dp := disc_pos D
  rcases hp' with e | hP
  · have g : SqAt (-discOf D) p false := .inl ⟨e, (decide_eq_false (by omega)).symm⟩
    cases sqAt_uni (.inl e) s g
  · obtain ⟨q, e1, e2⟩ := disc_split hP ha h m
    have p2 := hP.1
    have g : SqAt (-discOf D) p false := .inr ⟨by omega, 1, -q, ⟨by rw [e1, Int.pow_succ, Int.pow_zero, Int.one_mul, Int.mul_neg], fun z => e2 (Int.dvd_neg.mp (Int.dvd_of_emod_eq_zero z))⟩, rfl⟩
    cases sqAt_uni (.inr hP) s g
/-- a square at a place has the sign 1 there -/
theorem sq_sign {a b p r : Int} (hp : p = 0 ∨ PrP p) (h : SqAt a p true) (g : HSign a b p r) : r = 1 := by
  rcases h with ⟨e, h⟩ | ⟨n0, m, u, hS, h⟩
  · rcases g with ⟨_, g⟩ | ⟨g, _⟩
    · have : 0 < a := of_decide_eq_true h.symm
      rw [g, if_neg (by omega)]
    · exact absurd e g
  · rcases g with ⟨e, _⟩ | ⟨_, s, t, x, y, h1, h2, h3⟩
    · exact absurd e n0
    · obtain ⟨e1, e2⟩ := strip_unique (hp.resolve_left n0) hS h1
      subst e1 e2
      have h := (Bool.and_eq_true _ _).mp h.symm
      have m2 : m % 2 = 0 := of_decide_eq_true h.1
      have hu := h.2
      unfold sqU at hu
      rw [h3]
      unfold sgnAt
      by_cases c : p = 2
      · rw [if_pos c] at hu ⊢
        have hu := of_decide_eq_true hu
        obtain ⟨k, hk⟩ : ∃ k, u = 8 * k + 1 := ⟨u / 8, by omega⟩
        obtain ⟨j, hj⟩ : ∃ j : Nat, m = 2 * j := ⟨m / 2, by omega⟩
        have a1 : (u - 1) / 2 = 2 * (2 * k) := by omega
        have a2 : (u * u - 1) / 8 = 2 * (4 * (k * k) + k) := by
          have : u * u - 1 = 8 * (2 * (4 * (k * k) + k)) := by
            rw [hk, Int.mul_add, Int.add_mul, Int.mul_one, Int.one_mul]
            have : 8 * k * (8 * k) = 64 * (k * k) := by rw [Int.mul_assoc, Int.mul_left_comm k 8 k, ← Int.mul_assoc]; rfl
            omega
          omega
        refine if_neg ?_
        rw [a1, a2, hj]
        push_cast
        have e3 : 2 * (2 * k) * ((y - 1) / 2) + 2 * (j : Int) * ((y * y - 1) / 8) + (t : Int) * (2 * (4 * (k * k) + k)) = 2 * (2 * k * ((y - 1) / 2) + j * ((y * y - 1) / 8) + t * (4 * (k * k) + k)) := by
          rw [Int.mul_assoc, Int.mul_assoc 2 (j : Int), Int.mul_left_comm (t : Int) 2, ← Int.mul_add, ← Int.mul_add, Int.mul_assoc]
        rw [e3]
        omega
      · rw [if_neg c] at hu ⊢
        have hu := of_decide_eq_true hu
        have e4 : ¬ m * t % 2 = 1 := by
          obtain ⟨j, hj⟩ : ∃ j : Nat, m = 2 * j := ⟨m / 2, by omega⟩
          rw [hj, Nat.mul_assoc]
          omega
        rw [if_neg e4, if_neg (by omega : ¬ m % 2 = 1), hu]
        split <;> rfl
end Sf

namespace Sf
open PySem PySem.Spec PyProof.Rows L2
section
variable {P : Program} {w : World} {K : PySem.W.Frag} {mg : Str → Option Value} {base : Heap} {f : Addr} {fd : FuncData} {CR CA CF : Addr}
structure BothP (CA : Addr) (vs : List V) (H : Hp) (Q : VK) : Prop where
  ex : ∃ (al be : Addr) (a b c d : Int), vs = [.ref al, .ref be] ∧ AlgAt CA H al a b ∧ AlgAt CA H be c d ∧ a.natAbs ≤ 10000 ∧ b.natAbs ≤ 10000 ∧ c.natAbs ≤ 10000 ∧ d.natAbs ≤ 10000 ∧
    ∀ (D : List Int) (z : Addr) (H' : Hp), JoinL a b c d D → D.length ≤ 10001 → Same H H' → H' z = some (.lst (D.map V.int)) → Q (.ref z) H'
def spBoth (CA : Addr) : Sp := fun vs H Q _ => BothP CA vs H Q
set_option maxHeartbeats 8000000 in
theorem ok_places_of_both (F : FnD K "places_of_both" "places_of_both" s_P_places_of_both f fd) (T : Glob mg) (RA : AlgK K CA) : FnOk P w K mg base CX0 3 f fd ["one", "other"] (spBoth CA) := by
  refine F.ok sc_P_places_of_both (fun vs H Q E h => ?_) (fun cdv A outer s H vs Q E hr h => ?_)
  · obtain ⟨al, be, a, b, c, d, rfl, _⟩ := h.ex; rfl
  · obtain ⟨al, be, a, b, c, d, rfl, hA, hB, a1, b1, c1, d1, q⟩ := h.ex
    have hu := hu_of hr
    refine ⟨_, PSs.nox (pss_one (ps_ret (pe_callB (cr_sortedSet rfl) (by rfl) T.m_sorted (by decide +kernel) (pa_cons (pe_callTy (cr_setL rfl) (by rfl) T.m_set (by decide +kernel) (pa_cons (pe_lst (StX.pa_star (pe_fld (pv 0) rfl) (StX.pa_star (pe_fld (pv 1) rfl) pa_nil))) pa_nil)) pa_nil)))), ?_⟩
    obtain ⟨dA, pl, l, g1, g2, hP, a0, b0, _⟩ := id hA.ex
    obtain ⟨dB, pm, m, k1, k2, hR, c0, d0, _⟩ := id hB.ex
    refine ⟨_, rfl, al, CA, dA, _, .ref pl, rfl, g1, RA.own.cls, RA.n1, rfl, ?_⟩
    refine ⟨pl, l.map V.int, rfl, .inl (SqT.of g2), ?_⟩
    refine ⟨_, rfl, be, CA, dB, _, .ref pm, rfl, k1, RA.own.cls, RA.n1, rfl, ?_⟩
    refine ⟨pm, m.map V.int, rfl, .inl (SqT.of k2), ?_⟩
    have fl := places_few29 hP a0 b0 a1 b1
    have fm := places_few29 hR c0 d0 c1 d1
    have eL : l.map V.int ++ (m.map V.int ++ []) = (l ++ m).map V.int := by rw [List.append_nil, List.map_append]
    refine ⟨?_, fun x hx => ?_⟩
    · rw [eL, List.length_map, List.length_append]
      exact Nat.le_trans (by omega : l.length + m.length ≤ 56) (by decide)
    rw [eL]
    refine ⟨x, l ++ m, rfl, SqL.of upd_same, ?_, fun y n hn hy => ?_⟩
    · rw [List.length_append]; omega
    rw [List.length_append] at hn
    refine ⟨y, _, n, rfl, upd_same, by omega, fun D z hD hm hDl hz => ?_⟩
    have hJ : JoinL a b c d D := join_of hP hR hD fun p => by rw [hm, decide_eq_true_iff, List.mem_append]
    have few := asc_few (lo := 0) (hi := 10000) hD fun p hp => join_le4 hJ a0 b0 c0 d0 a1 b1 c1 d1 hp
    exact q D z _ hJ (by omega) (((same_upd hx).trans (same_upd hy)).trans (same_upd hz)) upd_same
end
end Sf

namespace Sf
open PySem PySem.Spec PyProof.Rows L2
section
variable {P : Program} {w : World} {K : PySem.W.Frag} {mg : Str → Option Value} {base : Heap} {f : Addr} {fd : FuncData} {CR CA CF : Addr}
structure ComP (CA : Addr) (vs : List V) (H : Hp) (Q : VK) : Prop where
  ex : ∃ (al be : Addr) (a b c d : Int), vs = [.ref al, .ref be] ∧ AlgAt CA H al a b ∧ AlgAt CA H be c d ∧ a.natAbs ≤ 10000 ∧ b.natAbs ≤ 10000 ∧ c.natAbs ≤ 10000 ∧ d.natAbs ≤ 10000 ∧ (∀ D, JoinL a b c d D → discOf D ≤ 1000000000) ∧
    ∀ (n : Int) (D : List Int) (H' : Hp), JoinL a b c d D → n < 0 → n.natAbs ≤ 1000000000 → sqL n D = [] → Same H H' → Q (.int n) H'
def spCom (CA : Addr) : Sp := fun vs H Q _ => ComP CA vs H Q
set_option maxHeartbeats 8000000 in
theorem ok_common_root (F : FnD K "common_root" "common_root" s_P_common_root f fd) (T : Glob mg) (C_P_check_sides : Cal P w K mg base 2 "check_sides" ["one", "other"] (spSides CA)) (C_P_places_of_both : Cal P w K mg base 3 "places_of_both" ["one", "other"] (spBoth CA)) (C_P_square_places : Cal P w K mg base 5 "square_places" ["places", "number"] spSqPl) : FnOk P w K mg base CX0 6 f fd ["one", "other"] (spCom CA) := by
  refine F.ok sc_P_common_root (fun vs H Q E h => ?_) (fun cdv A outer s H vs Q E hr h => ?_)
  · obtain ⟨al, be, a, b, c, d, rfl, _⟩ := h.ex; rfl
  · obtain ⟨al, be, a, b, c, d, rfl, hA, hB, a1, b1, c1, d1, hM, q⟩ := h.ex
    obtain ⟨tM, hc_MOST_START⟩ := T.m_MOST_START
    refine ⟨_, PSs.nox (pss_cons (ps_expr (pe_cal C_P_check_sides (hr.mono (by decide)) (pa_cons (pv 0) (pa_cons (pv 1) pa_nil))))
      (pss_cons (ps_set (i := 2) sc_P_common_root.nd rfl (Or.inl rfl) (pe_cal C_P_places_of_both (hr.mono (by decide)) (pa_cons (pv 0) (pa_cons (pv 1) pa_nil))))
      (pss_cons (ps_set (i := 3) sc_P_common_root.nd rfl (Or.inl rfl) (pe_un un_neg pe_int))
      (pss_cons (ps_for PassesOwn.never rfl (pi_list (pv 2)) (pg_name (i := 4) sc_P_common_root.nd rfl (Or.inl rfl)) (pss_one (ps_if (PW.pt (pw_and (pt_cmp (pc_gt (pv 4) pe_int)) (pw_and1 (pt_cmp (pc_le (pe_op op_mulW (pe_callB call_abs (by rfl) T.m_abs (by decide +kernel) (pa_cons (pv 3) pa_nil)) (pv 4)) (pe_glob (v := .int 100000) rfl hc_MOST_START ⟨_, rfl⟩)))))) (pss_one (ps_set (i := 3) sc_P_common_root.nd rfl (Or.inl rfl) (pe_op op_mulW (pv 3) (pv 4)))) pss_nil)))
      (pss_cons (ps_set (i := 5) sc_P_common_root.nd rfl (Or.inl rfl) (pv 3))
      (pss_cons (ps_while PassesOwn.never (pt_truth (pe_cal C_P_square_places (hr.mono (by decide)) (pa_cons (pv 2) (pa_cons (pv 5) pa_nil))) (by intro _; rfl)) (pss_one (ps_set (i := 5) sc_P_common_root.nd rfl (Or.inl rfl) (pe_op op_add (pv 5) (pv 3)))))
      (pss_one (ps_ret (pv 5))))))))), ?_⟩
    obtain ⟨dA, pl, l, g1, g2, hP, a0, b0, _⟩ := id hA.ex
    obtain ⟨dB, pm, m, k1, k2, hR, c0, d0, _⟩ := id hB.ex
    refine ⟨_, rfl, _, rfl, al, be, a, b, c, d, rfl, hA, hB, a1, b1, c1, d1, ?_⟩
    refine ⟨_, rfl, _, rfl, al, be, a, b, c, d, rfl, hA, hB, a1, b1, c1, d1, fun D z H1 hJ hl e1 hz => ?_⟩
    refine ⟨1, rfl, ?_⟩
    have hle : ∀ p ∈ D, 0 ≤ p ∧ p ≤ 10000 := fun p hp => join_le4 hJ a0 b0 c0 d0 a1 b1 c1 d1 hp
    have hD := hM D hJ
    have hok := join_ok hJ
    refine ⟨_, rfl, z, rfl, ⟨_, SqL.of hz⟩, for_list (K := K) (a := z) (xs := D.map V.int) (fun i σ H' => H1 = H' ∧ ∃ (m c : Int) (v : Option V), σ = [some (.ref al), some (.ref be), some (.ref z), some (.int (-m)), v, none] ∧ 1 ≤ m ∧ m ≤ 100000 ∧ 1 ≤ c ∧ discOf (D.take i) = m * c) ⟨rfl, 1, 1, none, rfl, by decide, by decide, by decide, rfl⟩ (fun i σ H' _ e => by rw [← e.1]; exact SqL.of hz) ?_ ?_⟩
    · rintro i y σ _ hi ⟨rfl, m, c, v, rfl, m1, m2, c1', hm⟩
      obtain ⟨p, hpi, rfl⟩ := int_of_map hi
      have pm := List.mem_of_getElem? hpi
      have pb := hle p pm
      have et : discOf (D.take (i + 1)) = discOf (D.take i) * (if p > 0 then p else 1) := by
        rw [List.take_add_one, hpi, ← disc_snoc]
        rfl
      rw [hm] at et
      have bm : (-m).natAbs ≤ 100000 := by omega
      have ea : (if -m < 0 then - -m else -m) = m := by split <;> omega
      have cm : ∀ {i j : Int}, i.natAbs ≤ 100000 → j.natAbs ≤ 100000 → CMulW i j := fun h1 h2 => CMulW.of (lt3000s (by omega) (by omega)) (lt3000s (by omega) (by omega))
      refine ⟨_, rfl, _, _, rfl, rfl, _, rfl, ifd (fun h => ?_) (fun h => ?_)⟩
      · have h : p > 0 := h
        rw [if_pos h] at et
        refine ⟨_, rfl, -m, rfl, _, rfl, _, _, rfl, rfl, cm (by rw [ea]; omega) (by omega), _, _, rfl, rfl, _, rfl, ?_⟩
        rw [ea]
        refine ifd (fun h2 => ?_) (fun h2 => ?_)
        · have h2 : m * p ≤ 100000 := h2
          refine ⟨_, rfl, _, rfl, _, _, rfl, rfl, cm bm (by omega), rfl, m * p, c, _, by rw [← Int.neg_mul]; rfl, ?_, h2, c1', by rw [et, Int.mul_right_comm]⟩
          have := Int.mul_le_mul_of_nonneg_right m1 (show 0 ≤ p by omega)
          omega
        · refine ⟨rfl, m, c * p, _, rfl, m1, m2, ?_, by rw [et, Int.mul_assoc]⟩
          have := Int.mul_le_mul_of_nonneg_right c1' (show 0 ≤ p by omega)
          omega
      · have h : ¬ p > 0 := h
        rw [if_neg h, Int.mul_one] at et
        exact ⟨rfl, m, c, _, rfl, m1, m2, c1', et⟩
    · rintro σ _ ⟨rfl, m, c, v, rfl, m1, m2, c1', hm⟩
      rw [List.length_map, List.take_length] at hm
      have hmc : m * c ≤ 1000000000 := by omega
      refine ⟨_, rfl, ?_⟩
      refine ⟨fun u σ H' => Same H1 H' ∧ ∃ k : Int, σ = [some (.ref al), some (.ref be), some (.ref z), some (.int (-m)), v, some (.int (-(m * k)))] ∧ 1 ≤ k ∧ k ≤ c ∧ u = (c - k).toNat, ⟨_, Same.refl _, 1, by rw [Int.mul_one]; rfl, by decide, c1', rfl⟩, ?_⟩
      rintro u σ H2 ⟨e2, k, rfl, k1, kc, rfl⟩
      have mk0 : 1 ≤ m * k := by
        have := Int.mul_le_mul m1 k1 (by decide) (by omega)
        omega
      have mk1 : m * k ≤ m * c := Int.mul_le_mul_of_nonneg_left kc (by omega)
      refine ⟨_, rfl, _, rfl, z, D, -(m * k), rfl, .inl (e2 _ _ hz), by omega, by omega, by omega, fun p hp => ?_, fun L H3 e3 hL => ?_⟩
      · have := hle p hp
        exact (hok p hp).imp id fun k => ⟨k, by omega⟩
      refine ⟨_, .inl ⟨_, SqL.of hL, rfl⟩, ?_⟩
      by_cases hN : sqL (-(m * k)) D = []
      · rw [hN]
        exact (if_neg (by decide)).mpr ⟨_, rfl, q _ D H3 hJ (by omega) (by omega) hN ((e1.trans e2).trans e3)⟩
      · have hkc : k ≠ c := fun z => hN (by rw [z, ← hm]; exact disc_nosq hJ.1 hok)
        refine (if_pos (by cases e : sqL (-(m * k)) D with | nil => exact absurd e hN | cons x xs => rfl)).mpr ⟨_, fun _ _ z => z, ?_⟩
        refine ⟨_, rfl, _, rfl, _, _, rfl, rfl, (c - (k + 1)).toNat, by omega, e2.trans e3, k + 1, ?_, by omega, by omega, rfl⟩
        have e : -(m * (k + 1)) = -(m * k) + -m := by rw [Int.mul_add, Int.mul_one]; omega
        rw [e]
        rfl
end
end Sf

namespace Sf
open PySem PySem.Spec PyProof.Rows L2
/-- whether a value is a common root of two algebras -/
def ComV (a b c d : Int) (v : V) : Prop := ∃ n, v = .int n ∧ n ≠ 0 ∧ n.natAbs ≤ 1000000000 ∧ sqN n = false ∧ ∀ p, (p = 0 ∨ PrP p) ∧ (HSign a b p (-1) ∨ HSign c d p (-1)) → ¬ SqAt n p true
/-- the values that are judged -/
inductive ValC (K : PySem.W.Frag) (H : Hp) : V → Prop
  | int (n : Int) : ValC K H (.int n)
  | out {v : V} (n : ∀ n, v ≠ .int n) (h : IntB K H v false) : ValC K H v
theorem sqL_nil {n : Int} {D : List Int} : sqL n D = [] ↔ ∀ p ∈ D, ¬ SqAt n p true := by
  rw [List.eq_nil_iff_forall_not_mem]
  constructor
  · exact fun h p hp z => h p (sqL_mem.mpr ⟨hp, z⟩)
  · exact fun h p hp => h p (sqL_mem.mp hp).1 (sqL_mem.mp hp).2
section
variable {P : Program} {w : World} {K : PySem.W.Frag} {mg : Str → Option Value} {base : Heap} {f : Addr} {fd : FuncData} {CR CA CF : Addr}
structure IsComP (K : PySem.W.Frag) (CA : Addr) (vs : List V) (H : Hp) (Q : VK) : Prop where
  ex : ∃ (al be : Addr) (a b c d : Int) (v : V), vs = [.ref al, .ref be, v] ∧ AlgAt CA H al a b ∧ AlgAt CA H be c d ∧ a.natAbs ≤ 10000 ∧ b.natAbs ≤ 10000 ∧ c.natAbs ≤ 10000 ∧ d.natAbs ≤ 10000 ∧ ValC K H v ∧
    ∀ (r : Bool) (H' : Hp), Same H H' → (r = true ↔ ComV a b c d v) → Q (.bl r) H'
def spIsCom (K : PySem.W.Frag) (CA : Addr) : Sp := fun vs H Q _ => IsComP K CA vs H Q
set_option maxHeartbeats 8000000 in
theorem ok_is_common_root (F : FnD K "is_common_root" "is_common_root" s_P_is_common_root f fd) (T : Glob mg) (C_P_check_sides : Cal P w K mg base 2 "check_sides" ["one", "other"] (spSides CA)) (C_P_is_integer : Cal P w K mg base 1 "is_integer" ["value"] (spIsInt K)) (C_P_is_square : Cal P w K mg base 1 "is_square" ["number"] spIsSq) (C_P_places_of_both : Cal P w K mg base 3 "places_of_both" ["one", "other"] (spBoth CA)) (C_P_square_places : Cal P w K mg base 5 "square_places" ["places", "number"] spSqPl) : FnOk P w K mg base CX0 6 f fd ["one", "other", "value"] (spIsCom K CA) := by
  refine F.ok sc_P_is_common_root (fun vs H Q E h => ?_) (fun cdv A outer s H vs Q E hr h => ?_)
  · obtain ⟨al, be, a, b, c, d, v, rfl, _⟩ := h.ex; rfl
  · obtain ⟨al, be, a, b, c, d, v, rfl, hA, hB, a1, b1, c1, d1, hv, q⟩ := h.ex
    obtain ⟨tM, hc_MAX_COMMON⟩ := T.m_MAX_COMMON
    refine ⟨_, PSs.nox (pss_cons (ps_expr (pe_cal C_P_check_sides (hr.mono (by decide)) (pa_cons (pv 0) (pa_cons (pv 1) pa_nil))))
      (pss_cons (ps_if (PW.pt (pw_or (pt_not (pt_val (pe_cal C_P_is_integer (hr.mono (by decide)) (pa_cons (pv 2) pa_nil)))) (pw_or (pt_cmp (pc_eqI (pv 2) pe_int)) (pw_or (pt_cmp (pc_gt (pe_callB call_abs (by rfl) T.m_abs (by decide +kernel) (pa_cons (pv 2) pa_nil)) (pe_glob (v := .int 1000000000) rfl hc_MAX_COMMON ⟨_, rfl⟩))) (pw_or1 (pt_val (pe_cal C_P_is_square (hr.mono (by decide)) (pa_cons (pv 2) pa_nil)))))))) (pss_one (ps_ret pe_bl)) pss_nil)
      (pss_one (ps_ret (pe_notT (pe_cal C_P_square_places (hr.mono (by decide)) (pa_cons (pe_cal C_P_places_of_both (hr.mono (by decide)) (pa_cons (pv 0) (pa_cons (pv 1) pa_nil))) (pa_cons (pv 2) pa_nil)))))))), ?_⟩
    have no : ¬ ComV a b c d v → Q (.bl false) H := fun h => q false H (Same.refl _) ⟨fun z => Bool.noConfusion z, fun z => absurd z h⟩
    obtain ⟨dA, pl, l, g1, g2, hP, a0, b0, _⟩ := id hA.ex
    obtain ⟨dB, pm, m, k1, k2, hR, c0, d0, _⟩ := id hB.ex
    refine ⟨_, rfl, _, rfl, al, be, a, b, c, d, rfl, hA, hB, a1, b1, c1, d1, ?_⟩
    cases hv with
    | out n h =>
      exact ⟨_, rfl, _, false, rfl, h, _, rfl, (if_pos (by decide)).mpr (no fun ⟨n', e, _⟩ => n n' e)⟩
    | int n =>
      refine ⟨_, rfl, .int n, true, rfl, .int n, _, rfl, (if_neg (by decide)).mpr ?_⟩
      refine ⟨_, rfl, _, _, rfl, rfl, _, rfl, ifd (fun h => ?_) (fun h0 => ?_)⟩
      · exact no fun ⟨n', e, z, _⟩ => z (V.int.inj e ▸ h)
      have ha : ((if n < 0 then -n else n) > 1000000000) ↔ ¬ n.natAbs ≤ 1000000000 := by split <;> omega
      refine ⟨_, rfl, n, rfl, _, _, rfl, rfl, _, rfl, ifd (fun h => ?_) (fun h1 => ?_)⟩
      · exact no fun ⟨n', e, _, z, _⟩ => ha.mp h (V.int.inj e ▸ z)
      have nb : n.natAbs ≤ 1000000000 := Decidable.byContradiction fun z => h1 (ha.mpr z)
      refine ⟨_, rfl, n, rfl, nb, _, rfl, ?_⟩
      by_cases hs : sqN n = true
      · refine (if_pos hs).mpr (no fun ⟨n', e, _, _, z, _⟩ => ?_)
        rw [← V.int.inj e, hs] at z
        cases z
      have hs' : sqN n = false := by cases h : sqN n <;> simp_all
      refine (if_neg hs).mpr ?_
      refine ⟨_, rfl, _, rfl, al, be, a, b, c, d, rfl, hA, hB, a1, b1, c1, d1, fun D z H1 hJ hl e1 hz => ?_⟩
      refine ⟨_, rfl, z, D, n, rfl, .inl hz, by omega, h0, nb, fun p hp => ?_, fun L H2 e2 hL => ?_⟩
      · have := join_le4 hJ a0 b0 c0 d0 a1 b1 c1 d1 hp
        exact (join_ok hJ p hp).imp id fun k => ⟨k, by omega⟩
      refine ⟨_, .inl ⟨_, SqL.of hL, rfl⟩, ?_⟩
      rw [show (!(!((sqL n D).map V.int).isEmpty)) = decide (sqL n D = []) by cases sqL n D <;> simp]
      refine q _ _ (e1.trans e2) ?_
      rw [decide_eq_true_iff, sqL_nil]
      constructor
      · intro h
        exact ⟨n, rfl, h0, nb, hs', fun p hp => h p ((hJ.2 p).mpr hp)⟩
      · rintro ⟨n', e, _, _, _, h⟩ p hp
        cases e
        exact h p ((hJ.2 p).mp hp)
theorem ok_law_is_square (F : FnD K "_law_is_square" "_law_is_square" s_L_is_square f fd) : FnOk P w K mg base CX0 1 f fd ["_law_number"] spIsSq := by
  refine F.ok sc_L_is_square (fun vs H Q E h => ?_) (fun cdv A outer s H vs Q E hr h => ?_)
  · obtain ⟨n, rfl, _⟩ := h; rfl
  · obtain ⟨n, rfl, n1, q⟩ := h
    refine ⟨_, PSs.nox (pss_cons (ps_set (i := 1) sc_L_is_square.nd rfl (Or.inl rfl) pe_int)
      (pss_cons (ps_while PassesOwn.never (PW.pt (pw_and (pt_cmp (pc_lt (pe_op op_mulW (pv 1) (pv 1)) (pv 0))) (pw_and1 (pt_cmp (pc_lt (pv 1) pe_int))))) (pss_one (ps_set (i := 1) sc_L_is_square.nd rfl (Or.inl rfl) (pe_op op_add (pv 1) pe_int))))
      (pss_one (ps_ret (pe_cmp (pc_eqI (pe_op op_mulW (pv 1) (pv 1)) (pv 0)) rfl))))), ?_⟩
    refine ⟨fun c σ H' => H' = H ∧ ∃ k : Int, σ = [some (.int n), some (.int k)] ∧ 0 ≤ k ∧ (∀ j : Nat, (j : Int) < k → (j : Int) * j < n) ∧ k ≤ 40000 ∧ c = (40000 - k).toNat, ⟨_, rfl, 0, rfl, by decide, fun j hj => by omega, by decide, rfl⟩, ?_⟩
    rintro c σ H0 ⟨rfl, k, rfl, k0, hk, hk4, rfl⟩
    have w1 : CMulW k k := CMulW.of (lt3000s (by omega) (by omega)) (lt3000s (by omega) (by omega))
    have fin : (k * k < n → k = 40000) → decide (k * k = n) = sqN n := fun h => by
      rw [Bool.eq_iff_iff, decide_eq_true_iff, sqN_iff]
      constructor
      · exact fun e => ⟨k.toNat, by rw [← e]; congr 1 <;> omega⟩
      · rintro ⟨j, hj⟩
        rcases Int.lt_trichotomy (j : Int) k with c | c | c
        · have := hk j c
          omega
        · rw [← c]; exact hj.symm
        · have l2 : k * k < (j : Int) * j := by
            have := Int.mul_lt_mul' (Int.le_of_lt c) c k0 (by omega)
            exact this
          have e := h (by omega)
          have c2 : 40001 ≤ j := by omega
          have : 40001 * 40001 ≤ j * j := Nat.mul_le_mul c2 c2
          have l3 : ((40001 * 40001 : Nat) : Int) ≤ ((j * j : Nat) : Int) := Int.ofNat_le.mpr this
          rw [Int.natCast_mul j j] at l3
          omega
    have out : (k * k < n → k = 40000) → Q (.bl (decide (k * k = n))) H0 := fun h => by rw [fin h]; exact q
    refine ⟨_, rfl, _, rfl, _, _, rfl, rfl, w1, _, rfl, _, _, rfl, rfl, _, rfl, ifd (fun h => ?_) (fun h => ?_)⟩
    · have h : k * k < n := h
      refine ⟨_, rfl, _, _, rfl, rfl, _, rfl, ifd (fun h2 => ⟨_, fun _ _ z => z, ?_⟩) (fun h2 => ?_)⟩
      · have h2 : k < 40000 := h2
        refine ⟨_, rfl, _, _, rfl, rfl, (40000 - (k + 1)).toNat, by omega, rfl, k + 1, rfl, by omega, fun j hj => ?_, by omega, rfl⟩
        rcases (by omega : (j : Int) < k ∨ k ≤ (j : Int)) with c | c
        · exact hk j c
        · have : (j : Int) = k := by omega
          rw [this]; exact h
      · have h2 : ¬ k < 40000 := h2
        exact ⟨_, rfl, _, rfl, _, _, rfl, rfl, w1, _, rfl, _, _, rfl, rfl, out fun _ => by omega⟩
    · exact ⟨_, rfl, _, rfl, _, _, rfl, rfl, w1, _, rfl, _, _, rfl, rfl, out fun z => absurd z h⟩
end
end Sf

namespace Sf
open PySem PySem.Spec PyProof.Rows L2
/-- the primes of four numbers divide a number that is not great -/
def Cov (a b c d : Int) : Prop := ∃ M : Int, M ≠ 0 ∧ M.natAbs ≤ 1000000000 ∧ ∀ p, PrP p → (p ∣ 2 * a * b ∨ p ∣ 2 * c * d) → p ∣ M
theorem cov_disc {a b c d : Int} (h : Cov a b c d) {D : List Int} (hJ : JoinL a b c d D) : discOf D ≤ 1000000000 := by
  obtain ⟨M, M0, M1, hM⟩ := h
  have d := disc_dvd (M := M) hJ.1 (join_ok hJ) fun x hx hp => hM x hp (((hJ.2 x).mp hx).2.imp (place_dvd hp) (place_dvd hp))
  have le : discOf D ≤ M.natAbs := Int.le_of_dvd (by omega) (Int.dvd_natAbs.mpr d)
  omega
theorem dvd_three {p u v w : Int} (h : PrP p) (d : p ∣ u * v * w) : p ∣ u ∨ p ∣ v ∨ p ∣ w := by
  rcases prime_mul h d with d | d
  · exact (prime_mul h d).elim .inl (.inr ∘ .inl)
  · exact .inr (.inr d)
theorem mul_bd {i j : Int} {m k : Nat} (h1 : i.natAbs ≤ m) (h2 : j.natAbs ≤ k) : (i * j).natAbs ≤ m * k := by rw [Int.natAbs_mul]; exact Nat.mul_le_mul h1 h2
theorem cov_free {a b c d : Int} (a0 : a ≠ 0) (b0 : b ≠ 0) (c0 : c ≠ 0) (d0 : d ≠ 0) (a1 : a.natAbs ≤ 100) (b1 : b.natAbs ≤ 100) (c1 : c.natAbs ≤ 100) (d1 : d.natAbs ≤ 100) : Cov a b c d := by
  refine ⟨2 * (a * b) * (c * d), Int.mul_ne_zero (Int.mul_ne_zero (by decide) (Int.mul_ne_zero a0 b0)) (Int.mul_ne_zero c0 d0), ?_, fun p hp h => ?_⟩
  · have h1 := mul_bd a1 b1
    have h2 := mul_bd c1 d1
    have h3 := mul_bd (i := 2) (m := 2) (by decide) h1
    have := mul_bd h3 h2
    omega
  · rcases h with h | h
    · rw [Int.mul_assoc 2 a b] at h
      exact Int.dvd_trans h (Int.dvd_mul_right ..)
    · rw [Int.mul_assoc 2 c d] at h
      rcases prime_mul hp h with h | h
      · exact Int.dvd_trans (Int.dvd_trans h (Int.dvd_mul_right ..)) (Int.dvd_mul_right ..)
      · exact Int.dvd_trans h (Int.dvd_mul_left ..)
/-- all primes of c and d are those of 6, a, b and n -/
theorem cov_bound {a b c d n : Int} (a0 : a ≠ 0) (b0 : b ≠ 0) (n0 : n ≠ 0) (a1 : a.natAbs ≤ 100) (bn : (b * n).natAbs ≤ 10000) (h : ∀ p, PrP p → p ∣ 2 * c * d → p ∣ 6 ∨ p ∣ a ∨ p ∣ b ∨ p ∣ n) : Cov a b c d := by
  refine ⟨6 * a * (b * n), Int.mul_ne_zero (Int.mul_ne_zero (by decide) a0) (Int.mul_ne_zero b0 n0), ?_, fun p hp k => ?_⟩
  · have h3 := mul_bd (i := 6) (m := 6) (by decide) a1
    have := mul_bd h3 bn
    omega
  · have all : p ∣ 6 ∨ p ∣ a ∨ p ∣ b ∨ p ∣ n := by
      rcases k with k | k
      · rcases dvd_three hp k with k | k | k
        · exact .inl (Int.dvd_trans k ⟨3, rfl⟩)
        · exact .inr (.inl k)
        · exact .inr (.inr (.inl k))
      · exact h p hp k
    rcases all with k | k | k | k
    · exact Int.dvd_trans (Int.dvd_trans k (Int.dvd_mul_right ..)) (Int.dvd_mul_right ..)
    · exact Int.dvd_trans (Int.dvd_trans k (Int.dvd_mul_left ..)) (Int.dvd_mul_right ..)
    · exact Int.dvd_trans (Int.dvd_trans k (Int.dvd_mul_right ..)) (Int.dvd_mul_left ..)
    · exact Int.dvd_trans (Int.dvd_trans k (Int.dvd_mul_left ..)) (Int.dvd_mul_left ..)
theorem six_dvd {p x : Int} (hp : PrP p) (h0 : 1 ≤ x) (h1 : x ≤ 3) (h : p ∣ x) : p ∣ 6 := by
  have : x = 1 ∨ x = 2 ∨ x = 3 := by omega
  rcases this with rfl | rfl | rfl
  · exact absurd h (prime_one hp)
  · exact Int.dvd_trans h ⟨3, rfl⟩
  · exact Int.dvd_trans h ⟨2, rfl⟩
section
variable {P : Program} {w : World} {K : PySem.W.Frag} {mg : Str → Option Value} {base : Heap} {f : Addr} {fd : FuncData}
structure PartP (vs : List V) (H : Hp) (Q : VK) : Prop where
  ex : ∃ (p : Addr) (n : Nat) (a b : Int), vs = [.ref p, .int a, .int b] ∧ Sk p n H ∧ n ≤ 700000 ∧ a ≠ 0 ∧ b ≠ 0 ∧ a.natAbs ≤ 100 ∧ b.natAbs ≤ 100 ∧
    ∀ (c d : Int) (t : Addr) (H' : Hp), c ≠ 0 → d ≠ 0 → c.natAbs ≤ 10000 → d.natAbs ≤ 10000 → Cov a b c d → Keep p H H' → Sk p (n + 8) H' → H' t = some (.tup [.int c, .int d]) → Q (.ref t) H'
def spPart : Sp := fun vs H Q _ => PartP vs H Q
set_option maxHeartbeats 8000000 in
theorem ok_partner (F : FnD K "_law_partner" "_law_partner" s_L_partner f fd) (T : Glob mg) (C_L_pour : Cal P w K mg base 1 "_law_pour" ["_law_jug_here", "_law_many"] spTake) (C_L_pair : Cal P w K mg base 3 "_law_pair" ["_law_jug_here"] spKPair) : FnOk P w K mg base CX0 4 f fd ["_law_jug_here", "_law_a", "_law_b"] spPart := by
  refine F.ok sc_L_partner (fun vs H Q E h => ?_) (fun cdv A outer s H vs Q E hr h => ?_)
  · obtain ⟨p, n, a, b, rfl, _⟩ := h.ex; rfl
  · obtain ⟨p, n, a, b, rfl, hs, hn, a0, b0, a1, b1, q⟩ := h.ex
    refine ⟨_, PSs.nox (pss_cons (ps_par3 (i := 3) (j := 4) (l := 5) (by rfl) sc_L_partner.nd rfl rfl rfl (by decide) (by decide) (by decide) rfl rfl rfl (pa_cons (pe_op op_add pe_int (pe_cal C_L_pour (hr.mono (by decide)) (pa_cons (pv 0) (pa_cons pe_int pa_nil)))) (pa_cons (pe_op op_add pe_int (pe_cal C_L_pour (hr.mono (by decide)) (pa_cons (pv 0) (pa_cons pe_int pa_nil)))) (pa_cons (pe_cal C_L_pour (hr.mono (by decide)) (pa_cons (pv 0) (pa_cons pe_int pa_nil))) pa_nil))) (by rfl))
      (pss_cons (ps_if (pt_cmp (pc_lt (pv 5) pe_int)) (pss_one (ps_ret (pe_cal C_L_pair (hr.mono (by decide)) (pa_cons (pv 0) pa_nil)))) pss_nil)
      (pss_cons (ps_if (pt_cmp (pc_eqI (pv 5) pe_int)) (pss_one (ps_ret (pe_tup (pa_cons (pe_op op_mulW (pe_op op_mulW (pv 1) (pv 3)) (pv 3)) (pa_cons (pe_op op_mulW (pe_op op_mulW (pv 2) (pv 4)) (pv 4)) pa_nil))))) pss_nil)
      (pss_cons (ps_if (pt_cmp (pc_eqI (pv 5) pe_int)) (pss_one (ps_ret (pe_tup (pa_cons (pv 2) (pa_cons (pv 1) pa_nil))))) pss_nil)
      (pss_cons (ps_if (pt_cmp (pc_eqI (pv 5) pe_int)) (pss_one (ps_ret (pe_ifExp (pt_cmp (pc_le (pe_callB call_abs (by rfl) T.m_abs (by decide +kernel) (pa_cons (pe_op op_mulW (pv 1) (pv 2)) pa_nil)) (pe_op op_powW pe_int pe_int))) (pe_tup (pa_cons (pv 1) (pa_cons (pe_op op_sub pe_int (pe_op op_mulW (pv 1) (pv 2))) pa_nil))) (pe_tup (pa_cons (pv 2) (pa_cons (pv 1) pa_nil)))))) pss_nil)
      (pss_cons (ps_set (i := 6) sc_L_partner.nd rfl (Or.inl rfl) (pe_op op_sub (pe_op op_mulW (pv 3) (pv 3)) (pe_op op_mulW (pe_op op_mulW (pv 1) (pv 4)) (pv 4))))
      (pss_one (ps_ret (pe_ifExp (PW.pt (pw_and (pt_cmp (pc_neI (pv 6) pe_int)) (pw_and1 (pt_cmp (pc_le (pe_callB call_abs (by rfl) T.m_abs (by decide +kernel) (pa_cons (pe_op op_mulW (pv 2) (pv 6)) pa_nil)) (pe_op op_powW pe_int pe_int)))))) (pe_tup (pa_cons (pv 1) (pa_cons (pe_op op_mulW (pv 2) (pv 6)) pa_nil))) (pe_tup (pa_cons (pv 1) (pa_cons (pv 2) pa_nil)))))))))))), ?_⟩
    refine ⟨_, rfl, take_of hs (by omega) (by decide) (by decide +kernel) fun u H1 u0 u1 k1 s1 f1 => ⟨_, _, rfl, rfl, ?_⟩⟩
    refine ⟨_, rfl, take_of s1 (by omega) (by decide) (by decide +kernel) fun v H2 v0 v1 k2 s2 f2 => ⟨_, _, rfl, rfl, ?_⟩⟩
    refine ⟨_, rfl, take_of s2 (by omega) (by decide) (by decide +kernel) fun r H3 r0 r1 k3 s3 f3 => ?_⟩
    have k123 := (k1.trans k2).trans k3
    clear k1 k2 k3 s1 s2 f1 f2 f3 hs
    refine ⟨_, _, _, rfl, ?_⟩
    have cm : ∀ {i j : Int}, i.natAbs ≤ 100000 → j.natAbs ≤ 100000 → CMulW i j := fun h1 h2 => CMulW.of (lt3000s (by omega) (by omega)) (lt3000s (by omega) (by omega))
    have out : ∀ (c d : Int) (t : Addr), H3 t = none → c ≠ 0 → d ≠ 0 → c.natAbs ≤ 10000 → d.natAbs ≤ 10000 → Cov a b c d → Q (.ref t) (upd H3 t (.tup [.int c, .int d])) := fun c d t ht c0 d0 c1 d1 cv => q c d t _ c0 d0 c1 d1 cv (k123.trans (Keep.same (same_upd ht))) ((s3.same (same_upd ht)).mono (by omega)) upd_same
    have dv2 : ∀ {p : Int}, p ∣ 2 → p ∣ 6 := fun d => Int.dvd_trans d ⟨3, rfl⟩
    have w2 : Cov a b b a := cov_bound (n := 1) a0 b0 (by decide) a1 (by omega) fun p hp h => by
      rcases dvd_three hp h with h | h | h
      · exact .inl (dv2 h)
      · exact .inr (.inr (.inl h))
      · exact .inr (.inl h)
    have ab := mul_bd a1 b1
    have ab0 := Int.mul_ne_zero a0 b0
    refine ⟨_, rfl, _, _, rfl, rfl, _, rfl, ifd (fun h => ?_) (fun _ => ?_)⟩
    · exact ⟨_, rfl, p, n + 1 + 1 + 1, rfl, s3, by omega, fun c d t H4 c0 d0 c1 d1 k4 s4 ht => q c d t H4 c0 d0 (by omega) (by omega) (cov_free a0 b0 c0 d0 a1 b1 c1 d1) (k123.trans k4) (s4.mono (by omega)) ht⟩
    refine ⟨_, rfl, _, _, rfl, rfl, _, rfl, ifd (fun h => ?_) (fun _ => ?_)⟩
    · have xu : (1 + u).natAbs ≤ 3 := by omega
      have yv : (1 + v).natAbs ≤ 3 := by omega
      have g1 := mul_bd a1 xu
      have g2 := mul_bd g1 xu
      have g3 := mul_bd b1 yv
      have g4 := mul_bd g3 yv
      refine ⟨_, rfl, _, rfl, _, _, rfl, rfl, cm (by omega) (by omega), _, rfl, _, _, rfl, rfl, cm (by omega) (by omega), _, rfl, _, rfl, _, _, rfl, rfl, cm (by omega) (by omega), _, rfl, _, _, rfl, rfl, cm (by omega) (by omega), (by show 2 ≤ sizeLine; decide), fun t ht => ?_⟩
      refine out _ _ t ht (Int.mul_ne_zero (Int.mul_ne_zero a0 (by omega)) (by omega)) (Int.mul_ne_zero (Int.mul_ne_zero b0 (by omega)) (by omega)) (by omega) (by omega) ?_
      refine cov_bound (n := 1) a0 b0 (by decide) a1 (by omega) fun p hp h => ?_
      rcases dvd_three hp h with h | h | h
      · exact .inl (dv2 h)
      · rcases dvd_three hp h with h | h | h
        · exact .inr (.inl h)
        · exact .inl (six_dvd hp (by omega) (by omega) h)
        · exact .inl (six_dvd hp (by omega) (by omega) h)
      · rcases dvd_three hp h with h | h | h
        · exact .inr (.inr (.inl h))
        · exact .inl (six_dvd hp (by omega) (by omega) h)
        · exact .inl (six_dvd hp (by omega) (by omega) h)
    refine ⟨_, rfl, _, _, rfl, rfl, _, rfl, ifd (fun h => ?_) (fun _ => ?_)⟩
    · exact ⟨_, rfl, _, rfl, (by show 2 ≤ sizeLine; decide), fun t ht => out b a t ht b0 a0 (by omega) (by omega) w2⟩
    refine ⟨_, rfl, _, _, rfl, rfl, _, rfl, ifd (fun h => ?_) (fun _ => ?_)⟩
    · have p4 : CPowW 10 4 := ⟨by decide, by decide +kernel⟩
      refine ⟨_, rfl, _, rfl, _, _, rfl, rfl, cm (by omega) (by omega), a * b, rfl, _, _, rfl, rfl, p4, _, _, rfl, rfl, _, rfl, ifd (fun h => ?_) (fun h => ?_)⟩
      · refine ⟨_, rfl, _, rfl, _, rfl, _, _, rfl, rfl, cm (by omega) (by omega), _, _, rfl, rfl, (by show 2 ≤ sizeLine; decide), fun t ht => ?_⟩
        refine out a (0 - a * b) t ht a0 (by omega) (by omega) (by omega) (cov_bound (n := 1) a0 b0 (by decide) a1 (by omega) fun p hp h => ?_)
        rcases dvd_three hp h with h | h | h
        · exact .inl (dv2 h)
        · exact .inr (.inl h)
        · rw [Int.zero_sub] at h
          rcases prime_mul hp (Int.dvd_neg.mp h) with h | h
          · exact .inr (.inl h)
          · exact .inr (.inr (.inl h))
      · exact ⟨_, rfl, _, rfl, (by show 2 ≤ sizeLine; decide), fun t ht => out b a t ht b0 a0 (by omega) (by omega) w2⟩
    have xx := mul_bd (show (1 + u).natAbs ≤ 3 by omega) (show (1 + u).natAbs ≤ 3 by omega)
    have ay := mul_bd a1 (show (1 + v).natAbs ≤ 3 by omega)
    have ayy := mul_bd ay (show (1 + v).natAbs ≤ 3 by omega)
    refine ⟨_, rfl, _, rfl, _, _, rfl, rfl, cm (by omega) (by omega), _, rfl, _, rfl, _, _, rfl, rfl, cm (by omega) (by omega), _, rfl, _, _, rfl, rfl, cm (by omega) (by omega), _, _, rfl, rfl, ?_⟩
    have hN : ((1 + u) * (1 + u) - a * (1 + v) * (1 + v)).natAbs ≤ 909 := by omega
    have wab : Cov a b a b := cov_bound (n := 1) a0 b0 (by decide) a1 (by omega) fun p hp h => by
      rcases dvd_three hp h with h | h | h
      · exact .inl (dv2 h)
      · exact .inr (.inl h)
      · exact .inr (.inr (.inl h))
    have bN := mul_bd b1 hN
    have p4 : CPowW 10 4 := ⟨by decide, by decide +kernel⟩
    refine ⟨_, rfl, _, _, rfl, rfl, _, rfl, ifn (fun h => ?_) (fun h => ?_)⟩
    · have h : (1 + u) * (1 + u) - a * (1 + v) * (1 + v) ≠ 0 := h
      refine ⟨_, rfl, _, rfl, _, _, rfl, rfl, cm (by omega) (by omega), _, rfl, _, _, rfl, rfl, p4, _, _, rfl, rfl, _, rfl, ifd (fun h2 => ?_) (fun h2 => ?_)⟩
      · have h2 : (if b * ((1 + u) * (1 + u) - a * (1 + v) * (1 + v)) < 0 then -(b * ((1 + u) * (1 + u) - a * (1 + v) * (1 + v))) else b * ((1 + u) * (1 + u) - a * (1 + v) * (1 + v))) ≤ 10000 := h2
        have b4 : (b * ((1 + u) * (1 + u) - a * (1 + v) * (1 + v))).natAbs ≤ 10000 := by
          generalize b * ((1 + u) * (1 + u) - a * (1 + v) * (1 + v)) = X at h2 ⊢
          split at h2 <;> omega
        refine ⟨_, rfl, _, rfl, _, rfl, _, _, rfl, rfl, cm (by omega) (by omega), (by show 2 ≤ sizeLine; decide), fun t ht => ?_⟩
        refine out a (b * ((1 + u) * (1 + u) - a * (1 + v) * (1 + v))) t ht a0 (Int.mul_ne_zero b0 h) (by omega) b4 (cov_bound (n := (1 + u) * (1 + u) - a * (1 + v) * (1 + v)) a0 b0 h a1 b4 fun p hp k => ?_)
        rcases dvd_three hp k with k | k | k
        · exact .inl (dv2 k)
        · exact .inr (.inl k)
        · exact .inr (.inr (prime_mul hp k))
      · exact ⟨_, rfl, _, rfl, (by show 2 ≤ sizeLine; decide), fun t ht => out a b t ht a0 b0 (by omega) (by omega) wab⟩
    · exact ⟨_, rfl, _, rfl, (by show 2 ≤ sizeLine; decide), fun t ht => out a b t ht a0 b0 (by omega) (by omega) wab⟩
end
end Sf

namespace Sf
open PySem PySem.Spec PyProof.Rows L2
/-! slices and sums of tuples of any things -/
theorem head_cut (xs : List V) (n : Nat) : cutV xs none (some (n : Int)) = xs.take n := by
  unfold cutV
  rw [HT.sIx_nat, HT.sIx_none, List.drop_zero, Nat.sub_zero]
  by_cases h : n ≤ xs.length
  · rw [Nat.min_eq_left h]
  · rw [Nat.min_eq_right (by omega), List.take_length, List.take_of_length_le (by omega)]
theorem sl_of {K : PySem.W.Frag} {H : Hp} {a : Addr} {xs ys : List V} {n : Nat} {i : Int} {Q : VK} (h : H a = some (.tup xs)) (ei : i = (n : Int)) (ey : xs.take n = ys) (q : ∀ (p : Addr) (H' : Hp), Same H H' → H' p = some (.tup ys) → Q (.ref p) H') : rSlA K (.ref a) none (some i) H Q := by
  subst ei ey
  refine ⟨a, xs, rfl, SqT.of h, fun e => q a H (Same.refl H) ?_, fun _ p hp => q p _ (same_upd hp) (by rw [upd_same, head_cut])⟩
  have c := head_cut xs n
  unfold cutV at c
  rw [e.1, e.2, List.drop_zero, Nat.sub_zero, List.take_length] at c
  rw [h, ← c]
theorem cat_of {K : PySem.W.Frag} {H : Hp} {a b : Addr} {xs ys : List V} {Q : VK} (ha : H a = some (.tup xs)) (hb : H b = some (.tup ys)) (l : xs.length + ys.length ≤ sizeLine) (q : ∀ (p : Addr) (H' : Hp), Same H H' → H' p = some (.tup (xs ++ ys)) → Q (.ref p) H') : rCatA K (.ref a) (.ref b) H Q :=
  ⟨a, b, xs, ys, rfl, rfl, SqT.of ha, SqT.of hb, l, fun e => q b H (Same.refl H) (by rw [e]; exact hb), fun _ e => q a H (Same.refl H) (by rw [e, List.append_nil]; exact ha), fun _ _ p hp => q p _ (same_upd hp) upd_same⟩
end Sf

namespace Sf
open PySem PySem.Spec PyProof.Rows L2
theorem eqv_nilC : ∀ ds : List PyData, PyData.eqv (.list ds) (.list []) = decide (ds.length = 0)
  | [] => by unfold PyData.eqv; rfl
  | d :: ds => by unfold PyData.eqv; rfl
section
variable {P : Program} {w : World} {K : PySem.W.Frag} {mg : Str → Option Value} {base : Heap} {f : Addr} {fd : FuncData} {CR CA CF : Addr}
set_option maxHeartbeats 8000000 in
theorem ok_is_due (F : FnD K "_law_is_due" "_law_is_due" s_L_is_due f fd) (T : Glob mg) (RA : AlgK K CA) (C_L_is_square : Cal P w K mg base 1 "_law_is_square" ["_law_number"] spIsSq) (C_L_places : Cal P w K mg base 3 "_law_places" ["_law_a", "_law_b"] spLPl) (C_L_is_local_square : Cal P w K mg base 2 "_law_is_local_square" ["_law_number", "_law_place"] spSqAt) :
    FnOk P w K mg base CX0 4 f fd ["_law_one", "_law_other", "_law_value"] (spIsCom K CA) := by
  refine F.ok sc_L_is_due (fun vs H Q E h => ?_) (fun cdv A outer s H vs Q E hr h => ?_)
  · obtain ⟨al, be, a, b, c, d, v, rfl, _⟩ := h.ex; rfl
  · obtain ⟨al, be, a, b, c, d, v, rfl, hA, hB, a1, b1, c1, d1, hv, q⟩ := h.ex
    refine ⟨_, PSs.nox (pss_cons (ps_if (PW.pt (pw_or (pt_not (pt_val (pe_callB call_isi (by rfl) T.m_isinstance (by decide +kernel) (pa_cons (pv 2) (pa_cons (pe_bltn (v := .ty "int") (u := .type "int") (by rfl) T.m_int (by decide +kernel) rfl) pa_nil))))) (pw_or (pt_val (pe_callB call_isi (by rfl) T.m_isinstance (by decide +kernel) (pa_cons (pv 2) (pa_cons (pe_bltn (v := .ty "bool") (u := .type "bool") (by rfl) T.m_bool (by decide +kernel) rfl) pa_nil)))) (pw_or (pt_cmp (pc_eqI (pv 2) pe_int)) (pw_or (pt_cmp (pc_gt (pe_callB call_abs (by rfl) T.m_abs (by decide +kernel) (pa_cons (pv 2) pa_nil)) (pe_op op_powW pe_int pe_int))) (pw_or1 (pt_val (pe_cal C_L_is_square (hr.mono (by decide)) (pa_cons (pv 2) pa_nil))))))))) (pss_one (ps_ret pe_bl)) pss_nil)
      (pss_cons (ps_set (i := 3) sc_L_is_due.nd rfl (Or.inl rfl) (pe_op op_catA (pe_cal C_L_places (hr.mono (by decide)) (pa_cons (pe_fld (pv 0) rfl) (pa_cons (pe_fld (pv 0) rfl) pa_nil))) (pe_cal C_L_places (hr.mono (by decide)) (pa_cons (pe_fld (pv 1) rfl) (pa_cons (pe_fld (pv 1) rfl) pa_nil)))))
      (pss_one (ps_ret (pe_cmpR (op_eqD hr.units) (pe_lc rfl sc_L_is_due.nd (own := [("_law_place", 4)]) (pi_tup (pv 3)) (blkOk_by (N := ["_law_one", "_law_other", "_law_value", "_law_some", "_law_place"]) (sc := defScope s_L_is_due) (by decide +kernel)) (fun _ _ _ _ _ => pg_name (i := 4) sc_L_is_due.nd rfl (Or.inl rfl)) (fun _ _ _ _ _ => pts_one (pt_val (pe_cal C_L_is_local_square (hr.mono (by decide)) (pa_cons (pv 2) (pa_cons (pv 4) pa_nil))))) (fun _ _ _ _ _ => (pv 4))) (pe_lst pa_nil) (nomark _)))))), ?_⟩
    have no : ¬ ComV a b c d v → Q (.bl false) H := fun h => q false H (Same.refl _) ⟨fun z => Bool.noConfusion z, fun z => absurd z h⟩
    obtain ⟨dA, pl, l0, g1, g2, hP, a0, b0, _⟩ := id hA.ex
    obtain ⟨dB, pm, m0, k1, k2, hR, c0, d0, _⟩ := id hB.ex
    cases hv with
    | out n h =>
      have no := no fun ⟨n', e, _⟩ => n n' e
      obtain ⟨U, bi, bb, ty, e1, e2, e3⟩ := h
      refine ⟨_, rfl, _, .ty "int", _, _, bi, rfl, .ty "int", ty, e1, _, rfl, ?_⟩
      cases bi with
      | false => exact (if_pos (by decide)).mpr no
      | true =>
        refine (if_neg (by decide)).mpr ?_
        refine ⟨_, rfl, _, .ty "bool", _, _, bb, rfl, .ty "bool", ty, e2, _, rfl, ?_⟩
        cases bb with
        | true => exact (if_pos rfl).mpr no
        | false => cases e3
    | int n =>
      refine ⟨_, rfl, _, .ty "int", _, _, true, rfl, .ty "int", .base (.int n), kit_ty (by decide +kernel), _, rfl, (if_neg (by decide)).mpr ?_⟩
      refine ⟨_, rfl, _, .ty "bool", _, _, false, rfl, .ty "bool", .base (.int n), kit_ty (by decide +kernel), _, rfl, (if_neg (by decide)).mpr ?_⟩
      refine ⟨_, rfl, _, _, rfl, rfl, _, rfl, ifd (fun h => ?_) (fun h0 => ?_)⟩
      · exact no fun ⟨n', e, z, _⟩ => z (V.int.inj e ▸ h)
      have ha : ((if n < 0 then -n else n) > 1000000000) ↔ ¬ n.natAbs ≤ 1000000000 := by split <;> omega
      have p9 : CPowW 10 9 := ⟨by decide, by decide +kernel⟩
      refine ⟨_, rfl, n, rfl, _, _, rfl, rfl, p9, _, _, rfl, rfl, _, rfl, ifd (fun h => ?_) (fun h1 => ?_)⟩
      · exact no fun ⟨n', e, _, z, _⟩ => ha.mp h (V.int.inj e ▸ z)
      have nb : n.natAbs ≤ 1000000000 := Decidable.byContradiction fun z => h1 (ha.mpr z)
      refine ⟨_, rfl, n, rfl, nb, _, rfl, ?_⟩
      by_cases hs : sqN n = true
      · refine (if_pos hs).mpr (no fun ⟨n', e, _, _, z, _⟩ => ?_)
        rw [← V.int.inj e, hs] at z
        cases z
      have hs' : sqN n = false := by cases h : sqN n <;> simp_all
      refine (if_neg hs).mpr ?_
      refine ⟨_, rfl, al, CA, dA, _, .int a, rfl, g1, RA.own.cls, RA.n2, rfl, _, rfl, al, CA, dA, _, .int b, rfl, g1, RA.own.cls, RA.n3, rfl, ⟨a, b, rfl, a0, b0, by omega, by omega, fun l t1 H1 hP1 hl1 e1 ht1 => ?_⟩⟩
      refine ⟨_, rfl, be, CA, dB, _, .int c, rfl, e1 _ _ k1, RA.own.cls, RA.n2, rfl, _, rfl, be, CA, dB, _, .int d, rfl, e1 _ _ k1, RA.own.cls, RA.n3, rfl, ⟨c, d, rfl, c0, d0, by omega, by omega, fun m t2 H2 hP2 hl2 e2 ht2 => ?_⟩⟩
      have e12 := e1.trans e2
      refine cat_of (e2 _ _ ht1) ht2 (by rw [List.length_map, List.length_map]; exact Nat.le_trans (by omega : l.length + m.length ≤ 140) (by decide)) fun t3 H3 e3 g3 => ?_
      rw [← List.map_append] at g3
      have e123 := e12.trans e3
      have hok : ∀ p ∈ l ++ m, (p = 0 ∨ PrP p) ∧ (HSign a b p (-1) ∨ HSign c d p (-1)) := fun p hp => by
        rcases List.mem_append.mp hp with k | k
        · have := (hP1.2 p).mp k
          exact ⟨this.1, .inl this.2⟩
        · have := (hP2.2 p).mp k
          exact ⟨this.1, .inr this.2⟩
      have hle : ∀ p ∈ l ++ m, p ≤ 10000 := fun p hp => by
        rcases List.mem_append.mp hp with k | k
        · exact (place_le4 hP1 a0 b0 a1 b1 k).2
        · exact (place_le4 hP2 c0 d0 c1 d1 k).2
      have ll : (l ++ m).length ≤ 140 := by rw [List.length_append]; omega
      have iff : sqL n (l ++ m) = [] ↔ ComV a b c d (.int n) := by
        rw [sqL_nil]
        constructor
        · intro h
          refine ⟨n, rfl, h0, nb, hs', fun p hp => h p ?_⟩
          rw [List.mem_append, hP1.2, hP2.2]
          exact hp.2.imp (fun k => ⟨hp.1, k⟩) (fun k => ⟨hp.1, k⟩)
        · rintro ⟨n', e, _, _, _, h⟩ p hp
          cases e
          exact h p (hok p hp)
      generalize l ++ m = L at *
      refine ⟨_, rfl, t3, rfl, ⟨_, SqT.of g3⟩, fun D hD => lc_tup (K := K) (a := t3) (xs := L.map V.int) (fun i H' => Same H3 H' ∧ H' D = some (.lst ((sqL n (L.take i)).map V.int))) ⟨same_upd hD, upd_same⟩ (fun i H' _ hp => SqT.of (hp.1 _ _ g3)) (fun i v H8 hv hP2 => ?_) (fun H8 hP2 => ?_)⟩
      · obtain ⟨e1, hd⟩ := hP2
        rw [List.getElem?_map] at hv
        obtain ⟨p', hpi, rfl⟩ := Option.map_eq_some_iff.mp hv
        have hmem := List.mem_of_getElem? hpi
        have hpp := (hok p' hmem).1
        have hle := hle p' hmem
        have st := sqL_step (n := n) hpi
        refine ⟨rfl, ?_⟩
        refine ⟨_, rfl, _, rfl, n, p', rfl, h0, nb, hpp.imp id fun k => ⟨k, by omega⟩, fun r G2 hr g2 => ⟨_, rfl, ?_⟩⟩
        rw [← sqB_is hpp hr] at st
        cases r with
        | true =>
          rw [cond_true] at st
          refine (if_pos rfl).mpr ⟨_, rfl, _, g2 _ _ hd, ?_, ?_, ?_⟩
          · rw [List.length_map]
            have k1 := sqL_len n (L.take i)
            have k2 := List.length_take_le' i L
            exact Nat.lt_of_le_of_lt (by omega : (sqL n (L.take i)).length ≤ 20000) (by decide)
          · intro b o eb
            rw [upd_ne (ne_of_none eb hD)]
            exact g2 _ _ (e1 _ _ eb)
          · rw [upd_same, st, List.map_append]
            rfl
        | false =>
          rw [cond_false, List.append_nil] at st
          exact (if_neg (by decide)).mpr ⟨e1.trans g2, by rw [st]; exact g2 _ _ hd⟩
      · obtain ⟨g8, hd⟩ := hP2
        rw [List.length_map, List.take_length] at hd
        refine ⟨(by show 0 ≤ sizeLine; decide), fun t0 h0 => ?_⟩
        refine ⟨_, _, dp_list (ns := sqL n L) (SqL.of (same_upd h0 _ _ hd)), dp_list (ns := []) (SqL.of upd_same), shp_list _, shp_list _, ?_⟩
        rw [show PyData.eqv (.list ((sqL n L).map PyData.int)) (.list (([] : List Int).map PyData.int)) = decide (sqL n L = []) by rw [show (.list (([] : List Int).map PyData.int) : PyData) = .list [] from rfl, eqv_nilC, List.length_map, Bool.eq_iff_iff, decide_eq_true_iff, decide_eq_true_iff, List.length_eq_zero_iff]]
        exact q _ _ ((e123.trans g8).trans (same_upd h0)) (decide_eq_true_iff.trans iff)
end
end Sf

namespace Sf
open PySem PySem.Spec PyProof.Rows L2
theorem keep_atA {p c : Addr} {n : Nat} {H H' : Hp} {o : HO} (s : Sk p n H) (k : Keep p H H') (h : H c = some o) (no : ∀ xs, o ≠ .lst xs) : H' c = some o := by
  refine k _ _ h fun z => ?_
  obtain ⟨xs, hp, _⟩ := s
  rw [z, hp] at h
  exact no _ (Option.some.inj h).symm
theorem AlgAt.keepA {CA p x : Addr} {n : Nat} {H H' : Hp} {a b : Int} (h : AlgAt CA H x a b) (s : Sk p n H) (k : Keep p H H') : AlgAt CA H' x a b := by
  obtain ⟨dx, pl, l, h1, h2, h3⟩ := h.ex
  exact ⟨dx, pl, l, keep_atA s k h1 (fun _ => HO.noConfusion), keep_atA s k h2 (fun _ => HO.noConfusion), h3⟩
theorem JoinL.comm {a b c d : Int} {D : List Int} (h : JoinL a b c d D) : JoinL c d a b D := ⟨h.1, fun p => by rw [h.2]; exact ⟨fun z => ⟨z.1, z.2.symm⟩, fun z => ⟨z.1, z.2.symm⟩⟩⟩
/-- what common_root tells is a common root -/
theorem comV_told {a b c d n : Int} {D : List Int} (hJ : JoinL a b c d D) (h0 : n < 0) (h1 : n.natAbs ≤ 1000000000) (h : sqL n D = []) : ComV a b c d (.int n) :=
  ⟨n, rfl, by omega, h1, sqN_neg h0, fun p hp => sqL_nil.mp h p ((hJ.2 p).mpr hp)⟩
/-- a number of an algebra that is no square is a common root of it and of the one with both numbers exchanged -/
theorem comV_own {a b : Int} (a0 : a ≠ 0) (a1 : a.natAbs ≤ 100) (hs : sqN a = false) : ComV a b b a (.int a) :=
  ⟨a, rfl, a0, by omega, hs, fun p hp s => by
    rcases hp.2 with g | g
    · exact absurd (sq_sign hp.1 s g) (by decide)
    · exact absurd (sq_sign hp.1 s (hsign_comm g)) (by decide)⟩
def sqs10 : List Int := [1, 4, 9, 16, 25, 36, 49, 64, 81, 100]
theorem flat_ints10 : (sqs10.map V.int).all flatV = true := rfl
theorem sqN_out {a : Int} (a0 : a ≠ 0) (a1 : a.natAbs ≤ 100) (h : a ∉ sqs10) : sqN a = false := by
  cases e : sqN a with
  | false => rfl
  | true =>
    obtain ⟨k, hk⟩ := sqN_iff.mp e
    exfalso
    have k10 : k ≤ 10 := by
      rcases Nat.lt_or_ge 10 k with c | c
      · have : 11 * 11 ≤ k * k := Nat.mul_le_mul c c
        have l3 : ((11 * 11 : Nat) : Int) ≤ ((k * k : Nat) : Int) := Int.ofNat_le.mpr this
        rw [Int.natCast_mul k k] at l3
        omega
      · exact c
    have c : k = 0 ∨ k = 1 ∨ k = 2 ∨ k = 3 ∨ k = 4 ∨ k = 5 ∨ k = 6 ∨ k = 7 ∨ k = 8 ∨ k = 9 ∨ k = 10 := by omega
    rcases c with rfl | rfl | rfl | rfl | rfl | rfl | rfl | rfl | rfl | rfl | rfl
    · exact a0 hk
    all_goals exact h (by rw [hk]; decide)
section
variable {P : Program} {w : World} {K : PySem.W.Frag} {mg : Str → Option Value} {base : Heap} {f : Addr} {fd : FuncData} {CR CA CF : Addr}
structure RightP (vs : List V) (H : Hp) (Q : VK) : Prop where
  ex : ∃ (p : Addr) (n : Nat), vs = [.ref p] ∧ Sk p n H ∧ n ≤ 600000 ∧ ∀ (H' : Hp), Keep p H H' → Sk p (n + 40) H' → Q (.bl true) H'
def spRight : Sp := fun vs H Q _ => RightP vs H Q
set_option maxHeartbeats 16000000 in
theorem ok_right (F : FnD K "_law_right" "_law_right" s_L_right f fd) (T : Glob mg) (RA : AlgK K CA) (C_L_pair : Cal P w K mg base 3 "_law_pair" ["_law_jug_here"] spKPair) (C_L_partner : Cal P w K mg base 4 "_law_partner" ["_law_jug_here", "_law_a", "_law_b"] spPart) (C_L_of : Cal P w K mg base 2 "_law_of" ["_law_jug_here", "_law_items"] (spOneOf K)) (C_P_common_root : Cal P w K mg base 6 "common_root" ["one", "other"] (spCom CA))
    (C_P_is_common_root : Cal P w K mg base 6 "is_common_root" ["one", "other", "value"] (spIsCom K CA)) (C_L_is_due : Cal P w K mg base 4 "_law_is_due" ["_law_one", "_law_other", "_law_value"] (spIsCom K CA)) (C_P_has_root : Cal P w K mg base 6 "has_root" ["algebra", "number"] (spHasR CA))
    (N_Algebra_2 : CalC P w K mg base 6 "Algebra" CA ["self", "a", "b"] [] (spAlgInit CA)) :
    FnOk P w K mg base CX0 8 f fd ["_law_jug_here"] spRight := by
  refine F.ok sc_L_right (fun vs H Q E h => ?_) (fun cdv A outer s H vs Q E hr h => ?_)
  · obtain ⟨p, n, rfl, _⟩ := h.ex; rfl
  · obtain ⟨p, n, rfl, hs, hn, q⟩ := h.ex
    refine ⟨_, PSs.nox (pss_cons (ps_asg (pe_cal C_L_pair (hr.mono (by decide)) (pa_cons (pv 0) pa_nil)) (pg_tup (by rfl) (pgs_cons (pg_name (i := 1) sc_L_right.nd rfl (Or.inl rfl)) (pgs_cons (pg_name (i := 2) sc_L_right.nd rfl (Or.inl rfl)) pgs_nil))))
      (pss_cons (ps_asg (pe_cal C_L_partner (hr.mono (by decide)) (pa_cons (pv 0) (pa_cons (pv 1) (pa_cons (pv 2) pa_nil)))) (pg_tup (by rfl) (pgs_cons (pg_name (i := 3) sc_L_right.nd rfl (Or.inl rfl)) (pgs_cons (pg_name (i := 4) sc_L_right.nd rfl (Or.inl rfl)) pgs_nil))))
      (pss_cons (ps_par (i := 5) (j := 6) (by rfl) sc_L_right.nd rfl rfl (by decide) rfl rfl (pa_cons (pe_new N_Algebra_2 (hr.mono (by decide)) (pa_cons (pv 1) (pa_cons (pv 2) pa_nil))) (pa_cons (pe_new N_Algebra_2 (hr.mono (by decide)) (pa_cons (pv 3) (pa_cons (pv 4) pa_nil))) pa_nil)) (by rfl))
      (pss_cons (ps_set (i := 7) sc_L_right.nd rfl (Or.inl rfl) (pe_cal C_P_common_root (hr.mono (by decide)) (pa_cons (pv 5) (pa_cons (pv 6) pa_nil))))
      (pss_cons (ps_if (PW.pt (pw_or (pt_not (pt_val (pe_cal C_L_is_due (hr.mono (by decide)) (pa_cons (pv 5) (pa_cons (pv 6) (pa_cons (pv 7) pa_nil)))))) (pw_or (pt_not (pt_val (pe_cal C_P_is_common_root (hr.mono (by decide)) (pa_cons (pv 5) (pa_cons (pv 6) (pa_cons (pv 7) pa_nil)))))) (pw_or1 (pt_not (pt_val (pe_cal C_P_is_common_root (hr.mono (by decide)) (pa_cons (pv 6) (pa_cons (pv 5) (pa_cons (pv 7) pa_nil)))))))))) (pss_one (ps_ret pe_bl)) pss_nil)
      (Evl.pss_cut (ps_if (PW.pt (pw_and (pt_cmp (pc_le (pe_callB call_abs (by rfl) T.m_abs (by decide +kernel) (pa_cons (pv 7) pa_nil)) (pe_op op_powW pe_int pe_int))) (pw_and1 (pt_not (PW.pt (pw_and (pt_val (pe_cal C_P_has_root (hr.mono (by decide)) (pa_cons (pv 5) (pa_cons (pv 7) pa_nil)))) (pw_and1 (pt_val (pe_cal C_P_has_root (hr.mono (by decide)) (pa_cons (pv 6) (pa_cons (pv 7) pa_nil))))))))))) (pss_one (ps_ret pe_bl)) pss_nil)
      (pss_cons (ps_set (i := 8) sc_L_right.nd rfl (Or.inl rfl) (pe_lst (pa_cons (pv 1) (pa_cons (pv 2) (pa_cons (pv 3) (pa_cons (pv 4) (pa_cons (pe_op op_sub pe_int (pe_op op_mulW (pv 1) (pv 2))) (pa_cons (pv 7) (pa_cons (pe_op op_mulW (pv 7) pe_int) (pa_cons (pe_op op_mulW (pv 7) pe_int) (pa_cons (pe_op op_sub pe_int (pv 7)) (pa_cons pe_int (pa_cons pe_int (pa_cons pe_int (pa_cons pe_bl (pa_cons pe_non (pa_cons pe_str (pa_cons (pe_op op_add (pe_op op_powW pe_int pe_int) pe_int) (pa_cons (pe_un un_neg pe_int) (pa_cons (pe_un un_neg pe_int) (pa_cons (pe_un un_neg pe_int) (pa_cons (pe_un un_neg pe_int) (pa_cons pe_int (pa_cons pe_int (pa_cons (pe_un un_neg pe_int) (pa_cons pe_int pa_nil))))))))))))))))))))))))))
      (pss_cons (ps_for PassesOwn.never rfl (pi_range1 (by rfl) T.m_range (pa_cons pe_int pa_nil)) (pg_name (i := 9) sc_L_right.nd rfl (Or.inl rfl)) (pss_cons (ps_set (i := 10) sc_L_right.nd rfl (Or.inl rfl) (pe_cal C_L_of (hr.mono (by decide)) (pa_cons (pv 0) (pa_cons (pv 8) pa_nil))))
      (pss_one (ps_if (pt_cmpR op_ne (pe_callB cr_repr_bl (by rfl) T.m_repr (by decide +kernel) (pa_cons (pe_cal C_P_is_common_root (hr.mono (by decide)) (pa_cons (pv 5) (pa_cons (pv 6) (pa_cons (pv 10) pa_nil)))) pa_nil)) (pe_callB cr_repr_bl (by rfl) T.m_repr (by decide +kernel) (pa_cons (pe_cal C_L_is_due (hr.mono (by decide)) (pa_cons (pv 5) (pa_cons (pv 6) (pa_cons (pv 10) pa_nil)))) pa_nil)) (nomark _)) (pss_one (ps_ret pe_bl)) pss_nil))))
      (pss_one (ps_ret (pe_or (pe_cmpR op_in_seq (pv 1) (pe_tup (pa_cons pe_int (pa_cons pe_int (pa_cons pe_int (pa_cons pe_int (pa_cons pe_int (pa_cons pe_int (pa_cons pe_int (pa_cons pe_int (pa_cons pe_int (pa_cons pe_int pa_nil))))))))))) (by rfl)) (pe_one (pe_cal C_P_is_common_root (hr.mono (by decide)) (pa_cons (pv 5) (pa_cons (pe_new N_Algebra_2 (hr.mono (by decide)) (pa_cons (pv 2) (pa_cons (pv 1) pa_nil))) (pa_cons (pv 1) pa_nil)))))))))))))))), ?_⟩
    refine ⟨_, rfl, ⟨p, n, rfl, hs, by omega, fun a b t H1 a0 b0 a1 b1 k1 s1 ht => ⟨t, _, rfl, SqT.of ht, rfl, _, _, rfl, _, _, rfl, rfl, ?_⟩⟩⟩
    clear ht
    refine ⟨_, rfl, _, rfl, _, rfl, ⟨p, n + 5, a, b, rfl, s1, by omega, a0, b0, a1, b1, fun c d t H2 c0 d0 c1 d1 cv k2 s2 ht => ⟨t, _, rfl, SqT.of ht, rfl, _, _, rfl, _, _, rfl, rfl, ?_⟩⟩⟩
    clear ht
    replace k2 := k1.trans k2
    clear k1 s1
    refine ⟨_, rfl, _, rfl, fun al dal hal hdal nda => new_alg a0 b0 (by omega) (by omega) hal hdal nda fun H3 e3 hA => ⟨rfl, ?_⟩⟩
    refine ⟨_, rfl, _, rfl, fun be dbe hbe hdbe ndb => new_alg c0 d0 (by omega) (by omega) hbe hdbe ndb fun H4 e4 hB => ⟨rfl, _, _, rfl, ?_⟩⟩
    have e34 := e3.trans e4
    replace hA := hA.same e4
    replace k2 := k2.trans (Keep.same e34)
    replace s2 := s2.same e34
    clear e34 e3 e4 hal hdal nda hbe hdbe ndb hs
    have a4 : a.natAbs ≤ 10000 := by omega
    have b4 : b.natAbs ≤ 10000 := by omega
    refine ⟨_, rfl, _, rfl, ⟨al, be, a, b, c, d, rfl, hA, hB, a4, b4, c1, d1, fun D hJ => cov_disc cv hJ, fun m D H5 hJ m0 m1 hm e5 => ?_⟩⟩
    replace hA := hA.same e5
    replace hB := hB.same e5
    replace k2 := k2.trans (Keep.same e5)
    replace s2 := s2.same e5
    clear e5
    have cT : ComV a b c d (.int m) := comV_told hJ m0 m1 hm
    have cT' : ComV c d a b (.int m) := comV_told hJ.comm m0 m1 hm
    have m4 : NoSq m ∨ ¬ m.natAbs ≤ 10000 := by
      by_cases c : m.natAbs ≤ 10000
      · exact .inl (nosq_neg m0 c)
      · exact .inr c
    have sqA : ∀ {l : List Int}, PlacesOf a b l → sqL m l = [] := fun hP => sqL_nil.mpr fun p hp => sqL_nil.mp hm p ((hJ.2 p).mpr ⟨((hP.2 p).mp hp).1, .inl ((hP.2 p).mp hp).2⟩)
    have sqC : ∀ {l : List Int}, PlacesOf c d l → sqL m l = [] := fun hP => sqL_nil.mpr fun p hp => sqL_nil.mp hm p ((hJ.2 p).mpr ⟨((hP.2 p).mp hp).1, .inr ((hP.2 p).mp hp).2⟩)
    refine ⟨_, rfl, _, rfl, _, rfl, ⟨al, be, a, b, c, d, .int m, rfl, hA, hB, a4, b4, c1, d1, .int m, fun r H6 e6 hr1 => ?_⟩⟩
    obtain rfl := hr1.mpr cT
    replace hA := hA.same e6
    replace hB := hB.same e6
    replace k2 := k2.trans (Keep.same e6)
    replace s2 := s2.same e6
    clear e6 hr1
    refine ⟨_, rfl, (if_neg (by decide)).mpr ?_⟩
    refine ⟨_, rfl, _, rfl, _, rfl, ⟨al, be, a, b, c, d, .int m, rfl, hA, hB, a4, b4, c1, d1, .int m, fun r H7 e6 hr1 => ?_⟩⟩
    obtain rfl := hr1.mpr cT
    replace hA := hA.same e6
    replace hB := hB.same e6
    replace k2 := k2.trans (Keep.same e6)
    replace s2 := s2.same e6
    clear e6 hr1
    refine ⟨_, rfl, (if_neg (by decide)).mpr ?_⟩
    refine ⟨_, rfl, _, rfl, _, rfl, ⟨be, al, c, d, a, b, .int m, rfl, hB, hA, c1, d1, a4, b4, .int m, fun r H8 e6 hr1 => ?_⟩⟩
    obtain rfl := hr1.mpr cT'
    replace hA := hA.same e6
    replace hB := hB.same e6
    replace k2 := k2.trans (Keep.same e6)
    replace s2 := s2.same e6
    clear e6 hr1
    refine ⟨_, rfl, (if_neg (by decide)).mpr ?_⟩
    clear cT'
    have p4 : CPowW 10 4 := ⟨by decide, by decide +kernel⟩
    refine ⟨fun σ H' => Same H8 H' ∧ σ = [some (.ref p), some (.int a), some (.int b), some (.int c), some (.int d), some (.ref al), some (.ref be), some (.int m), none, none, none], ?_, ?_⟩
    · refine ⟨_, rfl, m, rfl, _, _, rfl, rfl, p4, _, _, rfl, rfl, _, rfl, ifd (fun h => ?_) (fun h => ?_)⟩
      · have hs : NoSq m := m4.resolve_right fun z => z (by
          have h : (if m < 0 then -m else m) ≤ 10000 := h
          split at h <;> omega)
        refine ⟨_, rfl, _, rfl, ⟨al, a, b, m, rfl, hA, a4, b4, hs, fun l G hP g => ?_⟩⟩
        rw [sqA hP]
        refine ⟨_, rfl, (if_pos rfl).mpr ?_⟩
        refine ⟨_, rfl, _, rfl, ⟨be, c, d, m, rfl, hB.same g, c1, d1, hs, fun l G2 hP g2 => ?_⟩⟩
        rw [sqC hP]
        refine ⟨_, rfl, (if_neg (by decide)).mpr ?_⟩
        exact ⟨g.trans g2, rfl⟩
      · exact ⟨Same.refl _, rfl⟩
    rintro σ H9 ⟨e9, rfl⟩
    replace hA := hA.same e9
    replace hB := hB.same e9
    replace k2 := k2.trans (Keep.same e9)
    replace s2 := s2.same e9
    clear e9 sqA sqC m4 hm
    have cm : ∀ {i j : Int}, i.natAbs ≤ 1000000000 → j.natAbs ≤ 100000 → CMulW i j := fun h1 h2 => CMulW.of (Nat.lt_of_le_of_lt h1 (by decide +kernel)) (lt3000s (by omega) (by omega))
    have p9 : CPowW 10 9 := ⟨by decide, by decide +kernel⟩
    refine ⟨_, rfl, _, rfl, _, rfl, _, rfl, _, rfl, _, rfl, _, _, rfl, rfl, cm (by omega) (by omega), _, _, rfl, rfl, _, rfl, _, rfl, _, _, rfl, rfl, cm (by omega) (by decide), _, rfl, _, _, rfl, rfl, cm (by omega) (by decide), _, rfl, _, _, rfl, rfl, _, _, rfl, rfl, p9, _, _, rfl, rfl, _, rfl, _, rfl, _, rfl, _, rfl, _, rfl, (by show 24 ≤ sizeLine; decide), fun L hL => ?_⟩
    have nL : L ≠ p := fun z => by
      obtain ⟨xs, g, _⟩ := s2
      rw [z, g] at hL
      cases hL
    generalize hvs : ([_, _, _, _, _, _, _, _, _, _, _, _, _, _, _, _, _, _, _, _, _, _, _, _] : List V) = vs at hL
    have hlen : vs.length = 24 := by rw [← hvs]; rfl
    have hall : ∀ v ∈ vs, ∀ G, ValC K G v := fun v hv G => by
      rw [← hvs] at hv
      simp only [List.mem_cons, List.not_mem_nil, or_false] at hv
      rcases hv with rfl | rfl | rfl | rfl | rfl | rfl | rfl | rfl | rfl | rfl | rfl | rfl | rfl | rfl | rfl | rfl | rfl | rfl | rfl | rfl | rfl | rfl | rfl | rfl
      case inr.inr.inr.inr.inr.inr.inr.inr.inr.inr.inr.inr.inl => exact .out (fun _ z => V.noConfusion z) (.bl _)
      case inr.inr.inr.inr.inr.inr.inr.inr.inr.inr.inr.inr.inr.inl => exact .out (fun _ z => V.noConfusion z) .non
      case inr.inr.inr.inr.inr.inr.inr.inr.inr.inr.inr.inr.inr.inr.inl => exact .out (fun _ z => V.noConfusion z) (.str _)
      all_goals exact .int _
    clear hvs cm
    have eN := same_upd (o := .lst vs) hL
    have gL : upd H9 L (.lst vs) L = some (.lst vs) := upd_same
    generalize upd H9 L (.lst vs) = H10 at eN gL ⊢
    replace hA := hA.same eN
    replace hB := hB.same eN
    replace k2 := k2.trans (Keep.same eN)
    replace s2 := s2.same eN
    clear eN hL cT p4 p9
    refine ⟨9, rfl, by decide, by decide, for_range (lo := 0) (n := 9) (fun i σ H' => ∃ v1 v2, σ = [some (.ref p), some (.int a), some (.int b), some (.int c), some (.int d), some (.ref al), some (.ref be), some (.int m), some (.ref L), v1, v2] ∧ Keep p H10 H' ∧ Sk p (n + 13 + i) H') ⟨none, none, rfl, fun _ _ e _ => e, s2⟩ ?_ ?_⟩
    · rintro i σ H' hi ⟨v1, v2, rfl, k3, s3⟩
      replace hA := hA.keepA s2 k3
      replace hB := hB.keepA s2 k3
      have gL' := k3 _ _ gL nL
      obtain ⟨xs, hp, hx⟩ := s3
      refine ⟨_, rfl, _, rfl, ⟨p, L, xs, vs, n + 13 + i, rfl, hp, hx, by omega, nL, SqL.of gL', by omega, by omega, fun v ys hv hy => ?_⟩⟩
      have kk : Keep p H' (upd H' p (.lst ys)) := fun c o e nc => by rw [upd_ne nc]; exact e
      have s4 : Sk p (n + 13 + (i + 1)) (upd H' p (.lst ys)) := ⟨ys, upd_same, hy⟩
      replace hA := hA.keepA ⟨xs, hp, hx⟩ kk
      replace hB := hB.keepA ⟨xs, hp, hx⟩ kk
      replace k3 := k3.trans kk
      generalize upd H' p (.lst ys) = G0 at *
      clear kk
      refine ⟨_, rfl, _, rfl, _, rfl, ⟨al, be, a, b, c, d, v, rfl, hA, hB, a4, b4, c1, d1, hall v hv _, fun r1 G1 g1 ei1 => ⟨r1, rfl, ?_⟩⟩⟩
      refine ⟨_, rfl, _, rfl, _, rfl, ⟨al, be, a, b, c, d, v, rfl, hA.same g1, hB.same g1, a4, b4, c1, d1, hall v hv _, fun r2 G2 g2 ei2 => ⟨r2, rfl, ?_⟩⟩⟩
      have er : r1 = r2 := Bool.eq_iff_iff.mpr (ei1.trans ei2.symm)
      subst er
      refine ⟨by cases r1 <;> rfl, _, rfl, ifn (fun z => absurd rfl z) (fun _ => ?_)⟩
      have g12 := g1.trans g2
      exact ⟨_, _, rfl, k3.trans (Keep.same g12), s4.same g12⟩
    · rintro σ H' ⟨v1, v2, rfl, k3, s3⟩
      replace hA := hA.keepA s2 k3
      replace hB := hB.keepA s2 k3
      replace k2 := k2.trans k3
      clear k3 s2 gL hall hlen
      refine ⟨_, rfl, (by show 10 ≤ sizeLine; decide), fun t ht => ?_⟩
      have e1 := same_upd (o := .tup (sqs10.map V.int)) ht
      have g1 : upd H' t (.tup (sqs10.map V.int)) t = some (.tup (sqs10.map V.int)) := upd_same
      refine ⟨t, _, rfl, .inr (SqT.of g1), rfl, flat_ints10, ?_⟩
      by_cases hm : a ∈ sqs10
      · refine ⟨_, rfl, (if_pos (by rw [inV_ints, decide_eq_true hm]; rfl)).mpr ?_⟩
        exact q _ (k2.trans (Keep.same e1)) ((s3.same e1).mono (by omega))
      · refine ⟨_, rfl, (if_neg (by rw [inV_ints, decide_eq_false hm]; decide)).mpr ?_⟩
        replace hA := hA.same e1
        replace k2 := k2.trans (Keep.same e1)
        replace s3 := s3.same e1
        refine ⟨_, rfl, _, rfl, _, rfl, fun ga dga hga hdga nga => new_alg b0 a0 (by omega) (by omega) hga hdga nga fun G e2 hG => ⟨rfl, ?_⟩⟩
        exact ⟨_, rfl, al, ga, a, b, b, a, .int a, rfl, hA.same e2, hG, a4, b4, b4, a4, .int a, fun r G2 e3 hr => by
          obtain rfl := hr.mpr (comV_own a0 a1 (sqN_out a0 a1 hm))
          exact q _ (k2.trans (Keep.same (e2.trans e3))) ((s3.same (e2.trans e3)).mono (by omega))⟩
end
end Sf

namespace Sf
open PySem PySem.Spec PyProof.Rows L2
theorem pr11 : PrP 11 := ⟨by decide, fun k h1 h2 => by
  have : k = 2 ∨ k = 3 ∨ k = 4 ∨ k = 5 ∨ k = 6 ∨ k = 7 ∨ k = 8 ∨ k = 9 ∨ k = 10 := by omega
  rcases this with rfl | rfl | rfl | rfl | rfl | rfl | rfl | rfl | rfl <;> decide⟩
theorem no_at {n p : Int} (hp : p = 0 ∨ PrP p) (h : SqAt n p false) : ¬ SqAt n p true := fun z => Bool.noConfusion (sqAt_uni hp h z)
/-- the places of (-1, -1) and (-1, -11) are among 0, 2 and 11 -/
theorem near11 {p : Int} (h : (p = 0 ∨ PrP p) ∧ (HSign (-1) (-1) p (-1) ∨ HSign (-1) (-11) p (-1))) : p = 0 ∨ p = 2 ∨ p = 11 := by
  obtain ⟨hp, h⟩ := h
  have one : ∀ {p : Int}, PrP p → ¬ (-1 : Int) % p = 0 := fun hp z => prime_one hp (Int.dvd_neg.mp (Int.dvd_of_emod_eq_zero z))
  rcases h with h | h
  · rcases neg_placeA hp h with e | e | ⟨g, e | e⟩
    · exact .inl e
    · exact .inr (.inl e)
    · exact absurd e (one g)
    · exact absurd e (one g)
  · rcases neg_placeA hp h with e | e | ⟨g, e | e⟩
    · exact .inl e
    · exact .inr (.inl e)
    · exact absurd e (one g)
    · exact .inr (.inr (prime_dvd_prime g pr11 (Int.dvd_neg.mp (Int.dvd_of_emod_eq_zero e))))
theorem at0 {n : Int} (h : ¬ 0 < n) : SqAt n 0 false := .inl ⟨rfl, (decide_eq_false h).symm⟩
theorem told1 : ComV (-1) (-1) (-1) (-11) (.int (-1)) := ⟨-1, rfl, by decide, by decide, sqN_neg (by decide), fun p hp => by
  rcases near11 hp with rfl | rfl | rfl
  · exact no_at (.inl rfl) (at0 (by decide))
  · exact no_at (.inr prime2) (.inr ⟨by decide, 0, -1, ⟨by decide, by decide⟩, by unfold sqU; decide⟩)
  · exact no_at (.inr pr11) (.inr ⟨by decide, 0, -1, ⟨by decide, by decide⟩, by unfold sqU restSign; decide +kernel⟩)⟩
theorem told2 : ¬ ComV (-1) (-1) (-1) (-11) (.int (-7)) := fun ⟨n, e, _, _, _, h⟩ => by
  cases e
  exact h 2 ⟨.inr prime2, .inl (.inr ⟨by decide, 0, 0, -1, -1, ⟨by decide, by decide⟩, ⟨by decide, by decide⟩, by unfold sgnAt; decide⟩)⟩ (.inr ⟨by decide, 0, -7, ⟨by decide, by decide⟩, by unfold sqU; decide⟩)
theorem told3 : ComV (-1) (-1) (-1) (-11) (.int (-3)) := ⟨-3, rfl, by decide, by decide, sqN_neg (by decide), fun p hp => by
  rcases near11 hp with rfl | rfl | rfl
  · exact no_at (.inl rfl) (at0 (by decide))
  · exact no_at (.inr prime2) (.inr ⟨by decide, 0, -3, ⟨by decide, by decide⟩, by unfold sqU; decide⟩)
  · exact no_at (.inr pr11) (.inr ⟨by decide, 0, -3, ⟨by decide, by decide⟩, by unfold sqU restSign; decide +kernel⟩)⟩
theorem told4 : ¬ ComV (-1) (-1) (-1) (-11) (.int 2) := fun ⟨n, e, _, _, _, h⟩ => by
  cases e
  exact h 0 ⟨.inl rfl, .inl (.inl ⟨rfl, by decide⟩)⟩ (.inl ⟨rfl, by decide⟩)
def tolds : List Bool := [true, false, true, false]
theorem tolds_at {i : Nat} {v : V} (h : (([-1, -7, -3, 2] : List Int).map V.int)[i]? = some v) : ∃ b, tolds[i]? = some b ∧ (b = true ↔ ComV (-1) (-1) (-1) (-11) v) ∧ ∃ n, v = .int n := by
  match i with
  | 0 => cases h; exact ⟨true, rfl, ⟨fun _ => told1, fun _ => rfl⟩, _, rfl⟩
  | 1 => cases h; exact ⟨false, rfl, ⟨fun z => Bool.noConfusion z, fun z => absurd z told2⟩, _, rfl⟩
  | 2 => cases h; exact ⟨true, rfl, ⟨fun _ => told3, fun _ => rfl⟩, _, rfl⟩
  | 3 => cases h; exact ⟨false, rfl, ⟨fun z => Bool.noConfusion z, fun z => absurd z told4⟩, _, rfl⟩
  | n + 4 => cases h
section
variable {P : Program} {w : World} {K : PySem.W.Frag} {mg : Str → Option Value} {base : Heap} {f : Addr} {fd : FuncData} {CR CA CF : Addr}
def spLaw (K : PySem.W.Frag) : Sp := fun vs H Q _ => ∃ (a : Addr) (ns : List Int), vs = [.ref a] ∧ SqL K H a (ns.map V.int) ∧ ns.length ≤ 63 ∧ ∀ H', Q (.bl true) H'
set_option maxHeartbeats 16000000 in
theorem ok_law (F : FnD K "law" "law" s_L_law f fd) (T : Glob mg) (C_L_jug : Cal P w K mg base 1 "_law_jug" ["_law_script", "_law_spot"] (spSack K)) (C_L_right : Cal P w K mg base 8 "_law_right" ["_law_jug_here"] spRight) (C_P_is_common_root : Cal P w K mg base 6 "is_common_root" ["one", "other", "value"] (spIsCom K CA))
    (N_Algebra_2 : CalC P w K mg base 6 "Algebra" CA ["self", "a", "b"] [] (spAlgInit CA)) :
    FnOk P w K mg base CX0 9 f fd ["_law_script"] (spLaw K) := by
  refine F.ok sc_L_law (fun vs H Q E h => ?_) (fun cdv A outer s H vs Q E hr h => ?_)
  · obtain ⟨a, ns, rfl, _⟩ := h; rfl
  · obtain ⟨a, ns, rfl, hS, hl, q⟩ := h
    refine ⟨_, PSs.nox (pss_cons (ps_for PassesOwn.never rfl (pi_range1 (by rfl) T.m_range (pa_cons (pe_callB (call_max2 rfl) (by rfl) T.m_max (by decide +kernel) (pa_cons pe_int (pa_cons (pe_callB (call_min2 rfl) (by rfl) T.m_min (by decide +kernel) (pa_cons pe_int (pa_cons (pe_callB call_len_seq (by rfl) T.m_len (by decide +kernel) (pa_cons (pv 0) pa_nil)) pa_nil))) pa_nil))) pa_nil)) (pg_name (i := 1) sc_L_law.nd rfl (Or.inl rfl)) (pss_one (ps_if (pt_not (pt_val (pe_cal C_L_right (hr.mono (by decide)) (pa_cons (pe_cal C_L_jug (hr.mono (by decide)) (pa_cons (pv 0) (pa_cons (pv 1) pa_nil))) pa_nil)))) (pss_one (ps_ret pe_bl)) pss_nil)))
      (pss_cons (ps_asg (pe_tup (pa_cons (pe_new N_Algebra_2 (hr.mono (by decide)) (pa_cons (pe_un un_neg pe_int) (pa_cons (pe_un un_neg pe_int) pa_nil))) (pa_cons (pe_new N_Algebra_2 (hr.mono (by decide)) (pa_cons (pe_un un_neg pe_int) (pa_cons (pe_un un_neg pe_int) pa_nil))) pa_nil))) (pg_tup (by rfl) (pgs_cons (pg_name (i := 2) sc_L_law.nd rfl (Or.inr rfl)) (pgs_cons (pg_name (i := 3) sc_L_law.nd rfl (Or.inr rfl)) pgs_nil))))
      (pss_one (ps_ret (pe_cmpR (op_eqD hr.units) (pe_lc rfl sc_L_law.nd (own := [("_law_value", 4)]) (pi_tup (pe_tup (pa_cons (pe_un un_neg pe_int) (pa_cons (pe_un un_neg pe_int) (pa_cons (pe_un un_neg pe_int) (pa_cons pe_int pa_nil)))))) (blkOk_by (N := ["_law_script", "_law_spot", "_law_plain", "_law_eleven", "_law_value"]) (sc := defScope s_L_law) (by decide +kernel)) (fun _ _ _ _ _ => pg_name (i := 4) sc_L_law.nd rfl (Or.inl rfl)) (fun _ _ _ _ _ => pts_nil) (fun _ _ _ _ _ => (pe_cal C_P_is_common_root (hr.mono (by decide)) (pa_cons (pv 2) (pa_cons (pv 3) (pa_cons (pv 4) pa_nil)))))) (pe_lst (pa_cons pe_bl (pa_cons pe_bl (pa_cons pe_bl (pa_cons pe_bl pa_nil))))) (nomark _)))))), ?_⟩
    have hT : ∀ n : Nat, ∃ t : Nat, (if (if (n : Int) < 3 then (n : Int) else 3) > 1 then (if (n : Int) < 3 then (n : Int) else 3) else 1) = (t : Int) ∧ t ≤ 3 := fun n => by
      by_cases c : n < 3
      · by_cases c2 : n > 1
        · exact ⟨n, by rw [if_pos (by omega : (n : Int) < 3), if_pos (by omega)], by omega⟩
        · exact ⟨1, by rw [if_pos (by omega : (n : Int) < 3), if_neg (by omega)]; rfl, by omega⟩
      · exact ⟨3, by rw [if_neg (by omega : ¬ (n : Int) < 3), if_pos (by decide)]; rfl, by omega⟩
    obtain ⟨t, et, ht⟩ := hT (ns.map V.int).length
    refine ⟨_, rfl, a, _, rfl, .inl hS, _, _, rfl, _, _, rfl, (t : Int), ?_, by omega, by omega, ?_⟩
    · rw [← et]
    refine for_range (lo := 0) (n := t) (fun i σ H' => ∃ v1, σ = [some (.ref a), v1, none, none, none] ∧ Same H H') ⟨none, rfl, Same.refl H⟩ ?_ ?_
    · rintro i σ H0 hi ⟨v1, rfl, hs0⟩
      refine ⟨_, rfl, _, rfl, a, ns, i, by rw [Int.zero_add]; rfl, hs0.seq hS, hl, by omega, fun p xs H1 e1 hpn hp1 hxs => ?_⟩
      have s1 : Sk p 0 H1 := ⟨xs, hp1, hxs⟩
      refine ⟨p, 0, rfl, s1, by decide, fun H2 k2 s2 => ⟨_, rfl, ?_⟩⟩
      refine ⟨_, rfl, fun b o e => ?_⟩
      have e1' := e1 _ _ (hs0 _ _ e)
      have nb : b ≠ p := fun z => by
        rw [z] at e
        have := hs0 _ _ e
        rw [hpn] at this
        cases this
      exact k2 _ _ e1' nb
    · rintro σ H0 ⟨v1, rfl, hs0⟩
      clear hs0 hS
      refine ⟨_, rfl, _, rfl, fun al dal hal hdal nda => new_alg (a := -1) (b := -1) (by decide) (by decide) (by decide) (by decide) hal hdal nda fun H1 e1 hA => ⟨rfl, ?_⟩⟩
      refine ⟨_, rfl, _, rfl, fun be dbe hbe hdbe ndb => new_alg (a := -1) (b := -11) (by decide) (by decide) (by decide) (by decide) hbe hdbe ndb fun H2 e2 hB => ⟨rfl, (by show 2 ≤ sizeLine; decide), fun tp htp => ?_⟩⟩
      refine ⟨tp, _, rfl, SqT.of upd_same, rfl, _, _, rfl, _, _, rfl, rfl, ?_⟩
      have e3 := same_upd (o := .tup [.ref al, .ref be]) htp
      replace hA := (hA.same e2).same e3
      replace hB := hB.same e3
      generalize upd H2 tp (.tup [.ref al, .ref be]) = H3 at *
      clear e3 htp
      clear e1 e2 hal hdal nda hbe hdbe ndb
      refine ⟨_, rfl, _, rfl, _, rfl, (by show 4 ≤ sizeLine; decide), fun t4 h4 => ?_⟩
      generalize hH4 : upd H3 t4 _ = H4
      have e4 : Same H3 H4 := hH4 ▸ same_upd h4
      have g4 : H4 t4 = some (.tup (([-1, -7, -3, 2] : List Int).map V.int)) := by rw [← hH4]; exact upd_same
      replace hA := hA.same e4
      replace hB := hB.same e4
      clear e4 h4 hH4
      refine ⟨t4, rfl, ⟨_, SqT.of g4⟩, fun D hD => lc_tup (K := K) (a := t4) (xs := ([-1, -7, -3, 2] : List Int).map V.int) (fun i H' => Same H4 H' ∧ H' D = some (.lst ((tolds.take i).map V.bl))) ⟨same_upd hD, upd_same⟩ (fun i H' _ hp => SqT.of (hp.1 _ _ g4)) (fun i v H8 hv hP2 => ?_) (fun H8 hP2 => ?_)⟩
      · obtain ⟨e1, hd⟩ := hP2
        obtain ⟨bb, hb, iff, hn⟩ := tolds_at hv
        obtain ⟨n, rfl⟩ := hn
        refine ⟨rfl, ?_⟩
        refine ⟨_, rfl, _, rfl, _, rfl, ⟨al, be, -1, -1, -1, -11, .int n, rfl, hA.same e1, hB.same e1, by decide, by decide, by decide, by decide, .int n, fun r G2 g2 hr => ?_⟩⟩
        have er : r = bb := Bool.eq_iff_iff.mpr (hr.trans iff.symm)
        subst er
        refine ⟨_, g2 _ _ hd, ?_, ?_, ?_⟩
        · rw [List.length_map]
          have := List.length_take_le' i tolds
          exact Nat.lt_of_le_of_lt (this : _ ≤ 4) (by decide)
        · intro b o eb
          rw [upd_ne (ne_of_none eb hD)]
          exact g2 _ _ (e1 _ _ eb)
        · rw [upd_same, List.take_add_one, hb, List.map_append]
          rfl
      · obtain ⟨g8, hd⟩ := hP2
        refine ⟨(by show 4 ≤ sizeLine; decide), fun t0 h0 => ?_⟩
        have b4 : ∀ {G : Hp}, DpAll K G [.bl true, .bl false, .bl true, .bl false] [.bool true, .bool false, .bool true, .bool false] := .cons (.bl _) (.cons (.bl _) (.cons (.bl _) (.cons (.bl _) .nil)))
        refine ⟨_, _, .lst (SqL.of (same_upd h0 _ _ hd)) b4, .lst (SqL.of upd_same) b4, rfl, rfl, ?_⟩
        rw [show PyData.eqv (.list [.bool true, .bool false, .bool true, .bool false]) (.list [.bool true, .bool false, .bool true, .bool false]) = true by decide +kernel]
        exact q _
end
end Sf

namespace Sf
open PySem PySem.Spec PyProof.Rows L2
theorem facts {P : Program} {w : World} {K : PySem.W.Frag} {h : Heap} {mg : Str → Option Value} {f : Addr} (X : K.In h) (G : h.Ns mainGlobals mg) (hfa : mg ("law" : Str) = some (.ref f)) (c : He.SaysD fa fn K) (z : ex K = true) :
    ∃ fd : FuncData, (∀ (s : Shared) (v : Value), BindsTo s fd ⟨[v], []⟩ [("_law_script", v)]) ∧ ∀ base : Heap, K.In base → base.Ns mainGlobals mg → FnOk P w K mg base CX0 9 f fd ["_law_script"] (spLaw K) := by
  obtain ⟨fd_L_jug, F_L_jug⟩ := c.def_ 0 (d := d_L_jug) rfl
  have g_L_jug := He.glo_ok X G (c.fact 0 (f := .glo "_law_jug") rfl)
  obtain ⟨fd_L_pour, F_L_pour⟩ := c.def_ 1 (d := d_L_pour) rfl
  have g_L_pour := He.glo_ok X G (c.fact 1 (f := .glo "_law_pour") rfl)
  obtain ⟨fd_L_of, F_L_of⟩ := c.def_ 2 (d := d_L_of) rfl
  have g_L_of := He.glo_ok X G (c.fact 2 (f := .glo "_law_of") rfl)
  obtain ⟨fd_L_drawn, F_L_drawn⟩ := c.def_ 3 (d := d_L_drawn) rfl
  have g_L_drawn := He.glo_ok X G (c.fact 3 (f := .glo "_law_drawn") rfl)
  obtain ⟨fd_L_pair, F_L_pair⟩ := c.def_ 4 (d := d_L_pair) rfl
  have g_L_pair := He.glo_ok X G (c.fact 4 (f := .glo "_law_pair") rfl)
  obtain ⟨fd_L_partner, F_L_partner⟩ := c.def_ 5 (d := d_L_partner) rfl
  have g_L_partner := He.glo_ok X G (c.fact 5 (f := .glo "_law_partner") rfl)
  obtain ⟨fd_P_check_algebra, F_P_check_algebra⟩ := c.def_ 6 (d := d_P_check_algebra) rfl
  have g_P_check_algebra := He.glo_ok X G (c.fact 6 (f := .glo "check_algebra") rfl)
  obtain ⟨fd_P_check_side, F_P_check_side⟩ := c.def_ 7 (d := d_P_check_side) rfl
  have g_P_check_side := He.glo_ok X G (c.fact 7 (f := .glo "check_side") rfl)
  obtain ⟨fd_P_check_sides, F_P_check_sides⟩ := c.def_ 8 (d := d_P_check_sides) rfl
  have g_P_check_sides := He.glo_ok X G (c.fact 8 (f := .glo "check_sides") rfl)
  obtain ⟨fd_P_places_of_both, F_P_places_of_both⟩ := c.def_ 9 (d := d_P_places_of_both) rfl
  have g_P_places_of_both := He.glo_ok X G (c.fact 9 (f := .glo "places_of_both") rfl)
  obtain ⟨fd_P_is_integer, F_P_is_integer⟩ := c.def_ 10 (d := d_P_is_integer) rfl
  have g_P_is_integer := He.glo_ok X G (c.fact 10 (f := .glo "is_integer") rfl)
  obtain ⟨fd_P_check_number, F_P_check_number⟩ := c.def_ 11 (d := d_P_check_number) rfl
  have g_P_check_number := He.glo_ok X G (c.fact 11 (f := .glo "check_number") rfl)
  obtain ⟨fd_P_next_divisor, F_P_next_divisor⟩ := c.def_ 12 (d := d_P_next_divisor) rfl
  have g_P_next_divisor := He.glo_ok X G (c.fact 12 (f := .glo "next_divisor") rfl)
  obtain ⟨fd_P_is_prime, F_P_is_prime⟩ := c.def_ 13 (d := d_P_is_prime) rfl
  have g_P_is_prime := He.glo_ok X G (c.fact 13 (f := .glo "is_prime") rfl)
  obtain ⟨fd_P_check_place, F_P_check_place⟩ := c.def_ 14 (d := d_P_check_place) rfl
  have g_P_check_place := He.glo_ok X G (c.fact 14 (f := .glo "check_place") rfl)
  obtain ⟨fd_P_stripped, F_P_stripped⟩ := c.def_ 15 (d := d_P_stripped) rfl
  have g_P_stripped := He.glo_ok X G (c.fact 15 (f := .glo "stripped") rfl)
  obtain ⟨fd_P_power_modulo, F_P_power_modulo⟩ := c.def_ 16 (d := d_P_power_modulo) rfl
  have g_P_power_modulo := He.glo_ok X G (c.fact 16 (f := .glo "power_modulo") rfl)
  obtain ⟨fd_P_rest_sign, F_P_rest_sign⟩ := c.def_ 17 (d := d_P_rest_sign) rfl
  have g_P_rest_sign := He.glo_ok X G (c.fact 17 (f := .glo "rest_sign") rfl)
  obtain ⟨fd_P_square_unit, F_P_square_unit⟩ := c.def_ 18 (d := d_P_square_unit) rfl
  have g_P_square_unit := He.glo_ok X G (c.fact 18 (f := .glo "square_unit") rfl)
  obtain ⟨fd_P_is_square_at, F_P_is_square_at⟩ := c.def_ 19 (d := d_P_is_square_at) rfl
  have g_P_is_square_at := He.glo_ok X G (c.fact 19 (f := .glo "is_square_at") rfl)
  obtain ⟨fd_P_square_places, F_P_square_places⟩ := c.def_ 20 (d := d_P_square_places) rfl
  have g_P_square_places := He.glo_ok X G (c.fact 20 (f := .glo "square_places") rfl)
  obtain ⟨fd_P_common_root, F_P_common_root⟩ := c.def_ 21 (d := d_P_common_root) rfl
  have g_P_common_root := He.glo_ok X G (c.fact 21 (f := .glo "common_root") rfl)
  obtain ⟨fd_P_is_square, F_P_is_square⟩ := c.def_ 22 (d := d_P_is_square) rfl
  have g_P_is_square := He.glo_ok X G (c.fact 22 (f := .glo "is_square") rfl)
  obtain ⟨fd_P_is_common_root, F_P_is_common_root⟩ := c.def_ 23 (d := d_P_is_common_root) rfl
  have g_P_is_common_root := He.glo_ok X G (c.fact 23 (f := .glo "is_common_root") rfl)
  obtain ⟨fd_L_is_square, F_L_is_square⟩ := c.def_ 24 (d := d_L_is_square) rfl
  have g_L_is_square := He.glo_ok X G (c.fact 24 (f := .glo "_law_is_square") rfl)
  obtain ⟨fd_L_parts, F_L_parts⟩ := c.def_ 25 (d := d_L_parts) rfl
  have g_L_parts := He.glo_ok X G (c.fact 25 (f := .glo "_law_parts") rfl)
  obtain ⟨fd_L_bare, F_L_bare⟩ := c.def_ 26 (d := d_L_bare) rfl
  have g_L_bare := He.glo_ok X G (c.fact 26 (f := .glo "_law_bare") rfl)
  obtain ⟨fd_L_residue, F_L_residue⟩ := c.def_ 27 (d := d_L_residue) rfl
  have g_L_residue := He.glo_ok X G (c.fact 27 (f := .glo "_law_residue") rfl)
  obtain ⟨fd_L_sign, F_L_sign⟩ := c.def_ 28 (d := d_L_sign) rfl
  have g_L_sign := He.glo_ok X G (c.fact 28 (f := .glo "_law_sign") rfl)
  obtain ⟨fd_L_places, F_L_places⟩ := c.def_ 29 (d := d_L_places) rfl
  have g_L_places := He.glo_ok X G (c.fact 29 (f := .glo "_law_places") rfl)
  obtain ⟨fd_L_is_local_square, F_L_is_local_square⟩ := c.def_ 30 (d := d_L_is_local_square) rfl
  have g_L_is_local_square := He.glo_ok X G (c.fact 30 (f := .glo "_law_is_local_square") rfl)
  obtain ⟨fd_L_is_due, F_L_is_due⟩ := c.def_ 31 (d := d_L_is_due) rfl
  have g_L_is_due := He.glo_ok X G (c.fact 31 (f := .glo "_law_is_due") rfl)
  obtain ⟨fd_P_check_root, F_P_check_root⟩ := c.def_ 32 (d := d_P_check_root) rfl
  have g_P_check_root := He.glo_ok X G (c.fact 32 (f := .glo "check_root") rfl)
  obtain ⟨fd_P_has_root, F_P_has_root⟩ := c.def_ 33 (d := d_P_has_root) rfl
  have g_P_has_root := He.glo_ok X G (c.fact 33 (f := .glo "has_root") rfl)
  obtain ⟨fd_P_prime_powers, F_P_prime_powers⟩ := c.def_ 34 (d := d_P_prime_powers) rfl
  have g_P_prime_powers := He.glo_ok X G (c.fact 34 (f := .glo "prime_powers") rfl)
  obtain ⟨fd_P_factors, F_P_factors⟩ := c.def_ 35 (d := d_P_factors) rfl
  have g_P_factors := He.glo_ok X G (c.fact 35 (f := .glo "factors") rfl)
  obtain ⟨fd_P_quarter, F_P_quarter⟩ := c.def_ 36 (d := d_P_quarter) rfl
  have g_P_quarter := He.glo_ok X G (c.fact 36 (f := .glo "quarter") rfl)
  obtain ⟨fd_P_eighth, F_P_eighth⟩ := c.def_ 37 (d := d_P_eighth) rfl
  have g_P_eighth := He.glo_ok X G (c.fact 37 (f := .glo "eighth") rfl)
  obtain ⟨fd_P_sign_at_two, F_P_sign_at_two⟩ := c.def_ 38 (d := d_P_sign_at_two) rfl
  have g_P_sign_at_two := He.glo_ok X G (c.fact 38 (f := .glo "sign_at_two") rfl)
  obtain ⟨fd_P_sign_at_odd, F_P_sign_at_odd⟩ := c.def_ 39 (d := d_P_sign_at_odd) rfl
  have g_P_sign_at_odd := He.glo_ok X G (c.fact 39 (f := .glo "sign_at_odd") rfl)
  obtain ⟨fd_P_sign, F_P_sign⟩ := c.def_ 40 (d := d_P_sign) rfl
  have g_P_sign := He.glo_ok X G (c.fact 40 (f := .glo "sign") rfl)
  obtain ⟨fd_P_signed_places, F_P_signed_places⟩ := c.def_ 41 (d := d_P_signed_places) rfl
  have g_P_signed_places := He.glo_ok X G (c.fact 41 (f := .glo "signed_places") rfl)
  obtain ⟨fd_P_product_of_primes, F_P_product_of_primes⟩ := c.def_ 42 (d := d_P_product_of_primes) rfl
  have g_P_product_of_primes := He.glo_ok X G (c.fact 42 (f := .glo "product_of_primes") rfl)
  obtain ⟨fd_P_Algebra___init__, F_P_Algebra___init__⟩ := c.def_ 43 (d := d_P_Algebra___init__) rfl
  obtain ⟨fd_L_right, F_L_right⟩ := c.def_ 44 (d := d_L_right) rfl
  have g_L_right := He.glo_ok X G (c.fact 43 (f := .glo "_law_right") rfl)
  obtain ⟨fd_L_law, F_L_law⟩ := c.def_ 45 (d := d_L_law) rfl
  have g_L_law := He.glo_ok X G (c.fact 44 (f := .glo "law") rfl)
  have e := hfa.symm.trans g_L_law
  cases e
  have z0 := z
  obtain ⟨y1, z1⟩ := He.ba z0
  obtain ⟨y2, z2⟩ := He.ba z1
  have own_Algebra : OwnK K (He.ga K "Algebra") := ownB_ok (He.cls_ok (c.fact 63 (f := .cls "Algebra") rfl)) y2
  have T : Glob mg := ⟨He.free_ok X G (c.fact 45 (f := .free "isinstance") rfl), He.free_ok X G (c.fact 46 (f := .free "int") rfl), He.free_ok X G (c.fact 47 (f := .free "bool") rfl), He.free_ok X G (c.fact 48 (f := .free "abs") rfl), He.free_ok X G (c.fact 49 (f := .free "sorted") rfl), He.free_ok X G (c.fact 50 (f := .free "tuple") rfl), He.free_ok X G (c.fact 51 (f := .free "set") rfl), He.free_ok X G (c.fact 52 (f := .free "len") rfl), He.free_ok X G (c.fact 53 (f := .free "max") rfl), He.free_ok X G (c.fact 54 (f := .free "sum") rfl), He.free_ok X G (c.fact 55 (f := .free "range") rfl), He.free_ok X G (c.fact 56 (f := .free "repr") rfl), He.free_ok X G (c.fact 57 (f := .free "min") rfl), gblB_ok X G y1, He.int_ok X G (c.fact 58 (f := .int "MAX_NUMBER" 1000000000) rfl), He.int_ok X G (c.fact 59 (f := .int "MOST_START" 100000) rfl), He.int_ok X G (c.fact 60 (f := .int "MAX_COMMON" 1000000000) rfl), He.int_ok X G (c.fact 61 (f := .int "MAX_SIDE" 10000) rfl)⟩
  have b := FunD.bindsA (ps := ["_law_script"]) F_L_law fun _ _ _ _ _ _ us hl => match us, hl with | [_], _ => rfl
  refine ⟨fd_L_law, fun s v => b s [v] rfl, fun base _ _ => ?_⟩
  have C_L_jug : Cal P w K mg base 1 "_law_jug" ["_law_script", "_law_spot"] (spSack K) := ⟨_, fd_L_jug, ok_jug F_L_jug T, g_L_jug, F_L_jug.kp, F_L_jug.bindsN fun _ _ _ _ _ _ us hl => match us, hl with | [_, _], _ => rfl⟩
  have C_L_pour : Cal P w K mg base 1 "_law_pour" ["_law_jug_here", "_law_many"] spTake := ⟨_, fd_L_pour, ok_pour F_L_pour T, g_L_pour, F_L_pour.kp, F_L_pour.bindsN fun _ _ _ _ _ _ us hl => match us, hl with | [_, _], _ => rfl⟩
  have C_L_of : Cal P w K mg base 2 "_law_of" ["_law_jug_here", "_law_items"] (spOneOf K) := ⟨_, fd_L_of, ok_of F_L_of T C_L_pour, g_L_of, F_L_of.kp, F_L_of.bindsN fun _ _ _ _ _ _ us hl => match us, hl with | [_, _], _ => rfl⟩
  have C_L_drawn : Cal P w K mg base 2 "_law_drawn" ["_law_jug_here", "_law_most"] spDraw := ⟨_, fd_L_drawn, ok_drawn F_L_drawn T C_L_pour, g_L_drawn, F_L_drawn.kp, F_L_drawn.bindsN fun _ _ _ _ _ _ us hl => match us, hl with | [_, _], _ => rfl⟩
  have C_L_pair : Cal P w K mg base 3 "_law_pair" ["_law_jug_here"] spKPair := ⟨_, fd_L_pair, ok_pair F_L_pair T C_L_of C_L_drawn, g_L_pair, F_L_pair.kp, F_L_pair.bindsN fun _ _ _ _ _ _ us hl => match us, hl with | [_], _ => rfl⟩
  have C_L_partner : Cal P w K mg base 4 "_law_partner" ["_law_jug_here", "_law_a", "_law_b"] spPart := ⟨_, fd_L_partner, ok_partner F_L_partner T C_L_pour C_L_pair, g_L_partner, F_L_partner.kp, F_L_partner.bindsN fun _ _ _ _ _ _ us hl => match us, hl with | [_, _, _], _ => rfl⟩
  have C_P_check_algebra : Cal P w K mg base 1 "check_algebra" ["value"] (spIsAlg (He.ga K "Algebra")) := ⟨_, fd_P_check_algebra, ok_check_algebra F_P_check_algebra T (⟨own_Algebra, He.noat_ok (c.fact 64 (f := .noat "Algebra" "places") rfl), He.noat_ok (c.fact 65 (f := .noat "Algebra" "a") rfl), He.noat_ok (c.fact 66 (f := .noat "Algebra" "b") rfl), He.noat_ok (c.fact 67 (f := .noat "Algebra" "discriminant") rfl), He.noat_ok (c.fact 68 (f := .noat "Algebra" "is_tables") rfl), He.noat_ok (c.fact 69 (f := .noat "Algebra" "is_definite") rfl)⟩ : AlgK K (He.ga K "Algebra")) (He.glo_ok X G (c.fact 62 (f := .glo "Algebra") rfl)), g_P_check_algebra, F_P_check_algebra.kp, F_P_check_algebra.bindsN fun _ _ _ _ _ _ us hl => match us, hl with | [_], _ => rfl⟩
  have C_P_check_side : Cal P w K mg base 1 "check_side" ["algebra"] (spSide (He.ga K "Algebra")) := ⟨_, fd_P_check_side, ok_check_side F_P_check_side T (⟨own_Algebra, He.noat_ok (c.fact 64 (f := .noat "Algebra" "places") rfl), He.noat_ok (c.fact 65 (f := .noat "Algebra" "a") rfl), He.noat_ok (c.fact 66 (f := .noat "Algebra" "b") rfl), He.noat_ok (c.fact 67 (f := .noat "Algebra" "discriminant") rfl), He.noat_ok (c.fact 68 (f := .noat "Algebra" "is_tables") rfl), He.noat_ok (c.fact 69 (f := .noat "Algebra" "is_definite") rfl)⟩ : AlgK K (He.ga K "Algebra")), g_P_check_side, F_P_check_side.kp, F_P_check_side.bindsN fun _ _ _ _ _ _ us hl => match us, hl with | [_], _ => rfl⟩
  have C_P_check_sides : Cal P w K mg base 2 "check_sides" ["one", "other"] (spSides (He.ga K "Algebra")) := ⟨_, fd_P_check_sides, ok_check_sides F_P_check_sides C_P_check_algebra C_P_check_side, g_P_check_sides, F_P_check_sides.kp, F_P_check_sides.bindsN fun _ _ _ _ _ _ us hl => match us, hl with | [_, _], _ => rfl⟩
  have C_P_places_of_both : Cal P w K mg base 3 "places_of_both" ["one", "other"] (spBoth (He.ga K "Algebra")) := ⟨_, fd_P_places_of_both, ok_places_of_both F_P_places_of_both T (⟨own_Algebra, He.noat_ok (c.fact 64 (f := .noat "Algebra" "places") rfl), He.noat_ok (c.fact 65 (f := .noat "Algebra" "a") rfl), He.noat_ok (c.fact 66 (f := .noat "Algebra" "b") rfl), He.noat_ok (c.fact 67 (f := .noat "Algebra" "discriminant") rfl), He.noat_ok (c.fact 68 (f := .noat "Algebra" "is_tables") rfl), He.noat_ok (c.fact 69 (f := .noat "Algebra" "is_definite") rfl)⟩ : AlgK K (He.ga K "Algebra")), g_P_places_of_both, F_P_places_of_both.kp, F_P_places_of_both.bindsN fun _ _ _ _ _ _ us hl => match us, hl with | [_, _], _ => rfl⟩
  have C_P_is_integer : Cal P w K mg base 1 "is_integer" ["value"] (spIsInt K) := ⟨_, fd_P_is_integer, ok_is_integer F_P_is_integer T, g_P_is_integer, F_P_is_integer.kp, F_P_is_integer.bindsN fun _ _ _ _ _ _ us hl => match us, hl with | [_], _ => rfl⟩
  have C_P_check_number : Cal P w K mg base 2 "check_number" ["value"] spCheckNumber := ⟨_, fd_P_check_number, ok_check_number F_P_check_number T C_P_is_integer, g_P_check_number, F_P_check_number.kp, F_P_check_number.bindsN fun _ _ _ _ _ _ us hl => match us, hl with | [_], _ => rfl⟩
  have C_P_next_divisor : Cal P w K mg base 1 "next_divisor" ["divisor"] spNext := ⟨_, fd_P_next_divisor, ok_next F_P_next_divisor , g_P_next_divisor, F_P_next_divisor.kp, F_P_next_divisor.bindsN fun _ _ _ _ _ _ us hl => match us, hl with | [_], _ => rfl⟩
  have C_P_is_prime : Cal P w K mg base 2 "is_prime" ["value"] (spIsPrime K) := ⟨_, fd_P_is_prime, ok_is_prime F_P_is_prime T C_P_is_integer C_P_next_divisor, g_P_is_prime, F_P_is_prime.kp, F_P_is_prime.bindsN fun _ _ _ _ _ _ us hl => match us, hl with | [_], _ => rfl⟩
  have C_P_check_place : Cal P w K mg base 3 "check_place" ["value"] spCheckPlace := ⟨_, fd_P_check_place, ok_check_place F_P_check_place C_P_is_prime C_P_is_integer, g_P_check_place, F_P_check_place.kp, F_P_check_place.bindsN fun _ _ _ _ _ _ us hl => match us, hl with | [_], _ => rfl⟩
  have C_P_stripped : Cal P w K mg base 1 "stripped" ["number", "prime"] spStripped := ⟨_, fd_P_stripped, ok_stripped F_P_stripped , g_P_stripped, F_P_stripped.kp, F_P_stripped.bindsN fun _ _ _ _ _ _ us hl => match us, hl with | [_, _], _ => rfl⟩
  have C_P_power_modulo : Cal P w K mg base 1 "power_modulo" ["number", "many", "modulus"] spPowMod := ⟨_, fd_P_power_modulo, ok_powmod F_P_power_modulo , g_P_power_modulo, F_P_power_modulo.kp, F_P_power_modulo.bindsN fun _ _ _ _ _ _ us hl => match us, hl with | [_, _, _], _ => rfl⟩
  have C_P_rest_sign : Cal P w K mg base 2 "rest_sign" ["number", "prime"] spRestSign := ⟨_, fd_P_rest_sign, ok_rest_sign F_P_rest_sign C_P_power_modulo, g_P_rest_sign, F_P_rest_sign.kp, F_P_rest_sign.bindsN fun _ _ _ _ _ _ us hl => match us, hl with | [_, _], _ => rfl⟩
  have C_P_square_unit : Cal P w K mg base 3 "square_unit" ["unit", "prime"] spSqU := ⟨_, fd_P_square_unit, ok_square_unit F_P_square_unit C_P_rest_sign, g_P_square_unit, F_P_square_unit.kp, F_P_square_unit.bindsN fun _ _ _ _ _ _ us hl => match us, hl with | [_, _], _ => rfl⟩
  have C_P_is_square_at : Cal P w K mg base 4 "is_square_at" ["number", "place"] spSqAt := ⟨_, fd_P_is_square_at, ok_is_square_at F_P_is_square_at C_P_check_number C_P_check_place C_P_stripped C_P_square_unit, g_P_is_square_at, F_P_is_square_at.kp, F_P_is_square_at.bindsN fun _ _ _ _ _ _ us hl => match us, hl with | [_, _], _ => rfl⟩
  have C_P_square_places : Cal P w K mg base 5 "square_places" ["places", "number"] spSqPl := ⟨_, fd_P_square_places, ok_square_places F_P_square_places T C_P_is_square_at, g_P_square_places, F_P_square_places.kp, F_P_square_places.bindsN fun _ _ _ _ _ _ us hl => match us, hl with | [_, _], _ => rfl⟩
  have C_P_common_root : Cal P w K mg base 6 "common_root" ["one", "other"] (spCom (He.ga K "Algebra")) := ⟨_, fd_P_common_root, ok_common_root F_P_common_root T C_P_check_sides C_P_places_of_both C_P_square_places, g_P_common_root, F_P_common_root.kp, F_P_common_root.bindsN fun _ _ _ _ _ _ us hl => match us, hl with | [_, _], _ => rfl⟩
  have C_P_is_square : Cal P w K mg base 1 "is_square" ["number"] spIsSq := ⟨_, fd_P_is_square, ok_is_square F_P_is_square T, g_P_is_square, F_P_is_square.kp, F_P_is_square.bindsN fun _ _ _ _ _ _ us hl => match us, hl with | [_], _ => rfl⟩
  have C_P_is_common_root : Cal P w K mg base 6 "is_common_root" ["one", "other", "value"] (spIsCom K (He.ga K "Algebra")) := ⟨_, fd_P_is_common_root, ok_is_common_root F_P_is_common_root T C_P_check_sides C_P_is_integer C_P_is_square C_P_places_of_both C_P_square_places, g_P_is_common_root, F_P_is_common_root.kp, F_P_is_common_root.bindsN fun _ _ _ _ _ _ us hl => match us, hl with | [_, _, _], _ => rfl⟩
  have C_L_is_square : Cal P w K mg base 1 "_law_is_square" ["_law_number"] spIsSq := ⟨_, fd_L_is_square, ok_law_is_square F_L_is_square , g_L_is_square, F_L_is_square.kp, F_L_is_square.bindsN fun _ _ _ _ _ _ us hl => match us, hl with | [_], _ => rfl⟩
  have C_L_parts : Cal P w K mg base 1 "_law_parts" ["_law_number"] spLPart := ⟨_, fd_L_parts, ok_lparts F_L_parts T, g_L_parts, F_L_parts.kp, F_L_parts.bindsN fun _ _ _ _ _ _ us hl => match us, hl with | [_], _ => rfl⟩
  have C_L_bare : Cal P w K mg base 1 "_law_bare" ["_law_number", "_law_prime"] spBare := ⟨_, fd_L_bare, ok_bare F_L_bare T, g_L_bare, F_L_bare.kp, F_L_bare.bindsN fun _ _ _ _ _ _ us hl => match us, hl with | [_, _], _ => rfl⟩
  have C_L_residue : Cal P w K mg base 1 "_law_residue" ["_law_number", "_law_prime"] spResidue := ⟨_, fd_L_residue, ok_residue F_L_residue T, g_L_residue, F_L_residue.kp, F_L_residue.bindsN fun _ _ _ _ _ _ us hl => match us, hl with | [_, _], _ => rfl⟩
  have C_L_sign : Cal P w K mg base 2 "_law_sign" ["_law_a", "_law_b", "_law_place"] spLSign := ⟨_, fd_L_sign, ok_lsign F_L_sign T C_L_bare C_L_residue, g_L_sign, F_L_sign.kp, F_L_sign.bindsN fun _ _ _ _ _ _ us hl => match us, hl with | [_, _, _], _ => rfl⟩
  have C_L_places : Cal P w K mg base 3 "_law_places" ["_law_a", "_law_b"] spLPl := ⟨_, fd_L_places, ok_lplaces F_L_places T C_L_parts C_L_sign, g_L_places, F_L_places.kp, F_L_places.bindsN fun _ _ _ _ _ _ us hl => match us, hl with | [_, _], _ => rfl⟩
  have C_L_is_local_square : Cal P w K mg base 2 "_law_is_local_square" ["_law_number", "_law_place"] spSqAt := ⟨_, fd_L_is_local_square, ok_is_local_square F_L_is_local_square T C_L_bare C_L_residue, g_L_is_local_square, F_L_is_local_square.kp, F_L_is_local_square.bindsN fun _ _ _ _ _ _ us hl => match us, hl with | [_, _], _ => rfl⟩
  have C_L_is_due : Cal P w K mg base 4 "_law_is_due" ["_law_one", "_law_other", "_law_value"] (spIsCom K (He.ga K "Algebra")) := ⟨_, fd_L_is_due, ok_is_due F_L_is_due T (⟨own_Algebra, He.noat_ok (c.fact 64 (f := .noat "Algebra" "places") rfl), He.noat_ok (c.fact 65 (f := .noat "Algebra" "a") rfl), He.noat_ok (c.fact 66 (f := .noat "Algebra" "b") rfl), He.noat_ok (c.fact 67 (f := .noat "Algebra" "discriminant") rfl), He.noat_ok (c.fact 68 (f := .noat "Algebra" "is_tables") rfl), He.noat_ok (c.fact 69 (f := .noat "Algebra" "is_definite") rfl)⟩ : AlgK K (He.ga K "Algebra")) C_L_is_square C_L_places C_L_is_local_square, g_L_is_due, F_L_is_due.kp, F_L_is_due.bindsN fun _ _ _ _ _ _ us hl => match us, hl with | [_, _, _], _ => rfl⟩
  have C_P_check_root : Cal P w K mg base 2 "check_root" ["algebra", "number"] (spChkR (He.ga K "Algebra")) := ⟨_, fd_P_check_root, ok_check_root F_P_check_root T C_P_check_algebra C_P_is_integer C_P_is_square C_P_check_side, g_P_check_root, F_P_check_root.kp, F_P_check_root.bindsN fun _ _ _ _ _ _ us hl => match us, hl with | [_, _], _ => rfl⟩
  have C_P_has_root : Cal P w K mg base 6 "has_root" ["algebra", "number"] (spHasR (He.ga K "Algebra")) := ⟨_, fd_P_has_root, ok_has_root F_P_has_root T (⟨own_Algebra, He.noat_ok (c.fact 64 (f := .noat "Algebra" "places") rfl), He.noat_ok (c.fact 65 (f := .noat "Algebra" "a") rfl), He.noat_ok (c.fact 66 (f := .noat "Algebra" "b") rfl), He.noat_ok (c.fact 67 (f := .noat "Algebra" "discriminant") rfl), He.noat_ok (c.fact 68 (f := .noat "Algebra" "is_tables") rfl), He.noat_ok (c.fact 69 (f := .noat "Algebra" "is_definite") rfl)⟩ : AlgK K (He.ga K "Algebra")) C_P_check_root C_P_square_places, g_P_has_root, F_P_has_root.kp, F_P_has_root.bindsN fun _ _ _ _ _ _ us hl => match us, hl with | [_, _], _ => rfl⟩
  have C_P_prime_powers : Cal P w K mg base 2 "prime_powers" ["number"] spFactors := ⟨_, fd_P_prime_powers, ok_prime_powers F_P_prime_powers T C_P_stripped C_P_next_divisor, g_P_prime_powers, F_P_prime_powers.kp, F_P_prime_powers.bindsN fun _ _ _ _ _ _ us hl => match us, hl with | [_], _ => rfl⟩
  have C_P_factors : Cal P w K mg base 3 "factors" ["number"] spFactors := ⟨_, fd_P_factors, ok_factors F_P_factors C_P_check_number C_P_prime_powers, g_P_factors, F_P_factors.kp, F_P_factors.bindsN fun _ _ _ _ _ _ us hl => match us, hl with | [_], _ => rfl⟩
  have C_P_quarter : Cal P w K mg base 1 "quarter" ["unit"] spQuarter := ⟨_, fd_P_quarter, ok_quarter F_P_quarter , g_P_quarter, F_P_quarter.kp, F_P_quarter.bindsN fun _ _ _ _ _ _ us hl => match us, hl with | [_], _ => rfl⟩
  have C_P_eighth : Cal P w K mg base 1 "eighth" ["unit"] spEighth := ⟨_, fd_P_eighth, ok_eighth F_P_eighth , g_P_eighth, F_P_eighth.kp, F_P_eighth.bindsN fun _ _ _ _ _ _ us hl => match us, hl with | [_], _ => rfl⟩
  have C_P_sign_at_two : Cal P w K mg base 2 "sign_at_two" ["a", "b"] (spSgn true) := ⟨_, fd_P_sign_at_two, ok_sign_at_two F_P_sign_at_two C_P_stripped C_P_quarter C_P_eighth, g_P_sign_at_two, F_P_sign_at_two.kp, F_P_sign_at_two.bindsN fun _ _ _ _ _ _ us hl => match us, hl with | [_, _], _ => rfl⟩
  have C_P_sign_at_odd : Cal P w K mg base 3 "sign_at_odd" ["a", "b", "prime"] (spSgn false) := ⟨_, fd_P_sign_at_odd, ok_sign_at_odd F_P_sign_at_odd C_P_stripped C_P_rest_sign, g_P_sign_at_odd, F_P_sign_at_odd.kp, F_P_sign_at_odd.bindsN fun _ _ _ _ _ _ us hl => match us, hl with | [_, _, _], _ => rfl⟩
  have C_P_sign : Cal P w K mg base 4 "sign" ["a", "b", "place"] spSign := ⟨_, fd_P_sign, ok_sign F_P_sign C_P_sign_at_two C_P_sign_at_odd, g_P_sign, F_P_sign.kp, F_P_sign.bindsN fun _ _ _ _ _ _ us hl => match us, hl with | [_, _, _], _ => rfl⟩
  have C_P_signed_places : Cal P w K mg base 5 "signed_places" ["a", "b"] spPlaces := ⟨_, fd_P_signed_places, ok_signed_places F_P_signed_places T C_P_check_number C_P_factors C_P_sign, g_P_signed_places, F_P_signed_places.kp, F_P_signed_places.bindsN fun _ _ _ _ _ _ us hl => match us, hl with | [_, _], _ => rfl⟩
  have C_P_product_of_primes : Cal P w K mg base 1 "product_of_primes" ["places"] spDisc := ⟨_, fd_P_product_of_primes, ok_product_of_primes F_P_product_of_primes , g_P_product_of_primes, F_P_product_of_primes.kp, F_P_product_of_primes.bindsN fun _ _ _ _ _ _ us hl => match us, hl with | [_], _ => rfl⟩
  have OK_P_Algebra___init__ : FnOk P w K mg base CX0 6 _ fd_P_Algebra___init__ ["self", "a", "b"] (spAlgInit (He.ga K "Algebra")) := ok_Algebra_init F_P_Algebra___init__ T (⟨own_Algebra, He.noat_ok (c.fact 64 (f := .noat "Algebra" "places") rfl), He.noat_ok (c.fact 65 (f := .noat "Algebra" "a") rfl), He.noat_ok (c.fact 66 (f := .noat "Algebra" "b") rfl), He.noat_ok (c.fact 67 (f := .noat "Algebra" "discriminant") rfl), He.noat_ok (c.fact 68 (f := .noat "Algebra" "is_tables") rfl), He.noat_ok (c.fact 69 (f := .noat "Algebra" "is_definite") rfl)⟩ : AlgK K (He.ga K "Algebra")) C_P_signed_places C_P_product_of_primes
  have C_L_right : Cal P w K mg base 8 "_law_right" ["_law_jug_here"] spRight := ⟨_, fd_L_right, ok_right F_L_right T (⟨own_Algebra, He.noat_ok (c.fact 64 (f := .noat "Algebra" "places") rfl), He.noat_ok (c.fact 65 (f := .noat "Algebra" "a") rfl), He.noat_ok (c.fact 66 (f := .noat "Algebra" "b") rfl), He.noat_ok (c.fact 67 (f := .noat "Algebra" "discriminant") rfl), He.noat_ok (c.fact 68 (f := .noat "Algebra" "is_tables") rfl), He.noat_ok (c.fact 69 (f := .noat "Algebra" "is_definite") rfl)⟩ : AlgK K (He.ga K "Algebra")) C_L_pair C_L_partner C_L_of C_P_common_root C_P_is_common_root C_L_is_due C_P_has_root (⟨_, fd_P_Algebra___init__, [], OK_P_Algebra___init__, He.mkr_ok (c.fact 70 (f := .mkr "Algebra") rfl), (He.glo_ok X G (c.fact 62 (f := .glo "Algebra") rfl)), F_P_Algebra___init__.bindsN fun _ _ _ _ _ _ us hl => match us, hl with | [_, _, _], _ => rfl, .nil⟩ : CalC P w K mg base 6 "Algebra" (He.ga K "Algebra") ["self", "a", "b"] [] (spAlgInit (He.ga K "Algebra"))), g_L_right, F_L_right.kp, F_L_right.bindsN fun _ _ _ _ _ _ us hl => match us, hl with | [_], _ => rfl⟩
  exact ok_law F_L_law T C_L_jug C_L_right C_P_is_common_root (⟨_, fd_P_Algebra___init__, [], OK_P_Algebra___init__, He.mkr_ok (c.fact 70 (f := .mkr "Algebra") rfl), (He.glo_ok X G (c.fact 62 (f := .glo "Algebra") rfl)), F_P_Algebra___init__.bindsN fun _ _ _ _ _ _ us hl => match us, hl with | [_, _, _], _ => rfl, .nil⟩ : CalC P w K mg base 6 "Algebra" (He.ga K "Algebra") ["self", "a", "b"] [] (spAlgInit (He.ga K "Algebra")))
end Sf
open PySem PySem.W PySem.Calls PyProof.Rows
set_option maxHeartbeats 0 in
theorem PySem.Challenge.cw_signfours_k26_whole_common_roots_holds : PySem.Challenge.rw_signfours_k26_whole_common_roots.Holds := by
  w_on; o_law
  refine HandSHeadRun.head_imp (r := OpenLaw.row PySem.Challenge.rw_signfours_k26_whole_common_roots) (q := view (OpenLaw.row PySem.Challenge.rw_signfours_k26_whole_common_roots).prog [0, 63]) (H := Sf.hk) (ob := Sf.ob) (M := 20000) (loose := Sf.loose) (d := HandSHeadRun.topDef (OpenLaw.row PySem.Challenge.rw_signfours_k26_whole_common_roots).prog 63) (kwd := []) Sf.ob_eq
    Sf.run (by kernel_rfl) (by kernel_rfl) (by kernel_rfl) (by rfl) (by first | assumption | decide +kernel) (by decide +kernel) ⟨rfl, rfl, rfl, rfl, rfl, by decide +kernel⟩ ?hw ?hc
  case hw => w_witness2
  case hc =>
    refine L2.walk_ofE (l := PySem.Challenge.rw_signfours_k26_whole_common_roots) (n := 63) (k := 9) (x := "_law_script") (CX := L2.CX0) rfl (by decide) (by kernel_rfl) ⟨rfl, by decide, by decide⟩ ?F (fun _ _ _ _ z => z)
    intro w mg fa h Y G hmg0
    obtain ⟨K, KX, c, z⟩ := Y
    have hmg : mg ("law" : PySem.Str) = some (.ref fa) := by
      have e : (HandSHeadRun.topDef (OpenLaw.row PySem.Challenge.rw_signfours_k26_whole_common_roots).prog 63).name = ("law" : PySem.Str) := by kernel_rfl
      rw [← e]
      exact hmg0
    obtain ⟨fd, hb, hF⟩ := Sf.facts (P := (PySem.Challenge.rw_signfours_k26_whole_common_roots).prog) (w := w) KX G hmg c z
    exact ⟨K, fd, Sf.spLaw K, KX, hb, fun H a ns hl _ hS => ⟨a, ns, rfl, hS, hl, fun _ => rfl⟩, hF⟩
