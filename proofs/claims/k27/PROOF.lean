import PyProof.Rows.All
import Wide.All
import OpenK.AllK
import Wide.FinOn
import KE.KStateDown
import Lean
import HandS.Base
import HandS.Call
import HandS.List
import HandS.Comp
import HandS.Ends
import HandS.Evl
import HandS.Dict
import HandS.Iter
import HandS.Text
import HandS.More
import HandS.DictComp
import HandS.Words
import HandS.WordsList
import HandS.WordsExc
import HandS.WordsDict
import HandS.Defaults
import HandS.IsInst
import HandS.Small
import HandS.Wide
import HandS.Style
import HandS.SortInts
import HandS.Set
import HandS.SetFor
import HandS.Strs
import HandS.Star
import HandS.Head0
import HandS.Head1
import HandS.Head2
import HandS.Head3
import HandS.HeadEnd
import HandS.HeadHook1
import HandS.HeadHook2
import KE.KOpsOwn
import KE.GoesMore
import KE.KFmtOwn
import HandS.OwnEq
import HandS.Records
import HandS.Gcd
import HandS.TupAny
import HandS.Walk
import HandS.Zip
import HandS.Zip0
import KE.KDictZip
import PyProof.CollectWalk
import PyProof.ListNew
import HandS.FStr
import HandS.StrMore
import HandS.Flow
import HandS.RaiseMore
import HandS.Exc
import HandS.TryMany
import HandS.Lambda
import PySem.Challenge.RW_signfours_k27_whole_joined_algebras
set_option Elab.async false
set_option linter.all false
set_option maxRecDepth 100000
set_option maxHeartbeats 4000000
namespace Sf
open PySem PySem.Spec PyProof.Rows L2
/-- a def of the text that lets no exception out, ready to be called -/
structure Cal (P : Program) (w : World) (K : PySem.W.Frag) (mg : Str → Option Value) (base : Heap) (k : Nat) (x : Str) (ps : List Str) (sp : Sp) where
  f : Addr
  fd : FuncData
  ok : FnOk P w K mg base CX0 k f fd ps sp
  g : mg x = some (.ref f)
  kp : PySem.W.keepIn K (.ref f) = true
  b : Binds K fd ps []
section
variable {X : Cx} {k : Nat} {x : Str} {ps : List Str} {sp : Sp} {e : Expr} {es : List Expr} {t : TA} {p pos : Pos}
theorem pe_cal (C : Cal X.prog X.w X.K X.mg X.base k x ps sp) (hr : Room k X.A) (ha : PA X (e :: es) t) (hg : Gl X x := by rfl) (hdb : (x == ("__debug__" : Str)) = false := by decide)
    (he : starEach (e :: es) X.env = (false, eval e X.env) :: starEach es X.env := by rfl) (hpl : (backTo pos (starEach es X.env)).any (·.1) = false := by rfl) :
    PE X (.Call (.Name x p) (e :: es) [] pos) (tCall sp [] E0 t) :=
  pe_call C.ok hr hg C.g C.kp C.b .nil pass0 ha hdb he hpl
theorem pe_cal0 (C : Cal X.prog X.w X.K X.mg X.base k x ps sp) (hr : Room k X.A) (hg : Gl X x := by rfl) (hdb : (x == ("__debug__" : Str)) = false := by decide) :
    PE X (.Call (.Name x p) [] [] pos) (tCall sp [] E0 tNil) :=
  pe_call0 C.ok hr hg C.g C.kp C.b .nil pass0 hdb
/-- a power of any size that the machine's line takes -/
def CPowW (i j : Int) : Prop := 0 ≤ j ∧ (Builtin.Int.intBits i : Int) * j ≤ 2 ^ 27
theorem op_powW : OpR X (binaryOp .Pow) (rI CPowW fun i j => .int (i ^ j.toNat)) := opI fun _ _ _ _ _ _ _ hc q => pow_int hc.1 hc.2 q
/-- a dict that a call has just made, frozen from here on -/
theorem pe_frz {e : Expr} {te : TE} (h : PE X e te) : PE X e (fun σ H Q => te σ H fun x H1 => ∃ d u, x = .ref d ∧ H1 d = some u ∧ Mut (some u) ∧ ∀ od, Q x (upd H1 d (.frz od u))) := by
  refine ⟨fun pins s σ H Q I hw => ?_⟩
  refine thn (h.run pins s σ _ _ I hw) fun v s1 ⟨y, H1, I1, r, d, u, e1, hd, mu, q⟩ => ?_
  obtain ⟨od, I2⟩ := I1.lock hd mu
  exact ⟨y, _, I2, r, q od⟩
end
section
variable {X : Cx} {e : Expr}
/-- an expression, with a word behind it: what follows is shown once -/
def tMid (t : TE) : TE := fun σ H Q => ∃ Mid : V → Hp → Prop, t σ H Mid ∧ ∀ v H', Mid v H' → Q v H'
theorem pe_cut {t : TE} (h : PE X e t) : PE X e (tMid t) :=
  ⟨fun pins s σ H Q I ⟨Mid, hm, hu⟩ => thn (h.run pins s σ H Mid I hm) fun u s1 ⟨x, H1, I1, r, q⟩ => ⟨x, H1, I1, r, hu x H1 q⟩⟩
def tMidT (t : TT) : TT := fun σ H Q => ∃ Mid : Bool → Hp → Prop, t σ H Mid ∧ ∀ v H', Mid v H' → Q v H'
theorem pt_mid {t : TT} (h : PT X e t) : PT X e (tMidT t) :=
  ⟨fun pins s σ H Q I ⟨Mid, hm, hu⟩ => thn (h.run pins s σ H Mid I hm) fun b s1 ⟨H1, I1, q⟩ => ⟨H1, I1, hu b H1 q⟩⟩
end
theorem same_upd {H : Hp} {p : Addr} {o : HO} (h : H p = none) : Same H (upd H p o) := fun b x e => by
  rw [upd_ne (ne_of_none e h)]
  exact e
theorem CMulW.of {i j : Int} (hi : i.natAbs < 2 ^ 3000) (hj : j.natAbs < 2 ^ 3000) : CMulW i j := wide_mul hi hj (by decide) (by decide) (by decide)
theorem CDivW.of {i j : Int} (h0 : 0 < j) (hj : j.natAbs < 2 ^ 3000) : CDivW i j := wide_div h0 hj (by decide) (by decide)
theorem two3000 : (10 : Nat) ^ 600 < 2 ^ 3000 := by decide +kernel
end Sf
namespace Sf
open PySem PySem.Spec PyProof.Rows L2
/-- an if whose test is a decision -/
theorem ifd {p : Prop} [Decidable p] {A B : Prop} (h1 : p → A) (h2 : ¬ p → B) : if decide p = true then A else B := by
  by_cases h : p
  · rw [if_pos (decide_eq_true h)]; exact h1 h
  · rw [if_neg (by simpa using h)]; exact h2 h
theorem ifn {p : Prop} [Decidable p] {A B : Prop} (h1 : ¬ p → A) (h2 : p → B) : if (!decide p) = true then A else B := by
  by_cases h : p
  · rw [if_neg (by simpa using h)]; exact h2 h
  · rw [if_pos (by simpa using h)]; exact h1 h
theorem ifb {b : Bool} {A B : Prop} (h1 : b = true → A) (h2 : b = false → B) : if b = true then A else B := by
  cases b with
  | true => rw [if_pos rfl]; exact h1 rfl
  | false => rw [if_neg Bool.false_ne_true]; exact h2 rfl
end Sf
namespace Sf
open PySem PySem.Spec PyProof.Rows L2
/-! the head's facts and one more Bool -/
abbrev AlO : Type := He.AlD × Bool
/-- what is looked at: the module's names, what they name, so on; a code object's own things are left out -/
def refsN (o : Obj) : List Addr := match o.data with
  | .dict es _ => es.toList.flatMap fun e => He.refV e.val
  | .func fd => He.refV fd.code ++ He.refV fd.defaults
  | .cls cd => cd.ns :: cd.mro.flatMap He.refV
  | _ => []
def stepN (g : Addr → Option Obj) (as : List Addr) : List Addr := as.flatMap fun a => match g a with
  | some o => refsN o
  | none => []
def asN (g : Addr → Option Obj) : Nat → List Addr → List Addr
  | 0, as => as
  | n + 1, as => as ++ asN g n (stepN g as)
def obsO (n : Nat) (fa : List He.Fa) (fn : List He.DefD) (ex : PySem.W.Frag → Bool) (g : Addr → Option Obj) : AlO := (He.obsD fa fn (He.frG g (asN g n [mainGlobals])), ex (He.frG g (asN g n [mainGlobals])))
def hookO (n : Nat) (fa : List He.Fa) (fn : List He.DefD) (ex : PySem.W.Frag → Bool) : PySem.W.Hook where
  α := AlO
  obs := fun s => obsO n fa fn ex s.heap.get?
  val := fun _ => (He.valD fn, true)
  says := fun _ h => ∃ K : PySem.W.Frag, K.In h ∧ He.SaysD fa fn K ∧ ex K = true
  of := fun _ _ e => ⟨_, He.frG_in, congrArg (fun z : AlO => z.1) e, congrArg (fun z : AlO => z.2) e⟩
  keeps := fun _ _ _ ⟨K, hK, c⟩ k => ⟨K, PySem.W.Frag.In.keeps hK k, c⟩
theorem obsO_eq {n : Nat} {fa : List He.Fa} {fn : List He.DefD} {ex : PySem.W.Frag → Bool} {g : Addr → Option Obj} {s : Shared} (h : ∀ a, g a = s.heap.get? a) : obsO n fa fn ex g = (hookO n fa fn ex).obs s := by
  have e : g = s.heap.get? := funext h
  rw [e] <;> rfl
def ownB (K : PySem.W.Frag) (x : Str) : Bool := PySem.W.selfFirst K (He.ga K x) && (decide (PySem.W.subIn K (.type "int") (.ref (He.ga K x)) = some false) && (He.eqO (PySem.W.findIn K (.ref (He.ga K x)) "__ne__") (some (some (.builtin "object.__ne__"))) &&
  (decide (PySem.W.mroIn K (He.ga K x) (.type "object") = some true) && (He.eqO (PySem.W.findIn K (.ref (He.ga K x)) "__class__") (some (some (.builtin "object.__class__"))) && (He.eqO (PySem.W.specialIn K (.builtin "object.__class__") "__get__") (some (some (.builtin "getset_descriptor.__get__"))) &&
  (decide (PySem.W.takesIn K (.builtin "object.__class__") = some true) && (decide (PySem.W.kitOne K (.ref (He.ga K x)) (.ref (He.ga K x)) = some true) && decide (PySem.W.kitOne K (.type "int") (.ref (He.ga K x)) = some false))))))))
/-- a module's name that holds a built-in function -/
def gblB (K : PySem.W.Frag) (x : Str) (id : String) : Bool := He.eqO (PySem.W.nsIn K mainGlobals x) (some (some (.builtin id)))
theorem gblB_ok {K : PySem.W.Frag} {h : Heap} {mg : Str → Option Value} (X : K.In h) (G : h.Ns mainGlobals mg) {x : Str} {id : String} (c : gblB K x id = true) : mg x = some (.builtin id) := PySem.W.mg_of X G (He.eqO_ok c)
end Sf

namespace Sf
open PySem PySem.Spec PyProof.Rows L2
def top (i : Nat) : Stmt := PySem.Challenge.pw_signfours_k27_whole_joined_algebras.main.body.getD i (.Pass ⟨0, 0, 0, 0⟩)
abbrev s_P__wall : Stmt := top 0
theorem sc_P__wall : FnScope ["k"] ["k"] (defScope s_P__wall) := ⟨rfl, rfl, rfl, by decide +kernel, rfl, by decide +kernel, by decide +kernel⟩
abbrev s_P_is_integer : Stmt := top 2
theorem sc_P_is_integer : FnScope ["value"] ["value"] (defScope s_P_is_integer) := ⟨rfl, rfl, rfl, by decide +kernel, rfl, by decide +kernel, by decide +kernel⟩
abbrev s_P_InvalidNumber___init__ : Stmt := inClass (top 6) 0
theorem sc_P_InvalidNumber___init__ : FnScope ["self", "given"] ["self", "given"] (defScope s_P_InvalidNumber___init__) := ⟨rfl, rfl, rfl, by decide +kernel, rfl, by decide +kernel, by decide +kernel⟩
abbrev s_P_TooMany___init__ : Stmt := inClass (top 7) 0
theorem sc_P_TooMany___init__ : FnScope ["self", "most"] ["self", "most"] (defScope s_P_TooMany___init__) := ⟨rfl, rfl, rfl, by decide +kernel, rfl, by decide +kernel, by decide +kernel⟩
abbrev s_P_is_prime : Stmt := top 10
theorem sc_P_is_prime : FnScope ["value", "divisor"] ["value"] (defScope s_P_is_prime) := ⟨rfl, rfl, rfl, by decide +kernel, rfl, by decide +kernel, by decide +kernel⟩
abbrev s_P_factors : Stmt := top 11
theorem sc_P_factors : FnScope ["number"] ["number"] (defScope s_P_factors) := ⟨rfl, rfl, rfl, by decide +kernel, rfl, by decide +kernel, by decide +kernel⟩
abbrev s_P_prime_powers : Stmt := top 12
theorem sc_P_prime_powers : FnScope ["number", "rest", "found", "divisor"] ["number"] (defScope s_P_prime_powers) := ⟨rfl, rfl, rfl, by decide +kernel, rfl, by decide +kernel, by decide +kernel⟩
abbrev s_P_check_number : Stmt := top 13
theorem sc_P_check_number : FnScope ["value"] ["value"] (defScope s_P_check_number) := ⟨rfl, rfl, rfl, by decide +kernel, rfl, by decide +kernel, by decide +kernel⟩
abbrev s_P_next_divisor : Stmt := top 14
theorem sc_P_next_divisor : FnScope ["divisor"] ["divisor"] (defScope s_P_next_divisor) := ⟨rfl, rfl, rfl, by decide +kernel, rfl, by decide +kernel, by decide +kernel⟩
abbrev s_P_stripped : Stmt := top 15
theorem sc_P_stripped : FnScope ["number", "prime", "many"] ["number", "prime"] (defScope s_P_stripped) := ⟨rfl, rfl, rfl, by decide +kernel, rfl, by decide +kernel, by decide +kernel⟩
abbrev s_P_rest_sign : Stmt := top 16
theorem sc_P_rest_sign : FnScope ["number", "prime"] ["number", "prime"] (defScope s_P_rest_sign) := ⟨rfl, rfl, rfl, by decide +kernel, rfl, by decide +kernel, by decide +kernel⟩
abbrev s_P_power_modulo : Stmt := top 17
theorem sc_P_power_modulo : FnScope ["number", "many", "modulus", "made", "square"] ["number", "many", "modulus"] (defScope s_P_power_modulo) := ⟨rfl, rfl, rfl, by decide +kernel, rfl, by decide +kernel, by decide +kernel⟩
abbrev s_P_signed_places : Stmt := top 19
theorem sc_P_signed_places : FnScope ["a", "b", "divisors", "place"] ["a", "b"] (defScope s_P_signed_places) := ⟨rfl, rfl, rfl, by decide +kernel, rfl, by decide +kernel, by decide +kernel⟩
abbrev s_P_sign : Stmt := top 20
theorem sc_P_sign : FnScope ["a", "b", "place"] ["a", "b", "place"] (defScope s_P_sign) := ⟨rfl, rfl, rfl, by decide +kernel, rfl, by decide +kernel, by decide +kernel⟩
abbrev s_P_sign_at_two : Stmt := top 21
theorem sc_P_sign_at_two : FnScope ["a", "b", "s", "one", "t", "other", "told"] ["a", "b"] (defScope s_P_sign_at_two) := ⟨rfl, rfl, rfl, by decide +kernel, rfl, by decide +kernel, by decide +kernel⟩
abbrev s_P_quarter : Stmt := top 22
theorem sc_P_quarter : FnScope ["unit"] ["unit"] (defScope s_P_quarter) := ⟨rfl, rfl, rfl, by decide +kernel, rfl, by decide +kernel, by decide +kernel⟩
abbrev s_P_eighth : Stmt := top 23
theorem sc_P_eighth : FnScope ["unit"] ["unit"] (defScope s_P_eighth) := ⟨rfl, rfl, rfl, by decide +kernel, rfl, by decide +kernel, by decide +kernel⟩
abbrev s_P_sign_at_odd : Stmt := top 24
theorem sc_P_sign_at_odd : FnScope ["a", "b", "prime", "s", "one", "t", "other", "told"] ["a", "b", "prime"] (defScope s_P_sign_at_odd) := ⟨rfl, rfl, rfl, by decide +kernel, rfl, by decide +kernel, by decide +kernel⟩
abbrev s_P_Algebra___init__ : Stmt := inClass (top 26) 0
theorem sc_P_Algebra___init__ : FnScope ["self", "a", "b"] ["self", "a", "b"] (defScope s_P_Algebra___init__) := ⟨rfl, rfl, rfl, by decide +kernel, rfl, by decide +kernel, by decide +kernel⟩
abbrev s_P_Algebra_basis : Stmt := inClass (top 26) 1
theorem sc_P_Algebra_basis : FnScope ["self"] ["self"] (defScope s_P_Algebra_basis) := ⟨rfl, rfl, rfl, by decide +kernel, rfl, by decide +kernel, by decide +kernel⟩
abbrev s_P_Algebra___eq__ : Stmt := inClass (top 26) 2
theorem sc_P_Algebra___eq__ : FnScope ["self", "value"] ["self", "value"] (defScope s_P_Algebra___eq__) := ⟨rfl, rfl, rfl, by decide +kernel, rfl, by decide +kernel, by decide +kernel⟩
abbrev s_P_Algebra___str__ : Stmt := inClass (top 26) 3
theorem sc_P_Algebra___str__ : FnScope ["self"] ["self"] (defScope s_P_Algebra___str__) := ⟨rfl, rfl, rfl, by decide +kernel, rfl, by decide +kernel, by decide +kernel⟩
abbrev s_P_check_algebra : Stmt := top 27
theorem sc_P_check_algebra : FnScope ["value"] ["value"] (defScope s_P_check_algebra) := ⟨rfl, rfl, rfl, by decide +kernel, rfl, by decide +kernel, by decide +kernel⟩
abbrev s_P_product_of_primes : Stmt := top 28
theorem sc_P_product_of_primes : FnScope ["places", "made", "place"] ["places"] (defScope s_P_product_of_primes) := ⟨rfl, rfl, rfl, by decide +kernel, rfl, by decide +kernel, by decide +kernel⟩
abbrev s_P_algebra_with : Stmt := top 30
theorem sc_P_algebra_with : FnScope ["places", "free", "size", "number"] ["places"] (defScope s_P_algebra_with) := ⟨rfl, rfl, rfl, by decide +kernel, rfl, by decide +kernel, by decide +kernel⟩
abbrev s_P_has_places : Stmt := top 31
theorem sc_P_has_places : FnScope ["number", "free", "size", "places", "place"] ["number", "free", "size", "places"] (defScope s_P_has_places) := ⟨rfl, rfl, rfl, by decide +kernel, rfl, by decide +kernel, by decide +kernel⟩
abbrev s_P_are_alike : Stmt := top 35
theorem sc_P_are_alike : FnScope ["one", "other"] ["one", "other"] (defScope s_P_are_alike) := ⟨rfl, rfl, rfl, by decide +kernel, rfl, by decide +kernel, by decide +kernel⟩
abbrev s_P_joined_places : Stmt := top 36
theorem sc_P_joined_places : FnScope ["one", "other"] ["one", "other"] (defScope s_P_joined_places) := ⟨rfl, rfl, rfl, by decide +kernel, rfl, by decide +kernel, by decide +kernel⟩
abbrev s_P_joined : Stmt := top 37
theorem sc_P_joined : FnScope ["one", "other", "places"] ["one", "other"] (defScope s_P_joined) := ⟨rfl, rfl, rfl, by decide +kernel, rfl, by decide +kernel, by decide +kernel⟩
abbrev s_P_check_sides : Stmt := top 38
theorem sc_P_check_sides : FnScope ["one", "other"] ["one", "other"] (defScope s_P_check_sides) := ⟨rfl, rfl, rfl, by decide +kernel, rfl, by decide +kernel, by decide +kernel⟩
abbrev s_P_check_side : Stmt := top 39
theorem sc_P_check_side : FnScope ["algebra"] ["algebra"] (defScope s_P_check_side) := ⟨rfl, rfl, rfl, by decide +kernel, rfl, by decide +kernel, by decide +kernel⟩
abbrev s_P_places_of_both : Stmt := top 40
theorem sc_P_places_of_both : FnScope ["one", "other"] ["one", "other"] (defScope s_P_places_of_both) := ⟨rfl, rfl, rfl, by decide +kernel, rfl, by decide +kernel, by decide +kernel⟩
abbrev s_P_places_of_one : Stmt := top 41
theorem sc_P_places_of_one : FnScope ["one", "other", "both", "place"] ["one", "other"] (defScope s_P_places_of_one) := ⟨rfl, rfl, rfl, by decide +kernel, rfl, by decide +kernel, by decide +kernel⟩
abbrev s_L_jug : Stmt := top 43
theorem sc_L_jug : FnScope ["_law_script", "_law_spot", "_law_cell", "_law_great", "_law_mixed"] ["_law_script", "_law_spot"] (defScope s_L_jug) := ⟨rfl, rfl, rfl, by decide +kernel, rfl, by decide +kernel, by decide +kernel⟩
abbrev s_L_pour : Stmt := top 44
theorem sc_L_pour : FnScope ["_law_jug_here", "_law_many", "_law_found", "_law_one", "_law_two"] ["_law_jug_here", "_law_many"] (defScope s_L_pour) := ⟨rfl, rfl, rfl, by decide +kernel, rfl, by decide +kernel, by decide +kernel⟩
abbrev s_L_of : Stmt := top 45
theorem sc_L_of : FnScope ["_law_jug_here", "_law_items"] ["_law_jug_here", "_law_items"] (defScope s_L_of) := ⟨rfl, rfl, rfl, by decide +kernel, rfl, by decide +kernel, by decide +kernel⟩
abbrev s_L_parts : Stmt := top 46
theorem sc_L_parts : FnScope ["_law_number", "_law_found", "_law_left", "_law_prime", "_law_many"] ["_law_number"] (defScope s_L_parts) := ⟨rfl, rfl, rfl, by decide +kernel, rfl, by decide +kernel, by decide +kernel⟩
abbrev s_L_residue : Stmt := top 47
theorem sc_L_residue : FnScope ["_law_number", "_law_prime", "_law_found", "_law_base", "_law_left"] ["_law_number", "_law_prime"] (defScope s_L_residue) := ⟨rfl, rfl, rfl, by decide +kernel, rfl, by decide +kernel, by decide +kernel⟩
abbrev s_L_bare : Stmt := top 48
theorem sc_L_bare : FnScope ["_law_number", "_law_prime", "_law_many"] ["_law_number", "_law_prime"] (defScope s_L_bare) := ⟨rfl, rfl, rfl, by decide +kernel, rfl, by decide +kernel, by decide +kernel⟩
abbrev s_L_sign : Stmt := top 49
theorem sc_L_sign : FnScope ["_law_a", "_law_b", "_law_place", "_law_s", "_law_left", "_law_t", "_law_right_here", "_law_odd", "_law_marks", "_law_found"] ["_law_a", "_law_b", "_law_place"] (defScope s_L_sign) := ⟨rfl, rfl, rfl, by decide +kernel, rfl, by decide +kernel, by decide +kernel⟩
abbrev s_L_places : Stmt := top 50
theorem sc_L_places : FnScope ["_law_a", "_law_b", "_law_near", "_law_part", "_law_place"] ["_law_a", "_law_b"] (defScope s_L_places) := ⟨rfl, rfl, rfl, by decide +kernel, rfl, by decide +kernel, by decide +kernel⟩
abbrev s_L_drawn : Stmt := top 51
theorem sc_L_drawn : FnScope ["_law_jug_here", "_law_most", "_law_found"] ["_law_jug_here", "_law_most"] (defScope s_L_drawn) := ⟨rfl, rfl, rfl, by decide +kernel, rfl, by decide +kernel, by decide +kernel⟩
abbrev s_L_apart : Stmt := top 52
theorem sc_L_apart : FnScope ["_law_one", "_law_other", "_law_place"] ["_law_one", "_law_other"] (defScope s_L_apart) := ⟨rfl, rfl, rfl, by decide +kernel, rfl, by decide +kernel, by decide +kernel⟩
abbrev s_L_small_pair : Stmt := top 53
theorem sc_L_small_pair : FnScope ["_law_jug_here", "_law_most"] ["_law_jug_here"] (defScope s_L_small_pair) := ⟨rfl, rfl, rfl, by decide +kernel, rfl, by decide +kernel, by decide +kernel⟩
abbrev s_L_is_joined : Stmt := top 54
theorem sc_L_is_joined : FnScope ["_law_one", "_law_other", "_law_due", "_law_told"] ["_law_one", "_law_other"] (defScope s_L_is_joined) := ⟨rfl, rfl, rfl, by decide +kernel, rfl, by decide +kernel, by decide +kernel⟩
abbrev s_L_right : Stmt := top 55
theorem sc_L_right : FnScope ["_law_jug_here", "_law_some", "_law_turn", "_law_a", "_law_b", "_law_one", "_law_other", "_law_third", "_law_due", "_law_c", "_law_mixed", "_law_shared", "_law_small"] ["_law_jug_here"] (defScope s_L_right) := ⟨rfl, rfl, rfl, by decide +kernel, rfl, by decide +kernel, by decide +kernel⟩
abbrev s_L_law : Stmt := top 56
theorem sc_L_law : FnScope ["_law_script", "_law_spot", "_law_plain", "_law_eleven", "_law_told"] ["_law_script"] (defScope s_L_law) := ⟨rfl, rfl, rfl, by decide +kernel, rfl, by decide +kernel, by decide +kernel⟩
end Sf

namespace Sf
open PySem PySem.Spec PyProof.Rows L2
def d_L_jug : He.DefD := ⟨("_law_jug", none), "_law_jug", "_law_jug", defArgs s_L_jug, defBody s_L_jug, defScope s_L_jug, [], []⟩
def d_L_pour : He.DefD := ⟨("_law_pour", none), "_law_pour", "_law_pour", defArgs s_L_pour, defBody s_L_pour, defScope s_L_pour, [], []⟩
def d_L_of : He.DefD := ⟨("_law_of", none), "_law_of", "_law_of", defArgs s_L_of, defBody s_L_of, defScope s_L_of, [], []⟩
def d_L_drawn : He.DefD := ⟨("_law_drawn", none), "_law_drawn", "_law_drawn", defArgs s_L_drawn, defBody s_L_drawn, defScope s_L_drawn, [], []⟩
def d_L_small_pair : He.DefD := ⟨("_law_small_pair", none), "_law_small_pair", "_law_small_pair", defArgs s_L_small_pair, defBody s_L_small_pair, defScope s_L_small_pair, [], []⟩
def d_L_apart : He.DefD := ⟨("_law_apart", none), "_law_apart", "_law_apart", defArgs s_L_apart, defBody s_L_apart, defScope s_L_apart, [], []⟩
def d_L_parts : He.DefD := ⟨("_law_parts", none), "_law_parts", "_law_parts", defArgs s_L_parts, defBody s_L_parts, defScope s_L_parts, [], []⟩
def d_L_bare : He.DefD := ⟨("_law_bare", none), "_law_bare", "_law_bare", defArgs s_L_bare, defBody s_L_bare, defScope s_L_bare, [], []⟩
def d_L_residue : He.DefD := ⟨("_law_residue", none), "_law_residue", "_law_residue", defArgs s_L_residue, defBody s_L_residue, defScope s_L_residue, [], []⟩
def d_L_sign : He.DefD := ⟨("_law_sign", none), "_law_sign", "_law_sign", defArgs s_L_sign, defBody s_L_sign, defScope s_L_sign, [], []⟩
def d_L_places : He.DefD := ⟨("_law_places", none), "_law_places", "_law_places", defArgs s_L_places, defBody s_L_places, defScope s_L_places, [], []⟩
def d_P_check_algebra : He.DefD := ⟨("check_algebra", none), "check_algebra", "check_algebra", defArgs s_P_check_algebra, defBody s_P_check_algebra, defScope s_P_check_algebra, [], []⟩
def d_P_check_side : He.DefD := ⟨("check_side", none), "check_side", "check_side", defArgs s_P_check_side, defBody s_P_check_side, defScope s_P_check_side, [], []⟩
def d_P_check_sides : He.DefD := ⟨("check_sides", none), "check_sides", "check_sides", defArgs s_P_check_sides, defBody s_P_check_sides, defScope s_P_check_sides, [], []⟩
def d_P_places_of_both : He.DefD := ⟨("places_of_both", none), "places_of_both", "places_of_both", defArgs s_P_places_of_both, defBody s_P_places_of_both, defScope s_P_places_of_both, [], []⟩
def d_P_places_of_one : He.DefD := ⟨("places_of_one", none), "places_of_one", "places_of_one", defArgs s_P_places_of_one, defBody s_P_places_of_one, defScope s_P_places_of_one, [], []⟩
def d_P_joined_places : He.DefD := ⟨("joined_places", none), "joined_places", "joined_places", defArgs s_P_joined_places, defBody s_P_joined_places, defScope s_P_joined_places, [], []⟩
def d_P_product_of_primes : He.DefD := ⟨("product_of_primes", none), "product_of_primes", "product_of_primes", defArgs s_P_product_of_primes, defBody s_P_product_of_primes, defScope s_P_product_of_primes, [], []⟩
def d_P_stripped : He.DefD := ⟨("stripped", none), "stripped", "stripped", defArgs s_P_stripped, defBody s_P_stripped, defScope s_P_stripped, [], []⟩
def d_P_quarter : He.DefD := ⟨("quarter", none), "quarter", "quarter", defArgs s_P_quarter, defBody s_P_quarter, defScope s_P_quarter, [], []⟩
def d_P_eighth : He.DefD := ⟨("eighth", none), "eighth", "eighth", defArgs s_P_eighth, defBody s_P_eighth, defScope s_P_eighth, [], []⟩
def d_P_sign_at_two : He.DefD := ⟨("sign_at_two", none), "sign_at_two", "sign_at_two", defArgs s_P_sign_at_two, defBody s_P_sign_at_two, defScope s_P_sign_at_two, [], []⟩
def d_P_power_modulo : He.DefD := ⟨("power_modulo", none), "power_modulo", "power_modulo", defArgs s_P_power_modulo, defBody s_P_power_modulo, defScope s_P_power_modulo, [], []⟩
def d_P_rest_sign : He.DefD := ⟨("rest_sign", none), "rest_sign", "rest_sign", defArgs s_P_rest_sign, defBody s_P_rest_sign, defScope s_P_rest_sign, [], []⟩
def d_P_sign_at_odd : He.DefD := ⟨("sign_at_odd", none), "sign_at_odd", "sign_at_odd", defArgs s_P_sign_at_odd, defBody s_P_sign_at_odd, defScope s_P_sign_at_odd, [], []⟩
def d_P_sign : He.DefD := ⟨("sign", none), "sign", "sign", defArgs s_P_sign, defBody s_P_sign, defScope s_P_sign, [], []⟩
def d_P_has_places : He.DefD := ⟨("has_places", none), "has_places", "has_places", defArgs s_P_has_places, defBody s_P_has_places, defScope s_P_has_places, [], []⟩
def d_P_is_integer : He.DefD := ⟨("is_integer", none), "is_integer", "is_integer", defArgs s_P_is_integer, defBody s_P_is_integer, defScope s_P_is_integer, [], []⟩
def d_P_next_divisor : He.DefD := ⟨("next_divisor", none), "next_divisor", "next_divisor", defArgs s_P_next_divisor, defBody s_P_next_divisor, defScope s_P_next_divisor, [], []⟩
def d_P_is_prime : He.DefD := ⟨("is_prime", none), "is_prime", "is_prime", defArgs s_P_is_prime, defBody s_P_is_prime, defScope s_P_is_prime, [], []⟩
def d_P_check_number : He.DefD := ⟨("check_number", none), "check_number", "check_number", defArgs s_P_check_number, defBody s_P_check_number, defScope s_P_check_number, [], []⟩
def d_P_prime_powers : He.DefD := ⟨("prime_powers", none), "prime_powers", "prime_powers", defArgs s_P_prime_powers, defBody s_P_prime_powers, defScope s_P_prime_powers, [], []⟩
def d_P_factors : He.DefD := ⟨("factors", none), "factors", "factors", defArgs s_P_factors, defBody s_P_factors, defScope s_P_factors, [], []⟩
def d_P_signed_places : He.DefD := ⟨("signed_places", none), "signed_places", "signed_places", defArgs s_P_signed_places, defBody s_P_signed_places, defScope s_P_signed_places, [], []⟩
def d_P_Algebra___init__ : He.DefD := ⟨("Algebra", some "__init__"), "__init__", "Algebra.__init__", defArgs s_P_Algebra___init__, defBody s_P_Algebra___init__, defScope s_P_Algebra___init__, [], []⟩
def d_P_algebra_with : He.DefD := ⟨("algebra_with", none), "algebra_with", "algebra_with", defArgs s_P_algebra_with, defBody s_P_algebra_with, defScope s_P_algebra_with, [], []⟩
def d_P_joined : He.DefD := ⟨("joined", none), "joined", "joined", defArgs s_P_joined, defBody s_P_joined, defScope s_P_joined, [], []⟩
def d_L_is_joined : He.DefD := ⟨("_law_is_joined", none), "_law_is_joined", "_law_is_joined", defArgs s_L_is_joined, defBody s_L_is_joined, defScope s_L_is_joined, [], []⟩
def d_P_are_alike : He.DefD := ⟨("are_alike", none), "are_alike", "are_alike", defArgs s_P_are_alike, defBody s_P_are_alike, defScope s_P_are_alike, [], []⟩
def d_L_right : He.DefD := ⟨("_law_right", none), "_law_right", "_law_right", defArgs s_L_right, defBody s_L_right, defScope s_L_right, [], []⟩
def d_L_law : He.DefD := ⟨("law", none), "law", "law", defArgs s_L_law, defBody s_L_law, defScope s_L_law, [], []⟩
def fn : List He.DefD := [d_L_jug, d_L_pour, d_L_of, d_L_drawn, d_L_small_pair, d_L_apart, d_L_parts, d_L_bare, d_L_residue, d_L_sign, d_L_places, d_P_check_algebra, d_P_check_side, d_P_check_sides, d_P_places_of_both, d_P_places_of_one, d_P_joined_places, d_P_product_of_primes, d_P_stripped, d_P_quarter, d_P_eighth, d_P_sign_at_two, d_P_power_modulo, d_P_rest_sign, d_P_sign_at_odd, d_P_sign, d_P_has_places, d_P_is_integer, d_P_next_divisor, d_P_is_prime, d_P_check_number, d_P_prime_powers, d_P_factors, d_P_signed_places, d_P_Algebra___init__, d_P_algebra_with, d_P_joined, d_L_is_joined, d_P_are_alike, d_L_right, d_L_law]
def fa : List He.Fa := ([.glo "_law_jug", .glo "_law_pour", .glo "_law_of", .glo "_law_drawn", .glo "_law_small_pair", .glo "_law_apart", .glo "_law_parts", .glo "_law_bare", .glo "_law_residue", .glo "_law_sign", .glo "_law_places", .glo "check_algebra", .glo "check_side", .glo "check_sides", .glo "places_of_both", .glo "places_of_one", .glo "joined_places", .glo "product_of_primes", .glo "stripped", .glo "quarter", .glo "eighth", .glo "sign_at_two", .glo "power_modulo", .glo "rest_sign", .glo "sign_at_odd", .glo "sign", .glo "has_places", .glo "is_integer", .glo "next_divisor", .glo "is_prime"] : List He.Fa) ++ ([.glo "check_number", .glo "prime_powers", .glo "factors", .glo "signed_places", .glo "algebra_with", .glo "joined", .glo "_law_is_joined", .glo "are_alike", .glo "_law_right", .glo "law", .free "isinstance", .free "int", .free "bool", .free "abs", .free "sorted", .free "tuple", .free "set", .free "len", .free "all", .free "max", .free "sum", .free "range", .free "min", .int "MAX_NUMBER" 1000000000, .int "MAX_JOINED" 100000000, .int "MAX_SIDE" 10000, .glo "Algebra", .cls "Algebra", .noat "Algebra" "places", .noat "Algebra" "a"] : List He.Fa) ++ ([.noat "Algebra" "b", .noat "Algebra" "discriminant", .noat "Algebra" "is_tables", .noat "Algebra" "is_definite", .mkr "Algebra"] : List He.Fa)
def ex (K : PySem.W.Frag) : Bool := ownB K "Algebra" && (true)
abbrev R : PySem.W.OpenRow := PySem.W.OpenLaw.row PySem.Challenge.rw_signfours_k27_whole_joined_algebras
abbrev hk : PySem.W.Hook := hookO 4 fa fn ex
def ob (s : PySem.W.SharedT) : AlO := obsO 4 fa fn ex (HandSHeadRun.getT s)
theorem ob_eq (s : PySem.W.SharedT) : ob s = hk.obs s.abs := obsO_eq (HandSHeadRun.getT_eq s)
def loose : List Str := (["_wall", "is_integer", "FourError", "InvalidAlgebra", "InvalidNumber", "TooMany", "MAX_NUMBER", "is_prime", "factors", "prime_powers", "check_number", "next_divisor", "stripped", "rest_sign", "power_modulo", "signed_places", "sign", "sign_at_two", "quarter", "eighth", "sign_at_odd", "Algebra", "check_algebra", "product_of_primes", "algebra_with", "has_places", "MAX_SIDE", "MAX_JOINED", "are_alike", "joined_places"] : List Str) ++ (["joined", "check_sides", "check_side", "places_of_both", "places_of_one", "_law_jug", "_law_pour", "_law_of", "_law_parts", "_law_residue", "_law_bare", "_law_sign", "_law_places", "_law_drawn", "_law_apart", "_law_small_pair", "_law_is_joined", "_law_right"] : List Str)
set_option maxHeartbeats 0 in
theorem run (w : World) : HandSHeadRun.RunEq R (PySem.W.view R.prog [56]) hk ob 20000 loose w := by
  intro os
  kernel_rfl
end Sf

namespace Sf
open PySem PySem.Spec PyProof.Rows L2
abbrev FnD (K : PySem.W.Frag) (x qual : Str) (st : Stmt) (f : Addr) (fd : FuncData) : Prop := FunD K x qual (defArgs st) (defBody st) (defScope st) [] [] f fd
/-- a def with defaults -/
abbrev FnDD (K : PySem.W.Frag) (x qual : Str) (st : Stmt) (dvs : List V) (f : Addr) (fd : FuncData) : Prop := FunD K x qual (defArgs st) (defBody st) (defScope st) dvs [] f fd
theorem lt3000 {a : Int} (h0 : 0 ≤ a) (h : a < 10 ^ 400) : a.natAbs < 2 ^ 3000 := by
  have h1 : (10 : Int) ^ 400 < 2 ^ 3000 := by decide +kernel
  have h2 : ((a.natAbs : Nat) : Int) < ((2 ^ 3000 : Nat) : Int) := by
    rw [Int.natAbs_of_nonneg h0]
    exact Int.lt_trans h h1
  exact Int.ofNat_lt.mp h2
theorem lt3000s {a : Int} (h0 : -1000000000000000000000000000000 < a) (h : a < 1000000000000000000000000000000) : a.natAbs < 2 ^ 3000 := Nat.lt_trans (by omega : a.natAbs < 1000000000000000000000000000000) (by decide +kernel)
theorem inV_two (x a b : Int) : inV (.int x) [.int a, .int b] = decide (x = a ∨ x = b) := by
  show ((a == x) || ((b == x) || false)) = _
  rw [Bool.or_false, Bool.eq_iff_iff]
  simp only [Bool.or_eq_true, beq_iff_eq, decide_eq_true_eq]
  constructor
  · rintro (h | h)
    · exact .inl h.symm
    · exact .inr h.symm
  · rintro (h | h)
    · exact .inl h.symm
    · exact .inr h.symm
theorem inV_ints (x : Int) (l : List Int) : inV (.int x) (l.map V.int) = decide (x ∈ l) := by
  unfold inV
  rw [List.any_map, Bool.eq_iff_iff, List.any_eq_true]
  simp only [decide_eq_true_eq]
  constructor
  · rintro ⟨y, hy, e⟩
    have e2 : (y == x) = true := e
    rw [← beq_iff_eq.mp e2]
    exact hy
  · intro h
    refine ⟨x, h, ?_⟩
    show (x == x) = true
    exact beq_self_eq_true x
theorem all_flat (l : List Int) : (l.map V.int).all flatV = true := by
  rw [List.all_map, List.all_eq_true]
  intro x _
  rfl
end Sf

namespace Sf
open PySem PySem.Spec PyProof.Rows L2
section
variable {P : Program} {w : World} {K : PySem.W.Frag} {mg : Str → Option Value} {base : Heap} {f : Addr} {fd : FuncData}
def spNext : Sp := fun vs H Q _ => ∃ d : Int, vs = [.int d] ∧ Q (.int (if d = 2 then 3 else d + 2)) H
theorem ok_next (F : FnD K "next_divisor" "next_divisor" s_P_next_divisor f fd) : FnOk P w K mg base CX0 1 f fd ["divisor"] spNext := by
  refine F.ok sc_P_next_divisor (fun vs H Q E h => ?_) (fun cdv A outer s H vs Q E hr h => ?_)
  · obtain ⟨d, rfl, _⟩ := h; rfl
  · obtain ⟨d, rfl, q⟩ := h
    refine ⟨_, PSs.nox (pss_one (ps_ret (pe_ifExp (pt_cmp (pc_eqI (pv 0) pe_int)) pe_int (pe_op op_add (pv 0) pe_int)))), ?_⟩
    refine ⟨_, rfl, _, _, rfl, rfl, _, rfl, ifd (fun h => ?_) (fun h => ?_)⟩
    · rw [if_pos h] at q
      exact q
    · rw [if_neg h] at q
      exact ⟨_, rfl, _, _, rfl, rfl, q⟩
end
end Sf

namespace Sf
open PySem PySem.Spec PyProof.Rows L2
section
variable {P : Program} {w : World} {K : PySem.W.Frag} {mg : Str → Option Value} {base : Heap} {f : Addr} {fd : FuncData}
/-- what is left of a number other than 0, and how often p was taken out -/
def Strip (n p : Int) (m : Nat) (u : Int) : Prop := n = p ^ m * u ∧ u % p ≠ 0
def spStripped : Sp := fun vs H Q _ => ∃ n p : Int, vs = [.int n, .int p] ∧ n ≠ 0 ∧ 2 ≤ p ∧ p.natAbs < 2 ^ 3000 ∧
  ∀ (m : Nat) (u : Int) (a : Addr), Strip n p m u → H a = none → Q (.ref a) (upd H a (.tup [.int m, .int u]))
theorem strip_less {u p : Int} (hu : u ≠ 0) (hp : 2 ≤ p) (h : u % p = 0) : (u / p).natAbs < u.natAbs ∧ u / p ≠ 0 ∧ u = p * (u / p) := by
  have e : u = p * (u / p) := by
    have := Int.emod_add_mul_ediv u p
    omega
  have h2 : u / p ≠ 0 := fun z => by
    rw [z] at e
    omega
  refine ⟨?_, h2, e⟩
  have e2 : u.natAbs = p.natAbs * (u / p).natAbs := by
    conv => lhs; rw [e]
    exact Int.natAbs_mul _ _
  have h3 : 0 < (u / p).natAbs := by omega
  have h4 : 2 ≤ p.natAbs := by omega
  have h5 : 2 * (u / p).natAbs ≤ p.natAbs * (u / p).natAbs := Nat.mul_le_mul_right _ h4
  omega
theorem ok_stripped (F : FnD K "stripped" "stripped" s_P_stripped f fd) : FnOk P w K mg base CX0 1 f fd ["number", "prime"] spStripped := by
  refine F.ok sc_P_stripped (fun vs H Q E h => ?_) (fun cdv A outer s H vs Q E hr h => ?_)
  · obtain ⟨n, p, rfl, _⟩ := h; rfl
  · obtain ⟨n, p, rfl, hn, hp, hb, q⟩ := h
    refine ⟨_, PSs.nox (pss_cons (ps_set (i := 2) sc_P_stripped.nd rfl (Or.inl rfl) pe_int)
      (pss_cons (ps_while PassesOwn.never (pt_cmp (pc_eqI (pe_op op_mod (pv 0) (pv 1)) pe_int)) (pss_cons (ps_set (i := 2) sc_P_stripped.nd rfl (Or.inl rfl) (pe_op op_add (pv 2) pe_int))
      (pss_one (ps_set (i := 0) sc_P_stripped.nd rfl (Or.inl rfl) (pe_op op_fdivW (pv 0) (pv 1))))))
      (pss_one (ps_ret (pe_tup (pa_cons (pv 2) (pa_cons (pv 0) pa_nil))))))), ?_⟩
    refine ⟨fun c σ H' => H' = H ∧ ∃ (m : Nat) (u : Int), σ = [some (.int u), some (.int p), some (.int m)] ∧ n = p ^ m * u ∧ u ≠ 0 ∧ c = u.natAbs, ⟨_, rfl, 0, n, rfl, by simp, hn, rfl⟩, ?_⟩
    rintro c σ _ ⟨rfl, m, u, rfl, e, hu, rfl⟩
    refine ⟨_, rfl, _, rfl, _, _, rfl, rfl, (by omega), _, _, rfl, rfl, _, rfl, ifd (fun h => ⟨_, fun _ _ z => z, ?_⟩) (fun h => ?_)⟩
    · have hl := strip_less hu hp h
      refine ⟨_, rfl, _, _, rfl, rfl, _, rfl, _, rfl, _, _, rfl, rfl, CDivW.of (by omega) hb, ?_⟩
      refine ⟨_, hl.1, rfl, m + 1, u / p, rfl, ?_, hl.2.1, rfl⟩
      rw [e, Int.pow_succ, Int.mul_assoc, ← hl.2.2]
    · refine ⟨_, rfl, _, rfl, (by show 2 ≤ sizeLine; decide), fun a ha => ?_⟩
      exact q m u a ⟨e, h⟩ ha
end
end Sf

namespace Sf
open PySem PySem.Spec PyProof.Rows L2
section
variable {P : Program} {w : World} {K : PySem.W.Frag} {mg : Str → Option Value} {base : Heap} {f : Addr} {fd : FuncData}
theorem pow_mod (a m : Int) (k : Nat) : (a % m) ^ k % m = a ^ k % m := by
  induction k with
  | zero => rw [Int.pow_zero, Int.pow_zero]
  | succ k ih => rw [Int.pow_succ, Int.pow_succ, Int.mul_emod, ih, Int.emod_emod_of_dvd _ (Int.dvd_refl _), ← Int.mul_emod]
/-- a power, reduced -/
def spPowMod : Sp := fun vs H Q _ => ∃ n k m : Int, vs = [.int n, .int k, .int m] ∧ 0 ≤ k ∧ 1 ≤ m ∧ m.natAbs < 2 ^ 1000 ∧ Q (.int (n ^ k.toNat % m)) H
theorem mod_lt3000 {a m : Int} (h1 : 1 ≤ m) (hb : m.natAbs < 2 ^ 1000) : (a % m).natAbs < 2 ^ 3000 := by
  have h2 := Int.emod_nonneg a (by omega : m ≠ 0)
  have h3 := Int.emod_lt_of_pos a (by omega : 0 < m)
  have h4 : (a % m).natAbs < 2 ^ 1000 := by omega
  exact Nat.lt_trans h4 (by decide +kernel)
theorem pow_half (a : Int) (k : Int) (hk : 0 < k) : a ^ k.toNat = (a * a) ^ (k / 2).toNat * a ^ (k % 2).toNat := by
  have e : k.toNat = (k / 2).toNat + (k / 2).toNat + (k % 2).toNat := by omega
  rw [e, Int.pow_add, Int.pow_add, Int.mul_pow]
theorem ok_powmod (F : FnD K "power_modulo" "power_modulo" s_P_power_modulo f fd) : FnOk P w K mg base CX0 1 f fd ["number", "many", "modulus"] spPowMod := by
  refine F.ok sc_P_power_modulo (fun vs H Q E h => ?_) (fun cdv A outer s H vs Q E hr h => ?_)
  · obtain ⟨n, k, m, rfl, _⟩ := h; rfl
  · obtain ⟨n, k, m, rfl, hk, hm, hb, q⟩ := h
    refine ⟨_, PSs.nox (pss_cons (ps_set (i := 3) sc_P_power_modulo.nd rfl (Or.inl rfl) (pe_op op_mod pe_int (pv 2)))
      (pss_cons (ps_set (i := 4) sc_P_power_modulo.nd rfl (Or.inl rfl) (pe_op op_mod (pv 0) (pv 2)))
      (pss_cons (ps_while PassesOwn.never (pt_cmp (pc_gt (pv 1) pe_int)) (pss_cons (ps_if (pt_cmp (pc_eqI (pe_op op_mod (pv 1) pe_int) pe_int)) (pss_one (ps_set (i := 3) sc_P_power_modulo.nd rfl (Or.inl rfl) (pe_op op_mod (pe_op op_mulW (pv 3) (pv 4)) (pv 2)))) pss_nil)
      (pss_cons (ps_set (i := 4) sc_P_power_modulo.nd rfl (Or.inl rfl) (pe_op op_mod (pe_op op_mulW (pv 4) (pv 4)) (pv 2)))
      (pss_one (ps_set (i := 1) sc_P_power_modulo.nd rfl (Or.inl rfl) (pe_op op_fdivW (pv 1) pe_int))))))
      (pss_one (ps_ret (pv 3)))))), ?_⟩
    have hm0 : (0 : Int) < m := by omega
    refine ⟨_, rfl, _, _, rfl, rfl, hm0, _, rfl, _, rfl, _, _, rfl, rfl, hm0, ?_⟩
    refine ⟨fun c σ H' => H' = H ∧ ∃ k' made sq : Int, σ = [some (.int n), some (.int k'), some (.int m), some (.int made), some (.int sq)] ∧ 0 ≤ k' ∧ (made * sq ^ k'.toNat) % m = n ^ k.toNat % m ∧ made % m = made ∧ made.natAbs < 2 ^ 3000 ∧ sq.natAbs < 2 ^ 3000 ∧ c = k'.toNat,
      ⟨_, rfl, k, 1 % m, n % m, rfl, hk, ?_, Int.emod_emod_of_dvd _ (Int.dvd_refl _), mod_lt3000 hm hb, mod_lt3000 hm hb, rfl⟩, ?_⟩
    · rw [Int.mul_emod, Int.emod_emod_of_dvd _ (Int.dvd_refl _), ← Int.mul_emod, Int.one_mul]
      exact pow_mod _ _ _
    rintro c σ _ ⟨rfl, k', made, sq, rfl, hk', e, em, b1, b2, rfl⟩
    refine ⟨_, rfl, _, _, rfl, rfl, _, rfl, ifd (fun h => ⟨_, fun _ _ z => z, ?_⟩) (fun h => ?_)⟩
    · have hh := pow_half sq k' h
      have hsq : ((sq * sq) ^ (k' / 2).toNat) % m = ((sq * sq % m) ^ (k' / 2).toNat) % m := (pow_mod _ _ _).symm
      refine ⟨_, rfl, _, _, rfl, rfl, (by show (0 : Int) < 2; decide), _, _, rfl, rfl, _, rfl, ifd (fun h2 => ?_) (fun h2 => ?_)⟩
      · refine ⟨_, rfl, _, rfl, _, _, rfl, rfl, CMulW.of b1 b2, _, rfl, _, _, rfl, rfl, hm0, ?_⟩
        refine ⟨_, rfl, _, rfl, _, _, rfl, rfl, CMulW.of b2 b2, _, rfl, _, _, rfl, rfl, hm0, ?_⟩
        refine ⟨_, rfl, _, _, rfl, rfl, CDivW.of (by decide) (by decide +kernel), ?_⟩
        refine ⟨_, ?_, rfl, k' / 2, _, _, rfl, by omega, ?_, Int.emod_emod_of_dvd _ (Int.dvd_refl _), mod_lt3000 hm hb, mod_lt3000 hm hb, rfl⟩
        · omega
        · rw [← e, hh, h2]
          show made * sq % m * (sq * sq % m) ^ (k' / 2).toNat % m = made * ((sq * sq) ^ (k' / 2).toNat * sq ^ 1) % m
          rw [Int.mul_emod, ← hsq, Int.emod_emod_of_dvd _ (Int.dvd_refl _), ← Int.mul_emod, Int.pow_one]
          congr 1
          rw [Int.mul_assoc, Int.mul_comm sq]
      · refine ⟨_, rfl, _, rfl, _, _, rfl, rfl, CMulW.of b2 b2, _, rfl, _, _, rfl, rfl, hm0, ?_⟩
        refine ⟨_, rfl, _, _, rfl, rfl, CDivW.of (by decide) (by decide +kernel), ?_⟩
        refine ⟨_, ?_, rfl, k' / 2, _, _, rfl, by omega, ?_, em, b1, mod_lt3000 hm hb, rfl⟩
        · omega
        · have h3 : k' % 2 = 0 := by omega
          rw [← e, hh, h3]
          show made * (sq * sq % m) ^ (k' / 2).toNat % m = made * ((sq * sq) ^ (k' / 2).toNat * sq ^ 0) % m
          rw [Int.mul_emod, ← hsq, ← Int.mul_emod, Int.pow_zero, Int.mul_one]
    · have h3 : k' = 0 := by omega
      subst h3
      have e2 : made = n ^ k.toNat % m := by
        rw [← e]
        show made = made * sq ^ 0 % m
        rw [Int.pow_zero, Int.mul_one, em]
      refine ⟨_, rfl, ?_⟩
      rw [e2]
      exact q
end
end Sf

namespace Sf
/-! primes by trial -/
def PrP (n : Int) : Prop := 2 ≤ n ∧ ∀ k : Int, 2 ≤ k → k < n → n % k ≠ 0
theorem prp_of_trial {n d : Int} (hn : 2 ≤ n) (hd : 2 ≤ d) (h : ∀ k : Int, 2 ≤ k → k < d → n % k ≠ 0) (hl : n < d * d) : PrP n := by
  refine ⟨hn, fun k h2 hk hz => ?_⟩
  by_cases hkd : k < d
  · exact h k h2 hkd hz
  · have e : n = k * (n / k) := by
      have := Int.emod_add_mul_ediv n k
      omega
    have hm0 : 0 < n / k := by
      rcases Int.lt_or_le 0 (n / k) with z | z
      · exact z
      · have : k * (n / k) ≤ 0 := Int.mul_nonpos_of_nonneg_of_nonpos (by omega) z
        omega
    have hm1 : n / k ≠ 1 := fun z => by
      rw [z] at e
      omega
    have h3 : d * (n / k) ≤ k * (n / k) := Int.mul_le_mul_of_nonneg_right (by omega) (by omega)
    have h4 : d * (n / k) < d * d := by omega
    have h5 : n / k < d := Int.lt_of_mul_lt_mul_left h4 (by omega)
    refine h (n / k) (by omega) h5 ?_
    rw [e]
    exact Int.emod_eq_zero_of_dvd ⟨k, by rw [Int.mul_ediv_cancel_left _ (by omega : k ≠ 0)]; exact Int.mul_comm _ _⟩
/-- no divisor below d; d is 2 or odd -/
def NoDiv (n d : Int) : Prop := 2 ≤ d ∧ (d = 2 ∨ d % 2 = 1) ∧ ∀ k : Int, 2 ≤ k → k < d → n % k ≠ 0
theorem nodiv2 (n : Int) : NoDiv n 2 := ⟨by omega, .inl rfl, fun k h1 h2 => by omega⟩
theorem mod_of_dvd {n a b : Int} (h : n % b = 0) (hb : b % a = 0) : n % a = 0 := by
  have h1 : b ∣ n := Int.dvd_of_emod_eq_zero h
  have h2 : a ∣ b := Int.dvd_of_emod_eq_zero hb
  exact Int.emod_eq_zero_of_dvd (Int.dvd_trans h2 h1)
theorem nodiv_next {n d : Int} (h : NoDiv n d) (hd : n % d ≠ 0) : NoDiv n (if d = 2 then 3 else d + 2) := by
  obtain ⟨h1, h2, h3⟩ := h
  by_cases e : d = 2
  · rw [if_pos e]
    refine ⟨by omega, .inr rfl, fun k a b => ?_⟩
    have : k = d := by omega
    rw [this]
    exact hd
  · rw [if_neg e]
    refine ⟨by omega, .inr (by omega), fun k a b => ?_⟩
    by_cases c : k < d
    · exact h3 k a c
    · by_cases c2 : k = d
      · rw [c2]
        exact hd
      · intro z
        exact h3 2 (by omega) (by omega) (mod_of_dvd z (by omega))
theorem nodiv_prime {n d : Int} (h : NoDiv n d) (hd : n % d = 0) : PrP d := by
  refine ⟨h.1, fun k a b z => ?_⟩
  exact h.2.2 k a b (mod_of_dvd hd z)
theorem nodiv_of {n u d : Int} (h : NoDiv n d) (hu : n % u = 0) : NoDiv u d := ⟨h.1, h.2.1, fun k a b z => h.2.2 k a b (mod_of_dvd hu z)⟩
theorem nodiv_lt {n d : Int} (h : NoDiv n d) (hn : 2 ≤ n) : d ≤ n := by
  rcases Int.lt_or_le n d with z | z
  · exact absurd Int.emod_self (h.2.2 n hn z)
  · exact z
/-! factors -/
def prodF : List (Int × Nat) → Int
  | [] => 1
  | q :: l => q.1 ^ q.2 * prodF l
theorem prodF_append : ∀ l m : List (Int × Nat), prodF (l ++ m) = prodF l * prodF m
  | [], m => by
    show prodF m = 1 * prodF m
    rw [Int.one_mul]
  | q :: l, m => by
    show q.1 ^ q.2 * prodF (l ++ m) = q.1 ^ q.2 * prodF l * prodF m
    rw [prodF_append l m, Int.mul_assoc]
def Sorted (l : List (Int × Nat)) : Prop := l.Pairwise fun a b => a.1 < b.1
def Primes (l : List (Int × Nat)) : Prop := ∀ q ∈ l, PrP q.1 ∧ 1 ≤ q.2
def FactOf (n : Int) (l : List (Int × Nat)) : Prop := prodF l = n ∧ Sorted l ∧ Primes l
theorem pow_pos_int {p : Int} (h : 0 < p) (e : Nat) : 0 < p ^ e := Int.pow_pos h
theorem pow_ge {p : Int} (h : 2 ≤ p) : ∀ {e : Nat}, 1 ≤ e → 2 ≤ p ^ e
  | 0, h0 => by omega
  | e + 1, _ => by
    rw [Int.pow_succ]
    have h1 : 0 < p ^ e := pow_pos_int (by omega) e
    have h2 : 1 * 2 ≤ p ^ e * p := Int.mul_le_mul (by omega) h (by omega) (by omega)
    omega
theorem prodF_len : ∀ {l : List (Int × Nat)}, Primes l → (2 : Int) ^ l.length ≤ prodF l
  | [], _ => Int.le_refl _
  | q :: l, h => by
    have ih := prodF_len (l := l) fun r hr => h r (List.mem_cons_of_mem _ hr)
    obtain ⟨hp, he⟩ := h q List.mem_cons_self
    have h1 : 2 ≤ q.1 ^ q.2 := pow_ge hp.1 he
    show (2 : Int) ^ (l.length + 1) ≤ q.1 ^ q.2 * prodF l
    rw [Int.pow_succ, Int.mul_comm]
    have h0 : (0 : Int) < 2 ^ l.length := pow_pos_int (by omega) _
    exact Int.mul_le_mul h1 ih (by omega) (by omega)
theorem len_of_prod {l : List (Int × Nat)} (h : Primes l) (hb : prodF l ≤ 1000000000) : l.length < 30 := by
  have h1 := prodF_len h
  rcases Nat.lt_or_ge l.length 30 with z | z
  · exact z
  · have e : l.length = 30 + (l.length - 30) := by omega
    have h3 : (2 : Int) ^ 30 = 1073741824 := by decide
    have h4 : (0 : Int) < 2 ^ (l.length - 30) := pow_pos_int (by omega) _
    rw [e, Int.pow_add, h3] at h1
    omega
end Sf

namespace Sf
open PySem PySem.Spec PyProof.Rows L2
/-- what the module's names hold -/
structure Glob (mg : Str → Option Value) : Prop where
  m_isinstance : mg "isinstance" = none
  m_int : mg "int" = none
  m_bool : mg "bool" = none
  m_abs : mg "abs" = none
  m_sorted : mg "sorted" = none
  m_tuple : mg "tuple" = none
  m_set : mg "set" = none
  m_len : mg "len" = none
  m_all : mg "all" = none
  m_max : mg "max" = none
  m_sum : mg "sum" = none
  m_range : mg "range" = none
  m_min : mg "min" = none
  m_MAX_NUMBER : ∃ t, mg "MAX_NUMBER" = some (.int 1000000000 t)
  m_MAX_JOINED : ∃ t, mg "MAX_JOINED" = some (.int 100000000 t)
  m_MAX_SIDE : ∃ t, mg "MAX_SIDE" = some (.int 10000 t)
/-- what isinstance(x, int) and not isinstance(x, bool) comes to -/
def IntB (K : PySem.W.Frag) (H : Hp) (x : V) (b : Bool) : Prop := ∃ (t : Value) (bi bb : Bool), TyX K H x t ∧ PySem.W.kitOne K t (.type "int") = some bi ∧ PySem.W.kitOne K t (.type "bool") = some bb ∧ b = (bi && !bb)
theorem IntB.int {K : PySem.W.Frag} {H : Hp} (i : Int) : IntB K H (.int i) true := ⟨.type "int", true, false, .base (.int i), kit_ty (by decide +kernel), kit_ty (by decide +kernel), rfl⟩
theorem IntB.bl {K : PySem.W.Frag} {H : Hp} (i : Bool) : IntB K H (.bl i) false := ⟨.type "bool", true, true, .base (.bl i), kit_ty (by decide +kernel), kit_ty (by decide +kernel), rfl⟩
theorem IntB.non {K : PySem.W.Frag} {H : Hp} : IntB K H .non false := ⟨.type "NoneType", false, false, .base .non, kit_ty (by decide +kernel), kit_ty (by decide +kernel), rfl⟩
theorem IntB.str {K : PySem.W.Frag} {H : Hp} (x : Str) : IntB K H (.str x) false := ⟨.type "str", false, false, .base (.str x), kit_ty (by decide +kernel), kit_ty (by decide +kernel), rfl⟩
theorem IntB.lst {K : PySem.W.Frag} {H : Hp} {a : Addr} {xs : List V} (h : H a = some (.lst xs)) : IntB K H (.ref a) false := ⟨.type "list", false, false, .base (.lst h), kit_ty (by decide +kernel), kit_ty (by decide +kernel), rfl⟩
theorem IntB.tup {K : PySem.W.Frag} {H : Hp} {a : Addr} {xs : List V} (h : H a = some (.tup xs)) : IntB K H (.ref a) false := ⟨.type "tuple", false, false, .base (.tup h), kit_ty (by decide +kernel), kit_ty (by decide +kernel), rfl⟩
theorem IntB.dK {K : PySem.W.Frag} {H : Hp} {a : Addr} {xs : List (Key × V)} (h : H a = some (.dK xs)) : IntB K H (.ref a) false := ⟨.type "dict", false, false, .base (.dK h), kit_ty (by decide +kernel), kit_ty (by decide +kernel), rfl⟩
end Sf

namespace Sf
open PySem PySem.Spec PyProof.Rows L2
section
variable {P : Program} {w : World} {K : PySem.W.Frag} {mg : Str → Option Value} {base : Heap} {f : Addr} {fd : FuncData}
def spIsInt (K : PySem.W.Frag) : Sp := fun vs H Q _ => ∃ (x : V) (b : Bool), vs = [x] ∧ IntB K H x b ∧ Q (.bl b) H
theorem ok_is_integer (F : FnD K "is_integer" "is_integer" s_P_is_integer f fd) (T : Glob mg) : FnOk P w K mg base CX0 1 f fd ["value"] (spIsInt K) := by
  refine F.ok sc_P_is_integer (fun vs H Q E h => ?_) (fun cdv A outer s H vs Q E hr h => ?_)
  · obtain ⟨x, b, rfl, _⟩ := h; rfl
  · obtain ⟨x, b, rfl, ⟨t, bi, bb, ty, h1, h2, rfl⟩, q⟩ := h
    refine ⟨_, PSs.nox (pss_one (ps_ret (pe_and (pe_callB call_isi (by rfl) T.m_isinstance (by decide +kernel) (pa_cons (pv 0) (pa_cons (pe_bltn (v := .ty "int") (u := .type "int") (by rfl) T.m_int (by decide +kernel) rfl) pa_nil))) (pe_one (pe_not (pe_callB call_isi (by rfl) T.m_isinstance (by decide +kernel) (pa_cons (pv 0) (pa_cons (pe_bltn (v := .ty "bool") (u := .type "bool") (by rfl) T.m_bool (by decide +kernel) rfl) pa_nil)))))))), ?_⟩
    refine ⟨_, rfl, _, _, _, _, _, rfl, .ty "int", ty, h1, _, rfl, ifb (fun e => ?_) (fun e => ?_)⟩
    · refine ⟨_, rfl, _, _, _, _, _, rfl, .ty "bool", ty, h2, _, rfl, ?_⟩
      rw [e] at q
      exact q
    · rw [e] at q
      exact q
end
end Sf

namespace Sf
open PySem PySem.Spec PyProof.Rows L2
section
variable {P : Program} {w : World} {K : PySem.W.Frag} {mg : Str → Option Value} {base : Heap} {f : Addr} {fd : FuncData}
def spIsPrime (K : PySem.W.Frag) : Sp := fun vs H Q _ => ∃ (x : V) (b : Bool), vs = [x] ∧ IntB K H x b ∧ (b = true → ∃ n, x = .int n) ∧ ∀ r : Bool, (r = true ↔ ∃ n, x = .int n ∧ PrP n ∧ n ≤ 1000000000) → Q (.bl r) H
theorem ok_is_prime (F : FnD K "is_prime" "is_prime" s_P_is_prime f fd) (T : Glob mg) (C_P_is_integer : Cal P w K mg base 1 "is_integer" ["value"] (spIsInt K)) (C_P_next_divisor : Cal P w K mg base 1 "next_divisor" ["divisor"] spNext) :
    FnOk P w K mg base CX0 2 f fd ["value"] (spIsPrime K) := by
  refine F.ok sc_P_is_prime (fun vs H Q E h => ?_) (fun cdv A outer s H vs Q E hr h => ?_)
  · obtain ⟨x, b, rfl, _⟩ := h; rfl
  · obtain ⟨x, b, rfl, hx, hi, q⟩ := h
    obtain ⟨tM, hc_MAX_NUMBER⟩ := T.m_MAX_NUMBER
    refine ⟨_, PSs.nox (pss_cons (ps_if (PW.pt (pw_or (pt_not (pt_val (pe_cal C_P_is_integer (hr.mono (by decide)) (pa_cons (pv 0) pa_nil)))) (pw_or (pt_cmp (pc_lt (pv 0) pe_int)) (pw_or1 (pt_cmp (pc_gt (pv 0) (pe_glob (v := .int 1000000000) rfl hc_MAX_NUMBER ⟨_, rfl⟩))))))) (pss_one (ps_ret pe_bl)) pss_nil)
      (pss_cons (ps_set (i := 1) sc_P_is_prime.nd rfl (Or.inl rfl) pe_int)
      (pss_cons (ps_while PassesOwn.never (pt_cmp (pc_le (pe_op op_mulW (pv 1) (pv 1)) (pv 0))) (pss_cons (ps_if (pt_cmp (pc_eqI (pe_op op_mod (pv 0) (pv 1)) pe_int)) (pss_one (ps_ret pe_bl)) pss_nil)
      (pss_one (ps_set (i := 1) sc_P_is_prime.nd rfl (Or.inl rfl) (pe_cal C_P_next_divisor (hr.mono (by decide)) (pa_cons (pv 1) pa_nil))))))
      (pss_one (ps_ret pe_bl))))), ?_⟩
    refine ⟨_, rfl, x, b, rfl, hx, _, rfl, ?_⟩
    cases b with
    | false =>
      refine iteT (q false ⟨fun z => Bool.noConfusion z, fun ⟨n, e, _⟩ => ?_⟩)
      subst e
      obtain ⟨t, bi, bb, ty, k1, k2, k3⟩ := hx
      cases ty with
      | base ty => cases ty with
        | int _ =>
          have e1 : PySem.W.kitOne K (.type "int") (.type "int") = some true := kit_ty (by decide +kernel)
          have e2 : PySem.W.kitOne K (.type "int") (.type "bool") = some false := kit_ty (by decide +kernel)
          rw [e1] at k1
          rw [e2] at k2
          cases k1
          cases k2
          cases k3
    | true =>
      obtain ⟨n, rfl⟩ := hi rfl
      have qf : ¬ (PrP n ∧ n ≤ 1000000000) → Q (.bl false) H := fun hn => q false ⟨fun z => Bool.noConfusion z, fun ⟨m, e, h⟩ => by
        cases e
        exact absurd h hn⟩
      refine iteF ⟨_, rfl, _, _, rfl, rfl, _, rfl, ifd (fun e => qf fun z => ?_) (fun e => ⟨_, rfl, _, _, rfl, rfl, _, rfl, ifd (fun e2 => qf fun z => ?_) (fun e2 => ?_)⟩)⟩
      · have := z.1.1
        omega
      · have := z.2
        omega
      · refine ⟨fun c σ H' => H' = H ∧ ∃ d : Int, σ = [some (.int n), some (.int d)] ∧ NoDiv n d ∧ d ≤ n + 2 ∧ c = (n + 2 - d).toNat, ⟨_, rfl, 2, rfl, nodiv2 n, by omega, rfl⟩, ?_⟩
        rintro c σ _ ⟨rfl, d, rfl, hd, hdn, rfl⟩
        have hd2 := hd.1
        have hdb : d.natAbs < 2 ^ 3000 := Nat.lt_trans (by omega : d.natAbs < 2 ^ 31) (by decide +kernel)
        refine ⟨_, rfl, _, rfl, _, _, rfl, rfl, CMulW.of hdb hdb, _, rfl, _, _, rfl, rfl, _, rfl, ifd (fun h => ⟨_, fun _ _ z => z, ?_⟩) (fun h => ?_)⟩
        · refine ⟨_, rfl, _, rfl, _, _, rfl, rfl, (by omega), _, _, rfl, rfl, _, rfl, ifd (fun h2 => ?_) (fun h2 => ?_)⟩
          · refine qf fun z => ?_
            have h3 : d < n := by
              have : d * 2 ≤ d * d := Int.mul_le_mul_of_nonneg_left hd2 (by omega)
              omega
            exact z.1.2 d hd2 h3 h2
          · refine ⟨_, rfl, d, rfl, ?_⟩
            have hlt : d ≤ n := by
              have : d * 1 ≤ d * d := Int.mul_le_mul_of_nonneg_left (by omega) (by omega)
              omega
            have hnx := nodiv_next hd h2
            refine ⟨_, ?_, rfl, _, rfl, hnx, ?_, rfl⟩
            · split <;> omega
            · split <;> omega
        · refine q true ⟨fun _ => ⟨n, rfl, prp_of_trial (by omega) hd2 hd.2.2 (by omega), by omega⟩, fun _ => rfl⟩
end
end Sf

namespace Sf
open PySem PySem.Spec PyProof.Rows L2
section
variable {P : Program} {w : World} {K : PySem.W.Frag} {mg : Str → Option Value} {base : Heap} {f : Addr} {fd : FuncData}
def spCheckNumber : Sp := fun vs H Q _ => ∃ n : Int, vs = [.int n] ∧ n ≠ 0 ∧ -1000000000 ≤ n ∧ n ≤ 1000000000 ∧ Q .non H
theorem ok_check_number (F : FnD K "check_number" "check_number" s_P_check_number f fd) (T : Glob mg) (C_P_is_integer : Cal P w K mg base 1 "is_integer" ["value"] (spIsInt K)) : FnOk P w K mg base CX0 2 f fd ["value"] spCheckNumber := by
  refine F.ok sc_P_check_number (fun vs H Q E h => ?_) (fun cdv A outer s H vs Q E hr h => ?_)
  · obtain ⟨n, rfl, _⟩ := h; rfl
  · obtain ⟨n, rfl, h0, h1, h2, q⟩ := h
    obtain ⟨tM, hc_MAX_NUMBER⟩ := T.m_MAX_NUMBER
    refine ⟨_, PSs.nox (pss_one (ps_if (PW.pt (pw_or (pt_not (pt_val (pe_cal C_P_is_integer (hr.mono (by decide)) (pa_cons (pv 0) pa_nil)))) (pw_or (pt_cmp (pc_eqI (pv 0) pe_int)) (pw_or1 (pt_cmp (pc_gt (pe_callB call_abs (by rfl) T.m_abs (by decide +kernel) (pa_cons (pv 0) pa_nil)) (pe_glob (v := .int 1000000000) rfl hc_MAX_NUMBER ⟨_, rfl⟩))))))) (pss_one ps_never) pss_nil)), ?_⟩
    refine ⟨_, rfl, .int n, true, rfl, .int n, _, rfl, iteF ?_⟩
    refine ⟨_, rfl, _, _, rfl, rfl, _, rfl, ifd (fun e => absurd e h0) (fun _ => ?_)⟩
    refine ⟨_, rfl, n, rfl, _, _, rfl, rfl, _, rfl, ifd (fun e => ?_) (fun e => ?_)⟩
    · exfalso
      split at e <;> omega
    · exact q
end
end Sf

namespace Sf
open PySem PySem.Spec PyProof.Rows L2
section
variable {P : Program} {w : World} {K : PySem.W.Frag} {mg : Str → Option Value} {base : Heap} {f : Addr} {fd : FuncData}
/-- the residue sign by a power -/
def restSign (n p : Int) : Int := if n % p = 0 then 0 else if p = 2 then (if n % 8 = 1 ∨ n % 8 = 7 then 1 else -1) else if n ^ ((p - 1) / 2).toNat % p = 1 then 1 else -1
def spRestSign : Sp := fun vs H Q _ => ∃ n p : Int, vs = [.int n, .int p] ∧ 2 ≤ p ∧ p.natAbs < 2 ^ 1000 ∧ ∀ H', Same H H' → Q (.int (restSign n p)) H'
theorem ok_rest_sign (F : FnD K "rest_sign" "rest_sign" s_P_rest_sign f fd) (C_P_power_modulo : Cal P w K mg base 1 "power_modulo" ["number", "many", "modulus"] spPowMod) : FnOk P w K mg base CX0 2 f fd ["number", "prime"] spRestSign := by
  refine F.ok sc_P_rest_sign (fun vs H Q E h => ?_) (fun cdv A outer s H vs Q E hr h => ?_)
  · obtain ⟨n, p, rfl, _⟩ := h; rfl
  · obtain ⟨n, p, rfl, hp, hb, q⟩ := h
    refine ⟨_, PSs.nox (pss_cons (ps_if (pt_cmp (pc_eqI (pe_op op_mod (pv 0) (pv 1)) pe_int)) (pss_one (ps_ret pe_int)) pss_nil)
      (pss_cons (ps_if (pt_cmp (pc_eqI (pv 1) pe_int)) (pss_one (ps_ret (pe_ifExp (pt_cmpR op_in_seq (pe_op op_mod (pv 0) pe_int) (pe_tup (pa_cons pe_int (pa_cons pe_int pa_nil))) (by rfl)) pe_int (pe_un un_neg pe_int)))) pss_nil)
      (pss_one (ps_ret (pe_ifExp (pt_cmp (pc_eqI (pe_cal C_P_power_modulo (hr.mono (by decide)) (pa_cons (pv 0) (pa_cons (pe_op op_fdivW (pe_op op_sub (pv 1) pe_int) pe_int) (pa_cons (pv 1) pa_nil)))) pe_int)) pe_int (pe_un un_neg pe_int)))))), ?_⟩
    unfold restSign at q
    refine ⟨_, rfl, _, rfl, _, _, rfl, rfl, (by omega), _, _, rfl, rfl, _, rfl, ifd (fun h => ?_) (fun h => ?_)⟩
    · rw [if_pos h] at q
      exact q H (Same.refl H)
    · rw [if_neg h] at q
      refine ⟨_, rfl, _, _, rfl, rfl, _, rfl, ifd (fun h2 => ?_) (fun h2 => ?_)⟩
      · rw [if_pos h2] at q
        refine ⟨_, rfl, _, _, rfl, rfl, (by show (0 : Int) < 8; decide), (by show 2 ≤ sizeLine; decide), fun a ha => ?_⟩
        refine ⟨a, _, rfl, .inr (.inl (.inl upd_same)), rfl, rfl, _, rfl, ?_⟩
        rw [inV_two]
        refine ifd (fun e => ?_) (fun e => ?_)
        · rw [if_pos e] at q
          exact q _ (same_upd ha)
        · rw [if_neg e] at q
          exact ⟨_, rfl, q _ (same_upd ha)⟩
      · rw [if_neg h2] at q
        refine ⟨_, rfl, _, rfl, _, _, rfl, rfl, _, _, rfl, rfl, CDivW.of (by decide) (by decide +kernel), _, rfl, n, (p - 1) / 2, p, rfl, by omega, by omega, hb, _, _, rfl, rfl, _, rfl, ifd (fun h3 => ?_) (fun h3 => ?_)⟩
        · rw [if_pos h3] at q
          exact q H (Same.refl H)
        · rw [if_neg h3] at q
          exact ⟨_, rfl, q H (Same.refl H)⟩
end
end Sf

namespace Sf
open PySem PySem.Spec PyProof.Rows L2
/-- the sack of draws: three numbers, so many draws made -/
def SackO (n : Nat) (xs : List V) : Prop := ∃ a b c : Int, xs = [.int a, .int b, .int c] ∧ 0 ≤ a ∧ a < 10 ^ 500 ∧ 0 ≤ b ∧ b < 1000000000000000000000000 ∧ 0 ≤ c ∧ c ≤ n
theorem sq_upd {K : PySem.W.Frag} {H : Hp} {a p : Addr} {xs : List V} {o : HO} (h : SqL K H a xs) (n : a ≠ p) : SqL K (upd H p o) a xs := by
  rcases h with (h | ⟨u, h⟩) | h
  · exact .inl (.inl (by rw [upd_ne n]; exact h))
  · exact .inl (.inr ⟨u, by rw [upd_ne n]; exact h⟩)
  · exact .inr h
end Sf

namespace Sf
open PySem PySem.Spec PyProof.Rows L2
/-- all but the thing at p stays -/
def Keep (p : Addr) (H H' : Hp) : Prop := ∀ b o, H b = some o → b ≠ p → H' b = some o
theorem Keep.refl (p : Addr) (H : Hp) : Keep p H H := fun _ _ h _ => h
theorem Keep.trans {p : Addr} {H H1 H2 : Hp} (a : Keep p H H1) (b : Keep p H1 H2) : Keep p H H2 := fun c o h n => b c o (a c o h n) n
theorem Keep.same {p : Addr} {H H' : Hp} (s : Same H H') : Keep p H H' := fun c o h _ => s c o h
theorem Keep.upd {p : Addr} {H : Hp} {o : HO} : Keep p H (upd H p o) := fun c u h n => by rw [upd_ne n]; exact h
theorem Keep.new {p q : Addr} {H : Hp} {o : HO} (h : H q = none) : Keep p H (L2.upd H q o) := Keep.same (same_upd h)
/-- the sack stands at p, n draws made at most -/
def Sk (p : Addr) (n : Nat) (H : Hp) : Prop := ∃ xs, H p = some (.lst xs) ∧ SackO n xs
theorem SackO.mono {n m : Nat} {xs : List V} (h : SackO n xs) (l : n ≤ m) : SackO m xs := by
  obtain ⟨a, b, c, e, h1, h2, h3, h4, h5, h6⟩ := h
  exact ⟨a, b, c, e, h1, h2, h3, h4, h5, by omega⟩
theorem Sk.mono {p : Addr} {n m : Nat} {H : Hp} (h : Sk p n H) (l : n ≤ m) : Sk p m H := let ⟨xs, a, b⟩ := h; ⟨xs, a, b.mono l⟩
theorem Sk.same {p : Addr} {n : Nat} {H H' : Hp} (h : Sk p n H) (s : Same H H') : Sk p n H' := let ⟨xs, a, b⟩ := h; ⟨xs, s _ _ a, b⟩
theorem Sk.ne {p q : Addr} {n : Nat} {H : Hp} (h : Sk p n H) (hq : H q = none) : p ≠ q := let ⟨_, a, _⟩ := h; ne_of_none a hq
theorem Keep.free {p q : Addr} {n : Nat} {H H' : Hp} (k : Keep p H H') (s : Sk p n H') (h : H' q = none) : H q = none := by
  cases e : H q with
  | none => rfl
  | some o =>
    have n : q ≠ p := fun z => by
      obtain ⟨_, a, _⟩ := s
      rw [z, a] at h
      cases h
    rw [k q o e n] at h
    cases h
end Sf

namespace Sf
/-! the state of trial division: what was found, what is left -/
structure Trial (N : Int) (l : List (Int × Nat)) (r d : Int) : Prop where
  prod : prodF l * r = N
  pos : 1 ≤ r
  le : r ≤ N
  srt : Sorted l
  prm : Primes l
  low : ∀ q ∈ l, q.1 < d
  nod : NoDiv r d
theorem trial_start {N : Int} (h : 1 ≤ N) : Trial N [] N 2 := ⟨by show 1 * N = N; omega, h, Int.le_refl _, List.Pairwise.nil, (fun _ h => by cases h), (fun _ h => by cases h), nodiv2 N⟩
theorem sorted_snoc {l : List (Int × Nat)} {p : Int} {e : Nat} (h : Sorted l) (hl : ∀ q ∈ l, q.1 < p) : Sorted (l ++ [(p, e)]) := by
  unfold Sorted at *
  rw [List.pairwise_append]
  refine ⟨h, List.pairwise_singleton _ _, fun a ha b hb => ?_⟩
  rw [List.mem_singleton] at hb
  rw [hb]
  exact hl a ha
theorem primes_snoc {l : List (Int × Nat)} {p : Int} {e : Nat} (h : Primes l) (hp : PrP p) (he : 1 ≤ e) : Primes (l ++ [(p, e)]) := fun q hq => by
  rcases List.mem_append.mp hq with z | z
  · exact h q z
  · rw [List.mem_singleton] at z
    rw [z]
    exact ⟨hp, he⟩
theorem prodF_one (p : Int) (e : Nat) : prodF [(p, e)] = p ^ e := by
  show p ^ e * 1 = p ^ e
  rw [Int.mul_one]
theorem next_gt {d : Int} (h : 2 ≤ d) : d < (if d = 2 then 3 else d + 2) := by split <;> omega
theorem trial_pass {N r d : Int} {l : List (Int × Nat)} (h : Trial N l r d) (hd : r % d ≠ 0) : Trial N l r (if d = 2 then 3 else d + 2) :=
  ⟨h.prod, h.pos, h.le, h.srt, h.prm, fun q hq => Int.lt_trans (h.low q hq) (next_gt h.nod.1), nodiv_next h.nod hd⟩
theorem trial_take {N r d u : Int} {m : Nat} {l : List (Int × Nat)} (h : Trial N l r d) (hd : r % d = 0) (e : r = d ^ m * u) (hu : u % d ≠ 0) : Trial N (l ++ [(d, m)]) u (if d = 2 then 3 else d + 2) ∧ 1 ≤ m ∧ u ≤ r := by
  have hd2 := h.nod.1
  have hr := h.pos
  have hm : 1 ≤ m := by
    rcases Nat.eq_zero_or_pos m with z | z
    · subst z
      rw [Int.pow_zero, Int.one_mul] at e
      rw [e] at hd
      exact absurd hd hu
    · exact z
  have hdm : 0 < d ^ m := pow_pos_int (by omega) m
  have hu0 : 1 ≤ u := by
    rcases Int.lt_or_le 0 u with z | z
    · omega
    · have := Int.mul_nonpos_of_nonneg_of_nonpos (Int.le_of_lt hdm) z
      omega
  have hur : u ≤ r := by
    have : 1 * u ≤ d ^ m * u := Int.mul_le_mul_of_nonneg_right (by omega) (by omega)
    omega
  have hdu : r % u = 0 := Int.emod_eq_zero_of_dvd ⟨d ^ m, by rw [e]; exact Int.mul_comm _ _⟩
  refine ⟨⟨?_, hu0, Int.le_trans hur h.le, sorted_snoc h.srt h.low, primes_snoc h.prm (nodiv_prime h.nod hd) hm, fun q hq => ?_, nodiv_next (nodiv_of h.nod hdu) hu⟩, hm, hur⟩
  · rw [prodF_append, prodF_one, Int.mul_assoc, ← e]
    exact h.prod
  · have hn := next_gt hd2
    rcases List.mem_append.mp hq with z | z
    · exact Int.lt_trans (h.low q z) hn
    · rw [List.mem_singleton] at z
      rw [z]
      exact hn
theorem trial_end1 {N d : Int} {l : List (Int × Nat)} (h : Trial N l 1 d) : FactOf N l := ⟨by have := h.prod; rw [Int.mul_one] at this; exact this, h.srt, h.prm⟩
theorem trial_end {N r d : Int} {l : List (Int × Nat)} (h : Trial N l r d) (hr : 1 < r) (hd : r < d * d) : FactOf N (l ++ [(r, 1)]) ∧ ∀ q ∈ l, q.1 < r := by
  have h2 := nodiv_lt h.nod (by omega)
  have hl : ∀ q ∈ l, q.1 < r := fun q hq => Int.lt_of_lt_of_le (h.low q hq) h2
  have hp : PrP r := prp_of_trial (by omega) h.nod.1 h.nod.2.2 hd
  refine ⟨⟨?_, sorted_snoc h.srt hl, primes_snoc h.prm hp (by omega)⟩, hl⟩
  rw [prodF_append, prodF_one, Int.pow_succ, Int.pow_zero, Int.one_mul]
  exact h.prod
theorem prodF_pos {l : List (Int × Nat)} (h : Primes l) : 1 ≤ prodF l := by
  have h1 := prodF_len h
  have h2 : (0 : Int) < 2 ^ l.length := pow_pos_int (by omega) _
  omega
theorem trial_len {N r d : Int} {l : List (Int × Nat)} (h : Trial N l r d) (hN : N ≤ 1000000000) : l.length < 30 := by
  refine len_of_prod h.prm ?_
  have h1 := prodF_pos h.prm
  have h2 := h.prod
  have h3 := h.pos
  have h4 : prodF l * 1 ≤ prodF l * r := Int.mul_le_mul_of_nonneg_left h3 (by omega)
  omega
theorem fact_len {N : Int} {l : List (Int × Nat)} (h : FactOf N l) (hN : N ≤ 1000000000) : l.length < 30 := len_of_prod h.2.2 (by rw [h.1]; exact hN)
/-- the product of the primes with an odd power -/
def oddF : List (Int × Nat) → Int
  | [] => 1
  | q :: l => (if q.2 % 2 = 1 then q.1 else 1) * oddF l
theorem oddF_append : ∀ l m : List (Int × Nat), oddF (l ++ m) = oddF l * oddF m
  | [], m => by
    show oddF m = 1 * oddF m
    rw [Int.one_mul]
  | q :: l, m => by
    show (if q.2 % 2 = 1 then q.1 else 1) * oddF (l ++ m) = (if q.2 % 2 = 1 then q.1 else 1) * oddF l * oddF m
    rw [oddF_append l m, Int.mul_assoc]
theorem pow_split (p : Int) (e : Nat) : p ^ e = (if e % 2 = 1 then p else 1) * (p ^ (e / 2) * p ^ (e / 2)) := by
  have e1 : e = e % 2 + (e / 2 + e / 2) := by omega
  conv => lhs; rw [e1]
  rw [Int.pow_add, Int.pow_add]
  congr 1
  split
  · rename_i h
    rw [h, Int.pow_succ, Int.pow_zero, Int.one_mul]
  · rename_i h
    rw [show e % 2 = 0 by omega, Int.pow_zero]
theorem oddF_bound {l : List (Int × Nat)} : Primes l → 1 ≤ oddF l ∧ oddF l ≤ prodF l := by
  induction l with
  | nil => intro _; exact ⟨Int.le_refl _, Int.le_refl _⟩
  | cons q l ih =>
    intro h
    have ih := ih fun r hr => h r (List.mem_cons_of_mem _ hr)
    obtain ⟨hp, he⟩ := h q List.mem_cons_self
    have hp2 := hp.1
    have h1 : 1 ≤ (if q.2 % 2 = 1 then q.1 else 1) := by split <;> omega
    have h2 : (if q.2 % 2 = 1 then q.1 else 1) ≤ q.1 ^ q.2 := by
      rw [pow_split q.1 q.2]
      have h3 : 0 < q.1 ^ (q.2 / 2) := pow_pos_int (by omega) _
      have h4 : 0 < q.1 ^ (q.2 / 2) * q.1 ^ (q.2 / 2) := Int.mul_pos h3 h3
      have h5 : (if q.2 % 2 = 1 then q.1 else 1) * 1 ≤ (if q.2 % 2 = 1 then q.1 else 1) * (q.1 ^ (q.2 / 2) * q.1 ^ (q.2 / 2)) := Int.mul_le_mul_of_nonneg_left h4 (by omega)
      omega
    show 1 ≤ (if q.2 % 2 = 1 then q.1 else 1) * oddF l ∧ (if q.2 % 2 = 1 then q.1 else 1) * oddF l ≤ q.1 ^ q.2 * prodF l
    refine ⟨?_, Int.mul_le_mul h2 ih.2 (by omega) (by omega)⟩
    have := Int.mul_pos (show 0 < (if q.2 % 2 = 1 then q.1 else 1) by omega) (show 0 < oddF l by omega)
    omega
theorem prodF_take {l : List (Int × Nat)} (h : Primes l) (i : Nat) : prodF (l.take i) ≤ prodF l := by
  have e : prodF l = prodF (l.take i) * prodF (l.drop i) := by rw [← prodF_append, List.take_append_drop]
  have h1 : 1 ≤ prodF (l.take i) := prodF_pos fun q hq => h q (List.mem_of_mem_take hq)
  have h2 : 1 ≤ prodF (l.drop i) := prodF_pos fun q hq => h q (List.mem_of_mem_drop hq)
  have h3 : prodF (l.take i) * 1 ≤ prodF (l.take i) * prodF (l.drop i) := Int.mul_le_mul_of_nonneg_left h2 (by omega)
  omega
theorem self_le_pow {p : Int} (h : 2 ≤ p) : ∀ {e : Nat}, 1 ≤ e → p ≤ p ^ e
  | 0, h0 => by omega
  | e + 1, _ => by
    rw [Int.pow_succ]
    have h1 : 0 < p ^ e := pow_pos_int (by omega) e
    have h2 : 1 * p ≤ p ^ e * p := Int.mul_le_mul_of_nonneg_right (by omega) (by omega)
    omega
theorem prodF_mem : ∀ {l : List (Int × Nat)}, Primes l → ∀ q ∈ l, q.1 ≤ prodF l
  | [], _, q, hq => by cases hq
  | r :: l, h, q, hq => by
    have h1 : 1 ≤ prodF l := prodF_pos fun q hq => h q (List.mem_cons_of_mem _ hq)
    obtain ⟨hp, he⟩ := h r List.mem_cons_self
    have hp2 := hp.1
    have h2 := self_le_pow hp2 he
    show q.1 ≤ r.1 ^ r.2 * prodF l
    rcases List.mem_cons.mp hq with z | z
    · subst z
      have h3 : q.1 ^ q.2 * 1 ≤ q.1 ^ q.2 * prodF l := Int.mul_le_mul_of_nonneg_left h1 (by omega)
      omega
    · have h3 := prodF_mem (l := l) (fun q hq => h q (List.mem_cons_of_mem _ hq)) q z
      have h4 : 1 * prodF l ≤ r.1 ^ r.2 * prodF l := Int.mul_le_mul_of_nonneg_right (by omega) (by omega)
      omega
theorem nat_lt_pow {p : Int} (h : 2 ≤ p) : ∀ e : Nat, (e : Int) < p ^ e
  | 0 => by rw [Int.pow_zero]; decide
  | e + 1 => by
    have ih := nat_lt_pow h e
    rw [Int.pow_succ]
    have h1 : 0 < p ^ e := pow_pos_int (by omega) e
    have h2 : p ^ e * 2 ≤ p ^ e * p := Int.mul_le_mul_of_nonneg_left h (by omega)
    omega
theorem prodF_mem2 : ∀ {l : List (Int × Nat)}, Primes l → ∀ q ∈ l, (q.2 : Int) < prodF l
  | [], _, q, hq => by cases hq
  | r :: l, h, q, hq => by
    have h1 : 1 ≤ prodF l := prodF_pos fun q hq => h q (List.mem_cons_of_mem _ hq)
    obtain ⟨hp, he⟩ := h r List.mem_cons_self
    have hp2 := hp.1
    have h2 := self_le_pow hp2 he
    show (q.2 : Int) < r.1 ^ r.2 * prodF l
    rcases List.mem_cons.mp hq with z | z
    · subst z
      have h3 : q.1 ^ q.2 * 1 ≤ q.1 ^ q.2 * prodF l := Int.mul_le_mul_of_nonneg_left h1 (by omega)
      have h4 := nat_lt_pow hp2 q.2
      omega
    · have h3 := prodF_mem2 (l := l) (fun q hq => h q (List.mem_cons_of_mem _ hq)) q z
      have h4 : 1 * prodF l ≤ r.1 ^ r.2 * prodF l := Int.mul_le_mul_of_nonneg_right (by omega) (by omega)
      omega
end Sf

namespace Sf
open PySem PySem.Spec PyProof.Rows L2
/-- the pairs of a dict of factors -/
def kvsF (l : List (Int × Nat)) : List (Key × V) := l.map fun q => ((Sum.inl q.1 : Key), V.int q.2)
theorem kvsF_none : ∀ {l : List (Int × Nat)} {p : Int}, (∀ q ∈ l, q.1 < p) → valV (kvsF l) (Sum.inl p : Key) = none
  | [], _, _ => rfl
  | q :: l, p, h => by
    show valV (((Sum.inl q.1 : Key), V.int q.2) :: kvsF l) (Sum.inl p : Key) = none
    rw [valV_neg]
    · exact kvsF_none fun r hr => h r (List.mem_cons_of_mem _ hr)
    · intro e
      have e1 : q.1 = p := Sum.inl.inj e
      have := h q List.mem_cons_self
      omega
theorem kvsF_snoc (l : List (Int × Nat)) (p : Int) (e : Nat) : kvsF (l ++ [(p, e)]) = kvsF l ++ [((Sum.inl p : Key), V.int e)] := by
  unfold kvsF
  rw [List.map_append]
  rfl
theorem kvsF_len (l : List (Int × Nat)) : (kvsF l).length = l.length := List.length_map ..
section
variable {P : Program} {w : World} {K : PySem.W.Frag} {mg : Str → Option Value} {base : Heap} {f : Addr} {fd : FuncData}
def absI (n : Int) : Int := if n < 0 then -n else n
def spFactors : Sp := fun vs H Q _ => ∃ n : Int, vs = [.int n] ∧ n ≠ 0 ∧ -1000000000 ≤ n ∧ n ≤ 1000000000 ∧
  ∀ (l : List (Int × Nat)) (d : Addr) (H' : Hp), FactOf (absI n) l → Same H H' → H d = none → H' d = some (.dK (kvsF l)) → Q (.ref d) H'
theorem ok_prime_powers (F : FnD K "prime_powers" "prime_powers" s_P_prime_powers f fd) (T : Glob mg)
    (C_P_stripped : Cal P w K mg base 1 "stripped" ["number", "prime"] spStripped) (C_P_next_divisor : Cal P w K mg base 1 "next_divisor" ["divisor"] spNext) :
    FnOk P w K mg base CX0 2 f fd ["number"] spFactors := by
  refine F.ok sc_P_prime_powers (fun vs H Q E h => ?_) (fun cdv A outer s H vs Q E hr h => ?_)
  · obtain ⟨n, rfl, _⟩ := h; rfl
  · obtain ⟨n, rfl, hn, h1, h2, q⟩ := h
    have hu := hu_of hr
    have hN1 : 1 ≤ absI n := by unfold absI; split <;> omega
    have hN2 : absI n ≤ 1000000000 := by unfold absI; split <;> omega
    refine ⟨_, PSs.nox (pss_cons (ps_set (i := 1) sc_P_prime_powers.nd rfl (Or.inl rfl) (pe_callB call_abs (by rfl) T.m_abs (by decide +kernel) (pa_cons (pv 0) pa_nil)))
      (pss_cons (ps_set (i := 2) sc_P_prime_powers.nd rfl (Or.inl rfl) pe_dnewK)
      (pss_cons (ps_set (i := 3) sc_P_prime_powers.nd rfl (Or.inl rfl) pe_int)
      (pss_cons (ps_while PassesOwn.never (pt_cmp (pc_le (pe_op op_mulW (pv 3) (pv 3)) (pv 1))) (pss_cons (ps_if (pt_cmp (pc_eqI (pe_op op_mod (pv 1) (pv 3)) pe_int)) (pss_one (ps_asg (pe_cal C_P_stripped (hr.mono (by decide)) (pa_cons (pv 1) (pa_cons (pv 3) pa_nil))) (pg_tup (by rfl) (pgs_cons (pg_sub (pv 2) (pv 3) (set_dict hu)) (pgs_cons (pg_name (i := 1) sc_P_prime_powers.nd rfl (Or.inl rfl)) pgs_nil))))) pss_nil)
      (pss_one (ps_set (i := 3) sc_P_prime_powers.nd rfl (Or.inl rfl) (pe_cal C_P_next_divisor (hr.mono (by decide)) (pa_cons (pv 3) pa_nil))))))
      (pss_cons (ps_if (pt_cmp (pc_gt (pv 1) pe_int)) (pss_one (ps_dput hu (pv 2) (pv 1) pe_int rfl)) pss_nil)
      (pss_one (ps_ret (pv 2)))))))), ?_⟩
    refine ⟨_, rfl, n, rfl, fun d hd => ?_⟩
    refine ⟨fun c σ H' => ∃ (l : List (Int × Nat)) (r t : Int), σ = [some (.int n), some (.int r), some (.ref d), some (.int t)] ∧ Same H H' ∧ H' d = some (.dK (kvsF l)) ∧ Trial (absI n) l r t ∧ t ≤ absI n + 2 ∧ c = (r - t + 3).toNat,
      ⟨_, [], absI n, 2, rfl, same_upd hd, upd_same, trial_start hN1, by omega, rfl⟩, ?_⟩
    rintro c σ H' ⟨l, r, t, rfl, hs, hdd, ht, htN, rfl⟩
    have t2 := ht.nod.1
    have rN := ht.le
    have r1 := ht.pos
    have hlen := trial_len ht hN2
    have tb : t.natAbs < 2 ^ 3000 := lt3000s (by omega) (by omega)
    have htt : t * 2 ≤ t * t := Int.mul_le_mul_of_nonneg_left t2 (by omega)
    refine ⟨_, rfl, _, rfl, _, _, rfl, rfl, CMulW.of tb tb, _, rfl, _, _, rfl, rfl, _, rfl, ifd (fun h => ⟨_, fun _ _ z => z, ?_⟩) (fun h => ?_)⟩
    · have tr : t ≤ r := nodiv_lt ht.nod (by omega)
      refine ⟨_, rfl, _, rfl, _, _, rfl, rfl, (by omega), _, _, rfl, rfl, _, rfl, ifd (fun h2 => ?_) (fun h2 => ?_)⟩
      · refine ⟨_, rfl, _, rfl, r, t, rfl, by omega, t2, tb, fun m u a hst ha => ?_⟩
        obtain ⟨k1, k2, k3⟩ := trial_take ht h2 hst.1 hst.2
        have nad : d ≠ a := ne_of_none hdd ha
        refine ⟨a, _, rfl, .inl (.inl upd_same), rfl, _, _, rfl, _, rfl, _, rfl, d, _, rfl, DPut.k (k := Sum.inl t) (by rw [upd_ne nad]; exact hdd) (by rw [kvsF_len]; exact small1000 (by omega)), _, _, rfl, rfl, ?_⟩
        refine ⟨_, rfl, t, rfl, ?_⟩
        refine ⟨_, ?_, l ++ [(t, m)], u, _, rfl, ?_, ?_, k1, ?_, rfl⟩
        · split <;> omega
        · intro b o e
          have h3 := hs b o e
          have nb : b ≠ d := ne_of_none e hd
          rw [upd_ne nb, upd_ne (ne_of_none h3 ha)]
          exact h3
        · rw [upd_same, putK_new _ (kvsF_none ht.low), kvsF_snoc]
        · split <;> omega
      · refine ⟨_, rfl, t, rfl, ?_⟩
        refine ⟨_, ?_, l, r, _, rfl, hs, hdd, trial_pass ht h2, ?_, rfl⟩
        · split <;> omega
        · split <;> omega
    · refine ⟨_, rfl, _, _, rfl, rfl, _, rfl, ifd (fun h3 => ?_) (fun h3 => ?_)⟩
      · obtain ⟨k1, k2⟩ := trial_end ht (by omega) (by omega)
        refine ⟨_, rfl, _, rfl, d, _, rfl, DPut.k (k := Sum.inl r) hdd (by rw [kvsF_len]; exact small1000 (by omega)), ?_⟩
        refine ⟨_, rfl, q _ d _ k1 (fun b o e => ?_) hd ?_⟩
        · rw [upd_ne (ne_of_none e hd)]
          exact hs b o e
        · rw [upd_same, putK_new _ (kvsF_none k2), kvsF_snoc]
          rfl
      · have hr : r = 1 := by omega
        subst hr
        exact ⟨_, rfl, q l d H' (trial_end1 ht) hs hd hdd⟩
theorem ok_factors (F : FnD K "factors" "factors" s_P_factors f fd) (C_P_check_number : Cal P w K mg base 2 "check_number" ["value"] spCheckNumber)
    (C_P_prime_powers : Cal P w K mg base 2 "prime_powers" ["number"] spFactors) :
    FnOk P w K mg base CX0 3 f fd ["number"] spFactors := by
  refine F.ok sc_P_factors (fun vs H Q E h => ?_) (fun cdv A outer s H vs Q E hr h => ?_)
  · obtain ⟨n, rfl, _⟩ := h; rfl
  · obtain ⟨n, rfl, hn, h1, h2, q⟩ := h
    refine ⟨_, PSs.nox (pss_cons (ps_expr (pe_cal C_P_check_number (hr.mono (by decide)) (pa_cons (pv 0) pa_nil)))
      (pss_one (ps_ret (pe_cal C_P_prime_powers (hr.mono (by decide)) (pa_cons (pv 0) pa_nil))))), ?_⟩
    exact ⟨_, rfl, n, rfl, hn, h1, h2, _, rfl, n, rfl, hn, h1, h2, fun l d H1 hf hs hd hdd => q l d H1 hf hs hd hdd⟩
end
end Sf

namespace Sf
/-! a prime divides a product only if it divides a factor -/
theorem PrP.pos {p : Int} (h : PrP p) : 0 < p := by have := h.1; omega
theorem gcd_of_prime {p : Int} (h : PrP p) {a : Int} (ha : ¬ p ∣ a) : Nat.Coprime p.natAbs a.natAbs := by
  have hp := h.1
  have h1 : Nat.gcd p.natAbs a.natAbs ∣ p.natAbs := Nat.gcd_dvd_left ..
  have h2 : Nat.gcd p.natAbs a.natAbs ∣ a.natAbs := Nat.gcd_dvd_right ..
  have h0 : 0 < Nat.gcd p.natAbs a.natAbs := Nat.gcd_pos_of_pos_left _ (by omega)
  have hle : Nat.gcd p.natAbs a.natAbs ≤ p.natAbs := Nat.le_of_dvd (by omega) h1
  unfold Nat.Coprime
  rcases Nat.lt_or_ge (Nat.gcd p.natAbs a.natAbs) 2 with z | z
  · omega
  · rcases Nat.lt_or_ge (Nat.gcd p.natAbs a.natAbs) p.natAbs with z2 | z2
    · exfalso
      refine h.2 (Nat.gcd p.natAbs a.natAbs : Int) (by omega) (by omega) ?_
      refine Int.emod_eq_zero_of_dvd ?_
      have : ((Nat.gcd p.natAbs a.natAbs : Nat) : Int) ∣ ((p.natAbs : Nat) : Int) := Int.ofNat_dvd.mpr h1
      rwa [Int.natAbs_of_nonneg (by omega : 0 ≤ p)] at this
    · exfalso
      have e : Nat.gcd p.natAbs a.natAbs = p.natAbs := by omega
      rw [e] at h2
      exact ha (Int.natAbs_dvd_natAbs.mp h2)
theorem prime_mul {p : Int} (h : PrP p) {a b : Int} (hd : p ∣ a * b) : p ∣ a ∨ p ∣ b := by
  by_cases ha : p ∣ a
  · exact .inl ha
  · refine .inr ?_
    have h1 : p.natAbs ∣ a.natAbs * b.natAbs := by
      rw [← Int.natAbs_mul]
      exact Int.natAbs_dvd_natAbs.mpr hd
    exact Int.natAbs_dvd_natAbs.mp (Nat.Coprime.dvd_of_dvd_mul_left (gcd_of_prime h ha) h1)
theorem prime_one {p : Int} (h : PrP p) : ¬ p ∣ 1 := fun z => by
  have h1 := Int.le_of_dvd (by omega) z
  have := h.1
  omega
theorem prime_pow {p a : Int} (h : PrP p) : ∀ {e : Nat}, p ∣ a ^ e → p ∣ a
  | 0, z => absurd (by rwa [Int.pow_zero] at z) (prime_one h)
  | e + 1, z => by
    rw [Int.pow_succ] at z
    rcases prime_mul h z with y | y
    · exact prime_pow h y
    · exact y
theorem prime_dvd_prime {p q : Int} (hp : PrP p) (hq : PrP q) (h : p ∣ q) : p = q := by
  have h1 := hp.1
  have h2 := hq.1
  have h3 := Int.le_of_dvd (by omega) h
  rcases Int.lt_or_le p q with z | z
  · exact absurd (Int.emod_eq_zero_of_dvd h) (hq.2 p h1 z)
  · omega
theorem prime_prodF {p : Int} (h : PrP p) : ∀ {l : List (Int × Nat)}, Primes l → p ∣ prodF l → ∃ e, (p, e) ∈ l
  | [], _, z => absurd z (prime_one h)
  | q :: l, hl, z => by
    rcases prime_mul h (show p ∣ q.1 ^ q.2 * prodF l from z) with y | y
    · have e := prime_dvd_prime h (hl q List.mem_cons_self).1 (prime_pow h y)
      exact ⟨q.2, by rw [e]; exact List.mem_cons_self⟩
    · obtain ⟨e, he⟩ := prime_prodF h (fun r hr => hl r (List.mem_cons_of_mem _ hr)) y
      exact ⟨e, List.mem_cons_of_mem _ he⟩
theorem pow_cancel {p : Int} (h : PrP p) {R S : Int} (hR : ¬ p ∣ R) (hS : ¬ p ∣ S) : ∀ {a b : Nat}, p ^ a * R = p ^ b * S → a = b ∧ R = S
  | 0, 0, e => ⟨rfl, by rwa [Int.pow_zero, Int.one_mul, Int.one_mul] at e⟩
  | 0, b + 1, e => by
    rw [Int.pow_zero, Int.one_mul, Int.pow_succ, Int.mul_assoc] at e
    refine absurd ?_ hR
    rw [e, Int.mul_comm, Int.mul_assoc]
    exact Int.dvd_mul_right ..
  | a + 1, 0, e => by
    rw [Int.pow_zero, Int.one_mul, Int.pow_succ, Int.mul_assoc] at e
    refine absurd ?_ hS
    rw [← e, Int.mul_comm, Int.mul_assoc]
    exact Int.dvd_mul_right ..
  | a + 1, b + 1, e => by
    have h0 := h.pos
    rw [Int.pow_succ, Int.pow_succ, Int.mul_comm (p ^ a), Int.mul_comm (p ^ b), Int.mul_assoc, Int.mul_assoc] at e
    obtain ⟨h1, h2⟩ := pow_cancel h hR hS (Int.eq_of_mul_eq_mul_left (by omega) e)
    exact ⟨by omega, h2⟩
/-! one number, one factorization -/
def Distinct (l : List (Int × Nat)) : Prop := (l.map (·.1)).Nodup
theorem distinct_of_sorted {l : List (Int × Nat)} (h : Sorted l) : Distinct l := by
  unfold Distinct List.Nodup
  rw [List.pairwise_map]
  exact h.imp fun h e => by omega
theorem distinct_perm {l m : List (Int × Nat)} (h : l.Perm m) (d : Distinct l) : Distinct m := by
  unfold Distinct at *
  exact (h.map _).nodup_iff.mp d
theorem prodF_perm {l m : List (Int × Nat)} (h : l.Perm m) : prodF l = prodF m := by
  induction h with
  | nil => rfl
  | cons x _ ih => show x.1 ^ x.2 * _ = x.1 ^ x.2 * _; rw [ih]
  | swap x y l => show y.1 ^ y.2 * (x.1 ^ x.2 * _) = x.1 ^ x.2 * (y.1 ^ y.2 * _); exact Int.mul_left_comm ..
  | trans _ _ a b => exact a.trans b
theorem oddF_perm {l m : List (Int × Nat)} (h : l.Perm m) : oddF l = oddF m := by
  induction h with
  | nil => rfl
  | cons x _ ih => show (if x.2 % 2 = 1 then x.1 else 1) * _ = (if x.2 % 2 = 1 then x.1 else 1) * _; rw [ih]
  | swap x y l => exact Int.mul_left_comm ..
  | trans _ _ a b => exact a.trans b
theorem not_dvd_rest {p : Int} {e : Nat} {l : List (Int × Nat)} (hp : Primes ((p, e) :: l)) (hd : Distinct ((p, e) :: l)) : ¬ p ∣ prodF l := fun z => by
  obtain ⟨e', he⟩ := prime_prodF (hp (p, e) List.mem_cons_self).1 (fun r hr => hp r (List.mem_cons_of_mem _ hr)) z
  unfold Distinct at hd
  rw [List.map_cons, List.nodup_cons] at hd
  exact hd.1 (List.mem_map.mpr ⟨(p, e'), he, rfl⟩)
theorem fact_unique : ∀ {l m : List (Int × Nat)}, Primes l → Distinct l → Primes m → Distinct m → prodF l = prodF m → l.Perm m
  | [], m, _, _, hm, _, e => by
    cases m with
    | nil => exact List.Perm.nil
    | cons q m =>
      have h1 := prodF_len hm
      rw [← e] at h1
      have h2 : (0 : Int) < 2 ^ m.length := pow_pos_int (by omega) _
      rw [List.length_cons, Int.pow_succ] at h1
      have h3 : prodF [] = 1 := rfl
      omega
  | (p, a) :: l, m, hl, dl, hm, dm, e => by
    have hp := (hl (p, a) List.mem_cons_self).1
    have ha := (hl (p, a) List.mem_cons_self).2
    have hdv : p ∣ prodF m := by
      rw [← e]
      show p ∣ p ^ a * prodF l
      obtain ⟨k, rfl⟩ : ∃ k, a = k + 1 := ⟨a - 1, by have : 1 ≤ a := ha; omega⟩
      rw [Int.pow_succ, Int.mul_comm (p ^ k), Int.mul_assoc]
      exact Int.dvd_mul_right ..
    obtain ⟨b, hb⟩ := prime_prodF hp hm hdv
    have hperm := List.perm_cons_erase hb
    have hm2 : Primes ((p, b) :: m.erase (p, b)) := fun r hr => hm r (hperm.mem_iff.mpr hr)
    have dm2 : Distinct ((p, b) :: m.erase (p, b)) := distinct_perm hperm dm
    have e2 : p ^ a * prodF l = p ^ b * prodF (m.erase (p, b)) := e.trans (prodF_perm hperm)
    obtain ⟨h1, h2⟩ := pow_cancel hp (not_dvd_rest hl dl) (not_dvd_rest hm2 dm2) e2
    subst h1
    have ih := fact_unique (l := l) (m := m.erase (p, a)) (fun r hr => hl r (List.mem_cons_of_mem _ hr)) ((List.nodup_cons.mp dl).2) (fun r hr => hm2 r (List.mem_cons_of_mem _ hr)) ((List.nodup_cons.mp dm2).2) h2
    exact (ih.cons (p, a)).trans hperm.symm
/-! the square-free part -/
def oddL (l : List (Int × Nat)) : List (Int × Nat) := (l.filter fun q => q.2 % 2 == 1).map fun q => (q.1, 1)
theorem oddL_prod : ∀ l : List (Int × Nat), prodF (oddL l) = oddF l ∧ oddF (oddL l) = oddF l
  | [] => ⟨rfl, rfl⟩
  | q :: l => by
    obtain ⟨h1, h2⟩ := oddL_prod l
    unfold oddL at *
    by_cases h : q.2 % 2 = 1
    · rw [List.filter_cons_of_pos (by simp [h]), List.map_cons]
      show q.1 ^ 1 * _ = (if q.2 % 2 = 1 then q.1 else 1) * _ ∧ (if (1 : Nat) % 2 = 1 then q.1 else 1) * _ = (if q.2 % 2 = 1 then q.1 else 1) * _
      rw [if_pos h, h1, h2, Int.pow_succ, Int.pow_zero, Int.one_mul]
      exact ⟨rfl, rfl⟩
    · rw [List.filter_cons_of_neg (by simp [h])]
      show _ = (if q.2 % 2 = 1 then q.1 else 1) * _ ∧ _ = (if q.2 % 2 = 1 then q.1 else 1) * _
      rw [if_neg h, h1, h2, Int.one_mul]
      exact ⟨rfl, rfl⟩
theorem oddL_primes {l : List (Int × Nat)} (h : Primes l) : Primes (oddL l) := fun q hq => by
  obtain ⟨r, hr, e⟩ := List.mem_map.mp hq
  rw [← e]
  exact ⟨(h r (List.mem_filter.mp hr).1).1, Nat.le_refl _⟩
theorem oddL_distinct {l : List (Int × Nat)} (h : Distinct l) : Distinct (oddL l) := by
  unfold Distinct oddL
  rw [List.map_map]
  have : ((fun x : Int × Nat => x.1) ∘ fun q => (q.1, 1)) = fun q : Int × Nat => q.1 := rfl
  rw [this]
  exact h.sublist (List.filter_sublist.map _)
def rootF : List (Int × Nat) → Int
  | [] => 1
  | q :: l => q.1 ^ (q.2 / 2) * rootF l
theorem rootF_append : ∀ l m : List (Int × Nat), rootF (l ++ m) = rootF l * rootF m
  | [], m => by show rootF m = 1 * rootF m; rw [Int.one_mul]
  | q :: l, m => by
    show q.1 ^ (q.2 / 2) * rootF (l ++ m) = q.1 ^ (q.2 / 2) * rootF l * rootF m
    rw [rootF_append l m, Int.mul_assoc]
theorem odd_root : ∀ l : List (Int × Nat), oddF l * rootF l * rootF l = prodF l
  | [] => rfl
  | q :: l => by
    have ih := odd_root l
    show (if q.2 % 2 = 1 then q.1 else 1) * oddF l * (q.1 ^ (q.2 / 2) * rootF l) * (q.1 ^ (q.2 / 2) * rootF l) = q.1 ^ q.2 * prodF l
    rw [pow_split q.1 q.2, ← ih]
    generalize (if q.2 % 2 = 1 then q.1 else 1) = c
    generalize q.1 ^ (q.2 / 2) = g
    generalize oddF l = o
    generalize rootF l = r
    simp only [Int.mul_comm, Int.mul_left_comm, Int.mul_assoc]
theorem rootF_bound : ∀ {l : List (Int × Nat)}, Primes l → 1 ≤ rootF l ∧ rootF l ≤ prodF l
  | [], _ => ⟨Int.le_refl _, Int.le_refl _⟩
  | q :: l, h => by
    have ih := rootF_bound (l := l) fun r hr => h r (List.mem_cons_of_mem _ hr)
    have hp2 := (h q List.mem_cons_self).1.1
    have h1 : 0 < q.1 ^ (q.2 / 2) := pow_pos_int (by omega) _
    have h2 : q.1 ^ (q.2 / 2) ≤ q.1 ^ q.2 := by
      have e : q.2 = q.2 / 2 + (q.2 - q.2 / 2) := by omega
      have h3 : 0 < q.1 ^ (q.2 - q.2 / 2) := pow_pos_int (by omega) _
      have h4 : q.1 ^ (q.2 / 2) * 1 ≤ q.1 ^ (q.2 / 2) * q.1 ^ (q.2 - q.2 / 2) := Int.mul_le_mul_of_nonneg_left (by omega) (by omega)
      rw [← Int.pow_add, ← e] at h4
      omega
    show 1 ≤ q.1 ^ (q.2 / 2) * rootF l ∧ q.1 ^ (q.2 / 2) * rootF l ≤ q.1 ^ q.2 * prodF l
    refine ⟨?_, Int.mul_le_mul h2 ih.2 (by omega) (by omega)⟩
    have := Int.mul_pos h1 (show 0 < rootF l by omega)
    omega
theorem primes_take {l : List (Int × Nat)} (h : Primes l) (i : Nat) : Primes (l.take i) := fun r hr => h r (List.mem_of_mem_take hr)
theorem rootF_take_pos {l : List (Int × Nat)} (h : Primes l) (i j : Nat) {q : Int} (hq : 2 ≤ q := by omega) : 1 ≤ rootF (l.take i) * q ^ j := by
  have h1 := (rootF_bound (primes_take h i)).1
  have h2 : 0 < q ^ j := pow_pos_int (by omega) _
  have := Int.mul_pos (show 0 < rootF (l.take i) by omega) h2
  omega
theorem pow_le_pow {p : Int} (h : 1 ≤ p) {a b : Nat} (hab : a ≤ b) : p ^ a ≤ p ^ b := by
  have e : b = a + (b - a) := by omega
  have h1 : 0 < p ^ a := pow_pos_int (by omega) _
  have h2 : 0 < p ^ (b - a) := pow_pos_int (by omega) _
  have h4 : p ^ a * 1 ≤ p ^ a * p ^ (b - a) := Int.mul_le_mul_of_nonneg_left (by omega) (by omega)
  rw [← Int.pow_add, ← e] at h4
  omega
theorem rootF_take_le {l : List (Int × Nat)} (h : Primes l) {i j : Nat} (hi : i < l.length) (hj : j < l[i].2 / 2) : rootF (l.take i) * l[i].1 ^ j ≤ prodF l := by
  have hp2 := (h _ (List.getElem_mem hi)).1.1
  have h1 := rootF_bound (primes_take h (i + 1))
  have e : rootF (l.take (i + 1)) = rootF (l.take i) * l[i].1 ^ (l[i].2 / 2) := by
    rw [List.take_add_one, List.getElem?_eq_getElem hi, rootF_append]
    show _ = _
    congr 1
    show l[i].1 ^ (l[i].2 / 2) * 1 = _
    rw [Int.mul_one]
  have h2 := (rootF_bound (primes_take h i)).1
  have h3 : l[i].1 ^ j ≤ l[i].1 ^ (l[i].2 / 2) := pow_le_pow (by omega) (by omega)
  have h4 : rootF (l.take i) * l[i].1 ^ j ≤ rootF (l.take i) * l[i].1 ^ (l[i].2 / 2) := Int.mul_le_mul_of_nonneg_left h3 (by omega)
  have h5 := prodF_take h (i + 1)
  rw [← e] at h4
  omega
theorem sq_not_dvd {l : List (Int × Nat)} (h : Primes l) (d : Distinct l) {q : Int × Nat} (hq : q ∈ l) : ¬ (q.1 * q.1) ∣ oddF l := fun z => by
  have hp := (h q hq).1
  have hperm := List.perm_cons_erase hq
  have h2 : Primes (q :: l.erase q) := fun r hr => h r (hperm.mem_iff.mpr hr)
  have d2 : Distinct (q :: l.erase q) := distinct_perm hperm d
  rw [oddF_perm hperm] at z
  have h3 : q.1 ∣ oddF (l.erase q) := by
    obtain ⟨k, hk⟩ := z
    have hk2 : (if q.2 % 2 = 1 then q.1 else 1) * oddF (l.erase q) = q.1 * q.1 * k := hk
    by_cases c : q.2 % 2 = 1
    · rw [if_pos c, Int.mul_assoc] at hk2
      exact ⟨k, Int.eq_of_mul_eq_mul_left (by have := hp.pos; omega) hk2⟩
    · rw [if_neg c, Int.one_mul, Int.mul_assoc] at hk2
      exact ⟨q.1 * k, hk2⟩
  have h4 : q.1 ∣ prodF (l.erase q) := by
    rw [← odd_root]
    exact Int.dvd_mul_of_dvd_left (Int.dvd_mul_of_dvd_left h3)
  obtain ⟨p, e⟩ := q
  exact not_dvd_rest h2 d2 h4
end Sf

namespace Sf
open PySem PySem.Spec PyProof.Rows L2
/-- the rests of squares, and the sign by them -/
def sqs (p : Int) : List Int := (List.range (p - 1).toNat).map fun i => ((1 : Int) + (i : Nat)) * (1 + (i : Nat)) % p
theorem sqs_at {p : Int} {i : Nat} (h : i < (p - 1).toNat) : (sqs p)[i]? = some (((1 : Int) + (i : Nat)) * (1 + (i : Nat)) % p) := by
  unfold sqs
  rw [List.getElem?_map, List.getElem?_range h]
  rfl
def lawSign (n p : Int) : Int := if n % p = 0 then 0 else if p = 2 then (if n % 8 = 1 ∨ n % 8 = 7 then 1 else -1) else if n % p ∈ sqs p then 1 else -1
end Sf

namespace Sf
/-! residues by tables -/
def maskOf (p : Nat) : List Nat → Nat
  | [] => 0
  | x :: l => maskOf p l ||| 2 ^ (x * x % p)
theorem maskOf_bit (p r : Nat) : ∀ l : List Nat, (maskOf p l).testBit r = l.any fun x => x * x % p == r
  | [] => Nat.zero_testBit r
  | x :: l => by
    unfold maskOf
    rw [Nat.testBit_or, maskOf_bit p r l, Nat.testBit_two_pow, List.any_cons, Bool.or_comm]
    rfl
def euler (p : Nat) : Bool :=
  let m := maskOf p (List.range' 1 (p - 1))
  (List.range' 1 (p - 1)).all fun r => (r ^ ((p - 1) / 2) % p == 1) == m.testBit r && (r ^ ((p - 1) / 2) % p == 1 || r ^ ((p - 1) / 2) % p == p - 1)
theorem sqs_nat {p r : Nat} : ((r : Int) ∈ sqs p) ↔ (List.range' 1 (p - 1)).any (fun x => x * x % p == r) = true := by
  unfold sqs
  rw [List.mem_map, List.any_eq_true]
  constructor
  · rintro ⟨i, hi, e⟩
    rw [List.mem_range] at hi
    refine ⟨1 + i, by rw [List.mem_range'_1]; omega, ?_⟩
    rw [beq_iff_eq]
    have e2 : (((1 + i) * (1 + i) % p : Nat) : Int) = (r : Int) := by
      rw [← e]
      push_cast
      rfl
    exact Int.ofNat.inj e2
  · rintro ⟨x, hx, e⟩
    rw [List.mem_range'_1] at hx
    refine ⟨x - 1, by rw [List.mem_range]; omega, ?_⟩
    rw [beq_iff_eq] at e
    have e1 : (1 : Int) + ((x - 1 : Nat) : Int) = (x : Int) := by omega
    rw [e1, ← e]
    push_cast
    rfl
theorem emod_cast {n : Int} {p : Nat} (hp : 0 < p) : ∃ r : Nat, r < p ∧ n % p = (r : Int) := by
  have h1 := Int.emod_nonneg n (by omega : (p : Int) ≠ 0)
  have h2 := Int.emod_lt_of_pos n (by omega : (0 : Int) < p)
  exact ⟨(n % p).toNat, by omega, by omega⟩
theorem half_cast (p : Nat) (hp : 1 ≤ p) : ((((p : Int) - 1) / 2).toNat) = (p - 1) / 2 := by omega
theorem pow_rest {n : Int} {p r : Nat} (k : Nat) (e : n % p = (r : Int)) : n ^ k % p = ((r ^ k % p : Nat) : Int) := by
  rw [← pow_mod, e]
  push_cast
  rfl
theorem euler_at {p : Nat} (h : euler p = true) {r : Nat} (h1 : 1 ≤ r) (h2 : r < p) : (r ^ ((p - 1) / 2) % p = 1 ↔ (r : Int) ∈ sqs p) ∧ (r ^ ((p - 1) / 2) % p = 1 ∨ r ^ ((p - 1) / 2) % p = p - 1) := by
  unfold euler at h
  have h3 := List.all_eq_true.mp h r (by rw [List.mem_range'_1]; omega)
  rw [Bool.and_eq_true, maskOf_bit] at h3
  obtain ⟨h4, h5⟩ := h3
  refine ⟨?_, by simpa using h5⟩
  rw [sqs_nat]
  have h6 := beq_iff_eq.mp h4
  rw [← h6, beq_iff_eq]
theorem sign_eq {p : Nat} (hp : 3 ≤ p) (h : euler p = true) (n : Int) : restSign n p = lawSign n p := by
  unfold restSign lawSign
  by_cases h0 : n % p = 0
  · rw [if_pos h0, if_pos h0]
  · rw [if_neg h0, if_neg h0, if_neg (by omega : ¬ (p : Int) = 2), if_neg (by omega : ¬ (p : Int) = 2)]
    obtain ⟨r, hr, e⟩ := emod_cast (n := n) (by omega : 0 < p)
    have h1 : 1 ≤ r := by
      rcases Nat.eq_zero_or_pos r with z | z
      · rw [z] at e
        exact absurd e h0
      · exact z
    have h2 := (euler_at h h1 hr).1
    rw [half_cast p (by omega), pow_rest _ e, e]
    by_cases c : r ^ ((p - 1) / 2) % p = 1
    · rw [if_pos (h2.mp c), if_pos (by rw [c]; rfl)]
    · rw [if_neg (fun z => c (h2.mpr z)), if_neg (fun z => c (by omega))]
theorem sign_eq2 (n : Int) : restSign n 2 = lawSign n 2 := by
  unfold restSign lawSign
  rfl
theorem sign_mul {p : Nat} (hp : 3 ≤ p) (h : euler p = true) (hq : PrP p) (a b : Int) : restSign (a * b) p = restSign a p * restSign b p := by
  unfold restSign
  have hn : ¬ (p : Int) = 2 := by omega
  by_cases ha : a % p = 0
  · have hab : a * b % p = 0 := Int.emod_eq_zero_of_dvd (Int.dvd_mul_of_dvd_left (Int.dvd_of_emod_eq_zero ha))
    rw [if_pos ha, if_pos hab, Int.zero_mul]
  · by_cases hb : b % p = 0
    · have hab : a * b % p = 0 := Int.emod_eq_zero_of_dvd (Int.dvd_mul_of_dvd_right (Int.dvd_of_emod_eq_zero hb))
      rw [if_pos hb, if_pos hab, Int.mul_zero]
    · have hab : ¬ a * b % p = 0 := fun z => by
        rcases prime_mul hq (Int.dvd_of_emod_eq_zero z) with y | y
        · exact ha (Int.emod_eq_zero_of_dvd y)
        · exact hb (Int.emod_eq_zero_of_dvd y)
      rw [if_neg ha, if_neg hb, if_neg hab, if_neg hn, if_neg hn, if_neg hn, half_cast p (by omega)]
      obtain ⟨r, hr, er⟩ := emod_cast (n := a) (by omega : 0 < p)
      obtain ⟨t, ht, et⟩ := emod_cast (n := b) (by omega : 0 < p)
      have r1 : 1 ≤ r := by
        rcases Nat.eq_zero_or_pos r with z | z
        · rw [z] at er
          exact absurd er ha
        · exact z
      have t1 : 1 ≤ t := by
        rcases Nat.eq_zero_or_pos t with z | z
        · rw [z] at et
          exact absurd et hb
        · exact z
      have e1 := (euler_at h r1 hr).2
      have e2 := (euler_at h t1 ht).2
      have p1 := pow_rest ((p - 1) / 2) er
      have p2 := pow_rest ((p - 1) / 2) et
      have pm : (a * b) ^ ((p - 1) / 2) % p = ((a ^ ((p - 1) / 2) % p) * (b ^ ((p - 1) / 2) % p)) % p := by rw [Int.mul_pow, Int.mul_emod]
      have c1 : ((p - 1 : Nat) : Int) = (p : Int) - 1 := by omega
      have q1 : ((p : Int) - 1) * ((p : Int) - 1) % p = 1 := by
        have : ((p : Int) - 1) * ((p : Int) - 1) = 1 + p * (p - 2) := by
          have e3 : (p : Int) * (p - 2) = p * p - p * 2 := Int.mul_sub ..
          rw [e3, Int.sub_mul, Int.mul_sub]
          omega
        rw [this, Int.add_mul_emod_self_left]
        exact Int.emod_eq_of_lt (by omega) (by omega)
      have q2 : ((p : Int) - 1) % p = p - 1 := Int.emod_eq_of_lt (by omega) (by omega)
      have n1 : ¬ ((p : Int) - 1) = 1 := by omega
      rw [pm, p1, p2]
      rcases e1 with e1 | e1 <;> rcases e2 with e2 | e2 <;> rw [e1, e2]
      · have : ((1 : Nat) : Int) * ((1 : Nat) : Int) % p = 1 := Int.emod_eq_of_lt (by decide) (by show (1 : Int) < p; omega)
        rw [this]
        rfl
      · rw [c1, show ((1 : Nat) : Int) * ((p : Int) - 1) = p - 1 by omega, q2, if_neg n1]
        rfl
      · rw [c1, show ((p : Int) - 1) * ((1 : Nat) : Int) = p - 1 by omega, q2, if_neg n1]
        rfl
      · rw [c1, q1, if_neg n1]
        rfl
theorem sign_mul2 (a b : Int) : restSign (a * b) 2 = restSign a 2 * restSign b 2 := by
  have key : ∀ r : Fin 8, ∀ t : Fin 8, restSign ((r.val : Int) * (t.val : Int)) 2 = restSign r.val 2 * restSign t.val 2 := by decide +kernel
  have red : ∀ n : Int, restSign n 2 = restSign (n % 8) 2 := fun n => by
    unfold restSign
    have h1 : n % 8 % 2 = n % 2 := by omega
    have h2 : n % 8 % 8 = n % 8 := by omega
    rw [h1, h2]
    rfl
  have k2 : ∀ n : Int, ∃ r : _root_.Fin 8, n % 8 = (r.val : Int) := fun n => ⟨⟨(n % 8).toNat, by omega⟩, by show n % 8 = ((n % 8).toNat : Int); omega⟩
  obtain ⟨r, hr⟩ := k2 a
  obtain ⟨t, ht⟩ := k2 b
  rw [red (a * b), Int.mul_emod, ← red, red a, red b, hr, ht]
  exact key r t
end Sf

namespace Sf
open PySem PySem.Spec PyProof.Rows L2
/-! lists and tuples of ints as data -/
theorem lay_ints : ∀ ns : List Int, PyData.canLayAll0 (ns.map PyData.int) = true ∧ PyData.depthAll (ns.map PyData.int) = 0
  | [] => ⟨rfl, rfl⟩
  | n :: ns => by
    obtain ⟨h1, h2⟩ := lay_ints ns
    refine ⟨?_, ?_⟩
    · show (true && PyData.canLayAll0 (ns.map PyData.int)) = true
      rw [h1]
      rfl
    · show max 0 (PyData.depthAll (ns.map PyData.int)) = 0
      rw [h2]
      rfl
theorem shp_list (ns : List Int) : SeqAt.shaped (.list (ns.map PyData.int)) = true := by
  obtain ⟨h1, h2⟩ := lay_ints ns
  show (PyData.canLayAll0 (ns.map PyData.int) && decide (PyData.depthAll (ns.map PyData.int) + 1 ≤ 64)) = true
  rw [h1, h2]
  rfl
theorem shp_tup (ns : List Int) : SeqAt.shaped (.tuple (ns.map PyData.int)) = true := by
  obtain ⟨h1, h2⟩ := lay_ints ns
  show (PyData.canLayAll0 (ns.map PyData.int) && decide (PyData.depthAll (ns.map PyData.int) + 1 ≤ 64)) = true
  rw [h1, h2]
  rfl
theorem eqv_ints : ∀ a b : List Int, PyData.eqvAll (a.map PyData.int) (b.map PyData.int) = decide (a = b)
  | [], [] => rfl
  | [], _ :: _ => rfl
  | _ :: _, [] => rfl
  | x :: a, y :: b => by
    show ((x == y) && PyData.eqvAll (a.map PyData.int) (b.map PyData.int)) = _
    rw [eqv_ints a b, Bool.eq_iff_iff]
    simp only [Bool.and_eq_true, beq_iff_eq, decide_eq_true_eq, List.cons.injEq]
theorem dpAll_ints (K : PySem.W.Frag) (H : Hp) : ∀ ns : List Int, DpAll K H (ns.map V.int) (ns.map PyData.int)
  | [] => .nil
  | n :: ns => .cons (.int n) (dpAll_ints K H ns)
theorem dp_list {K : PySem.W.Frag} {H : Hp} {a : Addr} {ns : List Int} (h : SqL K H a (ns.map V.int)) : Dp K H (.ref a) (.list (ns.map PyData.int)) := .lst h (dpAll_ints K H ns)
theorem dp_tup {K : PySem.W.Frag} {H : Hp} {a : Addr} {ns : List Int} (h : SqT K H a (ns.map V.int)) : Dp K H (.ref a) (.tuple (ns.map PyData.int)) := .tup h (dpAll_ints K H ns)
end Sf

namespace Sf
theorem strip_unique {n p : Int} (hp : PrP p) {m m' : Nat} {u u' : Int} (h : Strip n p m u) (h' : Strip n p m' u') : m = m' ∧ u = u' :=
  pow_cancel hp (fun z => h.2 (Int.emod_eq_zero_of_dvd z)) (fun z => h'.2 (Int.emod_eq_zero_of_dvd z)) (h.1.symm.trans h'.1)
theorem strip_ne {n p : Int} {m : Nat} {u : Int} (h : Strip n p m u) : u ≠ 0 := fun z => h.2 (by rw [z]; exact Int.zero_emod _)
theorem strip_le {n p : Int} (hp : 2 ≤ p) {m : Nat} {u : Int} (h : Strip n p m u) : u.natAbs ≤ n.natAbs ∧ (m : Int) < n.natAbs + 1 := by
  have h1 := h.1
  have hu := strip_ne h
  have hpm : 0 < p ^ m := pow_pos_int (by omega) m
  have e : n.natAbs = (p ^ m).natAbs * u.natAbs := by rw [h1]; exact Int.natAbs_mul _ _
  have g1 : 1 ≤ (p ^ m).natAbs := by omega
  have g2 : 1 ≤ u.natAbs := by omega
  have g3 : 1 * u.natAbs ≤ (p ^ m).natAbs * u.natAbs := Nat.mul_le_mul_right _ g1
  have g4 : (p ^ m).natAbs * 1 ≤ (p ^ m).natAbs * u.natAbs := Nat.mul_le_mul_left _ g2
  have g5 := nat_lt_pow hp m
  omega
/-- the sign at a prime by what is stripped -/
def sgnAt (p : Int) (s t : Nat) (u v : Int) : Int :=
  if p = 2 then (if ((u - 1) / 2 * ((v - 1) / 2) + s * ((v * v - 1) / 8) + t * ((u * u - 1) / 8)) % 2 = 1 then -1 else 1)
  else (if s * t % 2 = 1 then restSign (-1) p else 1) * (if t % 2 = 1 then restSign u p else 1) * (if s % 2 = 1 then restSign v p else 1)
def HSign (a b p r : Int) : Prop := (p = 0 ∧ r = if a < 0 ∧ b < 0 then -1 else 1) ∨ (p ≠ 0 ∧ ∃ (s t : Nat) (u v : Int), Strip a p s u ∧ Strip b p t v ∧ r = sgnAt p s t u v)
theorem hsign_unique {a b p r r' : Int} (hp : p = 0 ∨ PrP p) (h : HSign a b p r) (h' : HSign a b p r') : r = r' := by
  rcases h with ⟨h0, h1⟩ | ⟨h0, s, t, u, v, h1, h2, h3⟩
  · rcases h' with ⟨_, g1⟩ | ⟨g0, _⟩
    · rw [h1, g1]
    · exact absurd h0 g0
  · rcases h' with ⟨g0, _⟩ | ⟨_, s', t', u', v', g1, g2, g3⟩
    · exact absurd g0 h0
    · have hp := hp.resolve_left h0
      obtain ⟨e1, e2⟩ := strip_unique hp h1 g1
      obtain ⟨e3, e4⟩ := strip_unique hp h2 g2
      rw [h3, g3, e1, e2, e3, e4]
theorem sgnAt_comm (p : Int) (s t : Nat) (u v : Int) : sgnAt p s t u v = sgnAt p t s v u := by
  unfold sgnAt
  by_cases h : p = 2
  · rw [if_pos h, if_pos h]
    have e : (u - 1) / 2 * ((v - 1) / 2) + s * ((v * v - 1) / 8) + t * ((u * u - 1) / 8) = (v - 1) / 2 * ((u - 1) / 2) + t * ((u * u - 1) / 8) + s * ((v * v - 1) / 8) := by
      rw [Int.mul_comm ((u - 1) / 2)]
      omega
    rw [e]
  · rw [if_neg h, if_neg h, Nat.mul_comm s t, Int.mul_assoc, Int.mul_assoc]
    congr 1
    exact Int.mul_comm _ _
theorem hsign_comm {a b p r : Int} (h : HSign a b p r) : HSign b a p r := by
  rcases h with ⟨h0, h1⟩ | ⟨h0, s, t, u, v, h1, h2, h3⟩
  · refine .inl ⟨h0, ?_⟩
    rw [h1]
    by_cases c : a < 0 ∧ b < 0
    · rw [if_pos c, if_pos c.symm]
    · rw [if_neg c, if_neg (fun z => c z.symm)]
  · exact .inr ⟨h0, t, s, v, u, h2, h1, by rw [h3]; exact sgnAt_comm ..⟩
theorem rest_small (n p : Int) : -1 ≤ restSign n p ∧ restSign n p ≤ 1 := by
  unfold restSign
  split
  · decide
  · split
    · split <;> decide
    · split <;> decide
end Sf

namespace Sf
open PySem PySem.Spec PyProof.Rows L2
section
variable {P : Program} {w : World} {K : PySem.W.Frag} {mg : Str → Option Value} {base : Heap} {f : Addr} {fd : FuncData}
def spQuarter : Sp := fun vs H Q _ => ∃ u : Int, vs = [.int u] ∧ Q (.int ((u - 1) / 2)) H
theorem ok_quarter (F : FnD K "quarter" "quarter" s_P_quarter f fd) : FnOk P w K mg base CX0 1 f fd ["unit"] spQuarter := by
  refine F.ok sc_P_quarter (fun vs H Q E h => ?_) (fun cdv A outer s H vs Q E hr h => ?_)
  · obtain ⟨n, rfl, _⟩ := h; rfl
  · obtain ⟨n, rfl, q⟩ := h
    refine ⟨_, PSs.nox (pss_one (ps_ret (pe_op op_fdivW (pe_op op_sub (pv 0) pe_int) pe_int))), ?_⟩
    exact ⟨_, rfl, _, _, rfl, rfl, _, _, rfl, rfl, CDivW.of (by decide) (by decide +kernel), q⟩
def spEighth : Sp := fun vs H Q _ => ∃ u : Int, vs = [.int u] ∧ u.natAbs < 2 ^ 3000 ∧ Q (.int ((u * u - 1) / 8)) H
theorem ok_eighth (F : FnD K "eighth" "eighth" s_P_eighth f fd) : FnOk P w K mg base CX0 1 f fd ["unit"] spEighth := by
  refine F.ok sc_P_eighth (fun vs H Q E h => ?_) (fun cdv A outer s H vs Q E hr h => ?_)
  · obtain ⟨n, rfl, _⟩ := h; rfl
  · obtain ⟨n, rfl, hb, q⟩ := h
    refine ⟨_, PSs.nox (pss_one (ps_ret (pe_op op_fdivW (pe_op op_sub (pe_op op_mulW (pv 0) (pv 0)) pe_int) pe_int))), ?_⟩
    exact ⟨_, rfl, _, rfl, _, _, rfl, rfl, CMulW.of hb hb, _, _, rfl, rfl, _, _, rfl, rfl, CDivW.of (by decide) (by decide +kernel), q⟩
structure SgnP (two : Bool) (vs : List V) (H : Hp) (Q : VK) : Prop where
  ex : ∃ a b p : Int, vs = (if two then [.int a, .int b] else [.int a, .int b, .int p]) ∧ (two = true → p = 2) ∧ (two = false → p ≠ 2) ∧ a ≠ 0 ∧ b ≠ 0 ∧ a.natAbs ≤ 1000000000 ∧ b.natAbs ≤ 1000000000 ∧ 2 ≤ p ∧ p ≤ 1000000000 ∧
    ∀ (s t : Nat) (u v : Int) (H' : Hp), Strip a p s u → Strip b p t v → Same H H' → Q (.int (sgnAt p s t u v)) H'
def spSgn (two : Bool) : Sp := fun vs H Q _ => SgnP two vs H Q
theorem small_mul {a b A B : Int} (ha : a.natAbs ≤ A.natAbs) (hb : b.natAbs ≤ B.natAbs) : (a * b).natAbs ≤ (A * B).natAbs := by
  rw [Int.natAbs_mul, Int.natAbs_mul]
  exact Nat.mul_le_mul ha hb
theorem ok_sign_at_two (F : FnD K "sign_at_two" "sign_at_two" s_P_sign_at_two f fd) (C_P_stripped : Cal P w K mg base 1 "stripped" ["number", "prime"] spStripped) (C_P_quarter : Cal P w K mg base 1 "quarter" ["unit"] spQuarter) (C_P_eighth : Cal P w K mg base 1 "eighth" ["unit"] spEighth) :
    FnOk P w K mg base CX0 2 f fd ["a", "b"] (spSgn true) := by
  refine F.ok sc_P_sign_at_two (fun vs H Q E h => ?_) (fun cdv A outer s H vs Q E hr h => ?_)
  · obtain ⟨a, b, p, rfl, _⟩ := h.ex; rfl
  · obtain ⟨a, b, p, rfl, h2, _, a0, b0, a1, b1, _, _, q⟩ := h.ex
    obtain rfl : p = 2 := h2 rfl
    refine ⟨_, PSs.nox (pss_cons (ps_asg (pe_cal C_P_stripped (hr.mono (by decide)) (pa_cons (pv 0) (pa_cons pe_int pa_nil))) (pg_tup (by rfl) (pgs_cons (pg_name (i := 2) sc_P_sign_at_two.nd rfl (Or.inl rfl)) (pgs_cons (pg_name (i := 3) sc_P_sign_at_two.nd rfl (Or.inl rfl)) pgs_nil))))
      (pss_cons (ps_asg (pe_cal C_P_stripped (hr.mono (by decide)) (pa_cons (pv 1) (pa_cons pe_int pa_nil))) (pg_tup (by rfl) (pgs_cons (pg_name (i := 4) sc_P_sign_at_two.nd rfl (Or.inl rfl)) (pgs_cons (pg_name (i := 5) sc_P_sign_at_two.nd rfl (Or.inl rfl)) pgs_nil))))
      (pss_cons (ps_set (i := 6) sc_P_sign_at_two.nd rfl (Or.inl rfl) (pe_op op_add (pe_op op_add (pe_op op_mulW (pe_cal C_P_quarter (hr.mono (by decide)) (pa_cons (pv 3) pa_nil)) (pe_cal C_P_quarter (hr.mono (by decide)) (pa_cons (pv 5) pa_nil))) (pe_op op_mulW (pv 2) (pe_cal C_P_eighth (hr.mono (by decide)) (pa_cons (pv 5) pa_nil)))) (pe_op op_mulW (pv 4) (pe_cal C_P_eighth (hr.mono (by decide)) (pa_cons (pv 3) pa_nil)))))
      (pss_one (ps_ret (pe_ifExp (pt_cmp (pc_eqI (pe_op op_mod (pv 6) pe_int) pe_int)) (pe_un un_neg pe_int) pe_int)))))), ?_⟩
    have tb : (2 : Int).natAbs < 2 ^ 3000 := by decide +kernel
    refine ⟨_, rfl, a, 2, rfl, a0, by decide, tb, fun s u x1 st1 hx1 => ⟨x1, _, rfl, .inl (.inl upd_same), rfl, _, _, rfl, _, _, rfl, rfl, ?_⟩⟩
    refine ⟨_, rfl, b, 2, rfl, b0, by decide, tb, fun t v x2 st2 hx2 => ⟨x2, _, rfl, .inl (.inl upd_same), rfl, _, _, rfl, _, _, rfl, rfl, ?_⟩⟩
    have l1 := strip_le (by decide) st1
    have l2 := strip_le (by decide) st2
    have ub : u.natAbs < 2 ^ 3000 := lt3000s (by omega) (by omega)
    have vb : v.natAbs < 2 ^ 3000 := lt3000s (by omega) (by omega)
    have uu : (u * u).natAbs ≤ 1000000000000000000 := by
      have := small_mul (a := u) (b := u) (A := 1000000000) (B := 1000000000) (by omega) (by omega)
      exact this
    have vv : (v * v).natAbs ≤ 1000000000000000000 := by
      have := small_mul (a := v) (b := v) (A := 1000000000) (B := 1000000000) (by omega) (by omega)
      exact this
    refine ⟨_, rfl, u, rfl, _, rfl, v, rfl, _, _, rfl, rfl, CMulW.of (lt3000s (by omega) (by omega)) (lt3000s (by omega) (by omega)), _, rfl, _, rfl, v, rfl, vb, _, _, rfl, rfl, CMulW.of (lt3000s (by omega) (by omega)) (lt3000s (by omega) (by omega)), _, _, rfl, rfl, _, rfl, _, rfl, u, rfl, ub, _, _, rfl, rfl, CMulW.of (lt3000s (by omega) (by omega)) (lt3000s (by omega) (by omega)), _, _, rfl, rfl, ?_⟩
    have z := q s t u v (upd (upd H x1 (.tup [.int s, .int u])) x2 (.tup [.int t, .int v])) st1 st2 ((same_upd hx1).trans (same_upd hx2))
    unfold sgnAt at z
    rw [if_pos rfl] at z
    refine ⟨_, rfl, _, _, rfl, rfl, (by show (0 : Int) < 2; decide), _, _, rfl, rfl, _, rfl, ifd (fun h => ?_) (fun h => ?_)⟩
    · rw [if_pos h] at z
      exact ⟨_, rfl, z⟩
    · rw [if_neg h] at z
      exact z
theorem mul1 (a : Int) : 1 * a = a := Int.one_mul a
theorem ok_sign_at_odd (F : FnD K "sign_at_odd" "sign_at_odd" s_P_sign_at_odd f fd) (C_P_stripped : Cal P w K mg base 1 "stripped" ["number", "prime"] spStripped) (C_P_rest_sign : Cal P w K mg base 2 "rest_sign" ["number", "prime"] spRestSign) :
    FnOk P w K mg base CX0 3 f fd ["a", "b", "prime"] (spSgn false) := by
  refine F.ok sc_P_sign_at_odd (fun vs H Q E h => ?_) (fun cdv A outer s H vs Q E hr h => ?_)
  · obtain ⟨a, b, p, rfl, _⟩ := h.ex; rfl
  · obtain ⟨a, b, p, rfl, _, hp2, a0, b0, a1, b1, p2, p9, q⟩ := h.ex
    have pn : p ≠ 2 := hp2 rfl
    refine ⟨_, PSs.nox (pss_cons (ps_asg (pe_cal C_P_stripped (hr.mono (by decide)) (pa_cons (pv 0) (pa_cons (pv 2) pa_nil))) (pg_tup (by rfl) (pgs_cons (pg_name (i := 3) sc_P_sign_at_odd.nd rfl (Or.inl rfl)) (pgs_cons (pg_name (i := 4) sc_P_sign_at_odd.nd rfl (Or.inl rfl)) pgs_nil))))
      (pss_cons (ps_asg (pe_cal C_P_stripped (hr.mono (by decide)) (pa_cons (pv 1) (pa_cons (pv 2) pa_nil))) (pg_tup (by rfl) (pgs_cons (pg_name (i := 5) sc_P_sign_at_odd.nd rfl (Or.inl rfl)) (pgs_cons (pg_name (i := 6) sc_P_sign_at_odd.nd rfl (Or.inl rfl)) pgs_nil))))
      (pss_cons (ps_set (i := 7) sc_P_sign_at_odd.nd rfl (Or.inl rfl) pe_int)
      (Evl.pss_cut (ps_if (pt_cmp (pc_eqI (pe_op op_mod (pe_op op_mulW (pv 3) (pv 5)) pe_int) pe_int)) (pss_one (ps_set (i := 7) sc_P_sign_at_odd.nd rfl (Or.inl rfl) (pe_op op_mulW (pv 7) (pe_cal C_P_rest_sign (hr.mono (by decide)) (pa_cons (pe_un un_neg pe_int) (pa_cons (pv 2) pa_nil)))))) pss_nil)
      (Evl.pss_cut (ps_if (pt_cmp (pc_eqI (pe_op op_mod (pv 5) pe_int) pe_int)) (pss_one (ps_set (i := 7) sc_P_sign_at_odd.nd rfl (Or.inl rfl) (pe_op op_mulW (pv 7) (pe_cal C_P_rest_sign (hr.mono (by decide)) (pa_cons (pv 4) (pa_cons (pv 2) pa_nil)))))) pss_nil)
      (pss_cons (ps_if (pt_cmp (pc_eqI (pe_op op_mod (pv 3) pe_int) pe_int)) (pss_one (ps_set (i := 7) sc_P_sign_at_odd.nd rfl (Or.inl rfl) (pe_op op_mulW (pv 7) (pe_cal C_P_rest_sign (hr.mono (by decide)) (pa_cons (pv 6) (pa_cons (pv 2) pa_nil)))))) pss_nil)
      (pss_one (ps_ret (pv 7))))))))), ?_⟩
    have tb : p.natAbs < 2 ^ 3000 := lt3000s (by omega) (by omega)
    have tb1 : p.natAbs < 2 ^ 1000 := Nat.lt_trans (by omega : p.natAbs < 2000000000) (by decide +kernel)
    refine ⟨_, rfl, _, rfl, a, p, rfl, a0, p2, tb, fun s u x1 st1 hx1 => ⟨x1, _, rfl, .inl (.inl upd_same), rfl, _, _, rfl, _, _, rfl, rfl, ?_⟩⟩
    refine ⟨_, rfl, _, rfl, b, p, rfl, b0, p2, tb, fun t v x2 st2 hx2 => ⟨x2, _, rfl, .inl (.inl upd_same), rfl, _, _, rfl, _, _, rfl, rfl, ?_⟩⟩
    have l1 := strip_le p2 st1
    have l2 := strip_le p2 st2
    have k0 : Same H (upd (upd H x1 (.tup [.int s, .int u])) x2 (.tup [.int t, .int v])) := (same_upd hx1).trans (same_upd hx2)
    have est : ((s : Int) * (t : Int)) = ((s * t : Nat) : Int) := (Int.natCast_mul s t).symm
    have hst : ((s : Int) * (t : Int)) % 2 = 1 ↔ s * t % 2 = 1 := by rw [est]; omega
    have r1 := rest_small (-1) p
    have r2 := rest_small u p
    have r3 := rest_small v p
    have z := fun H' k => q s t u v H' st1 st2 k
    unfold sgnAt at z
    rw [if_neg pn] at z
    refine ⟨fun σ' H' => σ' = [some (.int a), some (.int b), some (.int p), some (.int s), some (.int u), some (.int t), some (.int v), some (.int (if s * t % 2 = 1 then restSign (-1) p else 1))] ∧ Same H H', ?_, ?_⟩
    · refine ⟨_, rfl, _, rfl, _, _, rfl, rfl, CMulW.of (lt3000s (by omega) (by omega)) (lt3000s (by omega) (by omega)), _, _, rfl, rfl, (by show (0 : Int) < 2; decide), _, _, rfl, rfl, _, rfl, ifd (fun h => ?_) (fun h => ?_)⟩
      · have h' := hst.mp h
        rw [if_pos h']
        exact ⟨_, rfl, 1, rfl, _, rfl, -1, p, rfl, p2, tb1, fun H' k => ⟨_, _, rfl, rfl, CMulW.of (lt3000s (by decide) (by decide)) (lt3000s (by omega) (by omega)), (by show [some (V.int a), some (.int b), some (.int p), some (.int s), some (.int u), some (.int t), some (.int v), some (.int (1 * restSign (-1) p))] = _; rw [mul1]), k0.trans k⟩⟩
      · have h' := fun z => h (hst.mpr z)
        rw [if_neg h']
        exact ⟨rfl, k0⟩
    rintro σ' H1 ⟨rfl, k1⟩
    have b1 : -1 ≤ (if s * t % 2 = 1 then restSign (-1) p else 1) ∧ (if s * t % 2 = 1 then restSign (-1) p else 1) ≤ 1 := by split <;> omega
    have b2 : -1 ≤ (if t % 2 = 1 then restSign u p else 1) ∧ (if t % 2 = 1 then restSign u p else 1) ≤ 1 := by split <;> omega
    generalize (if s * t % 2 = 1 then restSign (-1) p else 1) = x at z b1
    refine ⟨fun σ' H' => σ' = [some (.int a), some (.int b), some (.int p), some (.int s), some (.int u), some (.int t), some (.int v), some (.int (x * (if t % 2 = 1 then restSign u p else 1)))] ∧ Same H H', ?_, ?_⟩
    · refine ⟨_, rfl, _, _, rfl, rfl, (by show (0 : Int) < 2; decide), _, _, rfl, rfl, _, rfl, ifd (fun h => ?_) (fun h => ?_)⟩
      · have h' : t % 2 = 1 := by omega
        rw [if_pos h']
        exact ⟨_, rfl, _, rfl, _, rfl, u, p, rfl, p2, tb1, fun H' k => ⟨_, _, rfl, rfl, CMulW.of (lt3000s (by omega) (by omega)) (lt3000s (by omega) (by omega)), rfl, k1.trans k⟩⟩
      · have h' : ¬ t % 2 = 1 := by omega
        rw [if_neg h', Int.mul_one]
        exact ⟨rfl, k1⟩
    rintro σ' H2 ⟨rfl, k2⟩
    generalize (if t % 2 = 1 then restSign u p else 1) = y at z b2
    have b3 : (x * y).natAbs ≤ 1 := small_mul (A := 1) (B := 1) (by omega) (by omega)
    refine ⟨_, rfl, _, _, rfl, rfl, (by show (0 : Int) < 2; decide), _, _, rfl, rfl, _, rfl, ifd (fun h => ?_) (fun h => ?_)⟩
    · have h' : s % 2 = 1 := by omega
      rw [if_pos h'] at z
      exact ⟨_, rfl, _, rfl, _, rfl, v, p, rfl, p2, tb1, fun H' k => ⟨_, _, rfl, rfl, CMulW.of (lt3000s (by omega) (by omega)) (lt3000s (by omega) (by omega)), _, rfl, z _ (k2.trans k)⟩⟩
    · have h' : ¬ s % 2 = 1 := by omega
      rw [if_neg h', Int.mul_one] at z
      exact ⟨_, rfl, z _ k2⟩
structure SignP (vs : List V) (H : Hp) (Q : VK) : Prop where
  ex : ∃ a b p : Int, vs = [.int a, .int b, .int p] ∧ a ≠ 0 ∧ b ≠ 0 ∧ a.natAbs ≤ 1000000000 ∧ b.natAbs ≤ 1000000000 ∧ (p = 0 ∨ PrP p ∧ p ≤ 1000000000) ∧ ∀ (r : Int) (H' : Hp), HSign a b p r → Same H H' → Q (.int r) H'
def spSign : Sp := fun vs H Q _ => SignP vs H Q
theorem ok_sign (F : FnD K "sign" "sign" s_P_sign f fd) (C_P_sign_at_two : Cal P w K mg base 2 "sign_at_two" ["a", "b"] (spSgn true)) (C_P_sign_at_odd : Cal P w K mg base 3 "sign_at_odd" ["a", "b", "prime"] (spSgn false)) :
    FnOk P w K mg base CX0 4 f fd ["a", "b", "place"] spSign := by
  refine F.ok sc_P_sign (fun vs H Q E h => ?_) (fun cdv A outer s H vs Q E hr h => ?_)
  · obtain ⟨a, b, p, rfl, _⟩ := h.ex; rfl
  · obtain ⟨a, b, p, rfl, a0, b0, a1, b1, hp, q⟩ := h.ex
    refine ⟨_, PSs.nox (pss_cons (ps_if (pt_cmp (pc_eqI (pv 2) pe_int)) (pss_one (ps_ret (pe_ifExp (PW.pt (pw_and (pt_cmp (pc_lt (pv 0) pe_int)) (pw_and1 (pt_cmp (pc_lt (pv 1) pe_int))))) (pe_un un_neg pe_int) pe_int))) pss_nil)
      (pss_cons (ps_if (pt_cmp (pc_eqI (pv 2) pe_int)) (pss_one (ps_ret (pe_cal C_P_sign_at_two (hr.mono (by decide)) (pa_cons (pv 0) (pa_cons (pv 1) pa_nil))))) pss_nil)
      (pss_one (ps_ret (pe_cal C_P_sign_at_odd (hr.mono (by decide)) (pa_cons (pv 0) (pa_cons (pv 1) (pa_cons (pv 2) pa_nil)))))))), ?_⟩
    refine ⟨_, rfl, _, _, rfl, rfl, _, rfl, ifd (fun h => ?_) (fun h => ?_)⟩
    · have z := fun r e => q r H (.inl ⟨h, e⟩) (Same.refl H)
      refine ⟨_, rfl, _, _, rfl, rfl, _, rfl, ifd (fun h1 => ⟨_, rfl, _, _, rfl, rfl, _, rfl, ifd (fun h2 => ?_) (fun h2 => ?_)⟩) (fun h1 => ?_)⟩
      · exact ⟨_, rfl, z _ (by rw [if_pos ⟨h1, h2⟩])⟩
      · exact z _ (by rw [if_neg (fun c => h2 c.2)])
      · exact z _ (by rw [if_neg (fun c => h1 c.1)])
    · have hp := hp.resolve_left h
      have p2 := hp.1.1
      refine ⟨_, rfl, _, _, rfl, rfl, _, rfl, ifd (fun h2 => ?_) (fun h2 => ?_)⟩
      · have h2 : p = 2 := h2
        subst h2
        exact ⟨_, rfl, _, rfl, ⟨a, b, 2, rfl, fun _ => rfl, fun z => Bool.noConfusion z, a0, b0, a1, b1, by decide, by decide, fun s t u v H' h3 h4 k => q _ H' (.inr ⟨h, s, t, u, v, h3, h4, rfl⟩) k⟩⟩
      · exact ⟨_, rfl, _, rfl, _, rfl, ⟨a, b, p, rfl, fun z => Bool.noConfusion z, fun _ => h2, a0, b0, a1, b1, p2, hp.2, fun s t u v H' h3 h4 k => q _ H' (.inr ⟨h, s, t, u, v, h3, h4, rfl⟩) k⟩⟩
end
end Sf

namespace Sf
open PySem PySem.Spec PyProof.Rows L2
theorem strip_exists {n p : Int} (hn : n ≠ 0) (hp : 2 ≤ p) : ∃ (m : Nat) (u : Int), Strip n p m u := by
  generalize hN : n.natAbs = N
  induction N using Nat.strongRecOn generalizing n with
  | ind N ih =>
    by_cases h : n % p = 0
    · obtain ⟨l1, l2, l3⟩ := strip_less hn hp h
      obtain ⟨m, u, e, hu⟩ := ih _ (by omega) l2 rfl
      refine ⟨m + 1, u, ?_, hu⟩
      rw [Int.pow_succ, Int.mul_comm (p ^ m) p, Int.mul_assoc, ← e]
      exact l3
    · exact ⟨0, n, by rw [Int.pow_zero, Int.one_mul], h⟩
theorem odd_sq8 {w : Int} (h : w % 2 ≠ 0) : w * w % 8 = 1 := by
  have h1 : w % 8 = 1 ∨ w % 8 = 3 ∨ w % 8 = 5 ∨ w % 8 = 7 := by omega
  rw [Int.mul_emod]
  rcases h1 with e | e | e | e <;> rw [e] <;> decide
/-- the same unit, up to what the sign sees -/
def Alike (p u v : Int) : Prop := if p = 2 then u % 8 = v % 8 else restSign u p = restSign v p
theorem half_par {u v : Int} (h : u % 8 = v % 8) : ((u - 1) / 2) % 2 = ((v - 1) / 2) % 2 := by omega
theorem w_par {u v : Int} (h : u % 8 = v % 8) : ((u * u - 1) / 8) % 2 = ((v * v - 1) / 8) % 2 := by
  have e : u = v + 8 * ((u - v) / 8) := by omega
  generalize (u - v) / 8 = k at e
  have e2 : u * u = v * v + 16 * (v * k + 4 * (k * k)) := by rw [e]; grind
  omega
theorem par_mul (a b c d : Int) (h1 : a % 2 = c % 2) (h2 : b % 2 = d % 2) : (a * b) % 2 = (c * d) % 2 := by
  rw [Int.mul_emod, h1, h2, ← Int.mul_emod]
theorem sgn_congr {p : Int} {s t s' t' : Nat} {u v u' v' : Int} (hs : s % 2 = s' % 2) (ht : t % 2 = t' % 2) (hu : Alike p u u') (hv : Alike p v v') : sgnAt p s t u v = sgnAt p s' t' u' v' := by
  unfold sgnAt
  unfold Alike at hu hv
  by_cases h : p = 2
  · rw [if_pos h] at hu hv ⊢
    rw [if_pos h]
    have h1 := par_mul _ _ _ _ (half_par hu) (half_par hv)
    have h2 := par_mul (s : Int) ((v * v - 1) / 8) (s' : Int) ((v' * v' - 1) / 8) (by omega) (w_par hv)
    have h3 := par_mul (t : Int) ((u * u - 1) / 8) (t' : Int) ((u' * u' - 1) / 8) (by omega) (w_par hu)
    have e : ((u - 1) / 2 * ((v - 1) / 2) + s * ((v * v - 1) / 8) + t * ((u * u - 1) / 8)) % 2 = ((u' - 1) / 2 * ((v' - 1) / 2) + s' * ((v' * v' - 1) / 8) + t' * ((u' * u' - 1) / 8)) % 2 := by omega
    rw [e]
  · rw [if_neg h] at hu hv ⊢
    rw [if_neg h, hu, hv, hs, ht, Nat.mul_mod s t, hs, ht, ← Nat.mul_mod]
theorem rest_unit {w p : Int} (h : w % p ≠ 0) : restSign w p * restSign w p = 1 := by
  unfold restSign
  rw [if_neg h]
  split
  · split <;> decide
  · split <;> decide
theorem alike_sq {p u w : Int} (hp : PrP p) (he : p = 2 ∨ ∃ q : Nat, p = q ∧ 3 ≤ q ∧ euler q = true) (hw : w % p ≠ 0) : Alike p (u * (w * w)) u := by
  unfold Alike
  by_cases h : p = 2
  · rw [if_pos h, Int.mul_emod, odd_sq8 (by rw [← h]; exact hw), Int.mul_one, Int.emod_emod_of_dvd _ (Int.dvd_refl _)]
  · rw [if_neg h]
    obtain ⟨q, rfl, h3, e⟩ := he.resolve_left h
    rw [sign_mul h3 e hp, sign_mul h3 e hp, rest_unit hw, Int.mul_one]
theorem strip_sq {p n m k u u' : Int} {s s' : Nat} (hp : PrP p) (hk : k ≠ 0) (e : n = m * (k * k)) (h : Strip n p s u) (h' : Strip m p s' u') : ∃ w : Int, w % p ≠ 0 ∧ u = u' * (w * w) ∧ s % 2 = s' % 2 := by
  obtain ⟨c, w, hw⟩ := strip_exists hk hp.1
  refine ⟨w, hw.2, ?_⟩
  have hs : Strip n p (s' + 2 * c) (u' * (w * w)) := by
    constructor
    · rw [e, h'.1, hw.1, Int.pow_add, Nat.two_mul, Int.pow_add]
      grind
    · intro z
      have d := Int.dvd_of_emod_eq_zero z
      rcases prime_mul hp d with d | d
      · exact h'.2 (Int.emod_eq_zero_of_dvd d)
      · rcases prime_mul hp d with d | d <;> exact hw.2 (Int.emod_eq_zero_of_dvd d)
  obtain ⟨e1, e2⟩ := strip_unique hp h hs
  exact ⟨e2, by omega⟩
theorem hsign_bare {a b a' b' p r : Int} (hp : PrP p) (he : p = 2 ∨ ∃ q : Nat, p = q ∧ 3 ≤ q ∧ euler q = true) (ha : ∃ k, k ≠ 0 ∧ a = a' * (k * k)) (hb : ∃ k, k ≠ 0 ∧ b = b' * (k * k)) (a0 : a' ≠ 0) (b0 : b' ≠ 0) (h : HSign a b p r) : HSign a' b' p r := by
  have p2 := hp.1
  rcases h with ⟨h0, _⟩ | ⟨h0, s, t, u, v, h1, h2, h3⟩
  · omega
  · obtain ⟨s', u', g1⟩ := strip_exists a0 p2
    obtain ⟨t', v', g2⟩ := strip_exists b0 p2
    obtain ⟨k, k0, e⟩ := ha
    obtain ⟨j, j0, f⟩ := hb
    obtain ⟨w, w0, w1, w2⟩ := strip_sq hp k0 e h1 g1
    obtain ⟨x, x0, x1, x2⟩ := strip_sq hp j0 f h2 g2
    refine .inr ⟨h0, s', t', u', v', g1, g2, ?_⟩
    rw [h3]
    exact sgn_congr w2 x2 (by rw [w1]; exact alike_sq hp he w0) (by rw [x1]; exact alike_sq hp he x0)
theorem rest_mod {n p : Int} (h : p ≠ 2) : restSign (n % p) p = restSign n p := by
  unfold restSign
  rw [Int.emod_emod_of_dvd _ (Int.dvd_refl p), if_neg h, if_neg h, pow_mod]
end Sf

namespace Sf
open PySem PySem.Spec PyProof.Rows L2
/-- the ascending places where the sign is -1 -/
def PlacesOf (a b : Int) (l : List Int) : Prop := l.Pairwise (· < ·) ∧ ∀ p : Int, p ∈ l ↔ (p = 0 ∨ PrP p) ∧ HSign a b p (-1)
theorem asc_unique : ∀ {l m : List Int}, l.Pairwise (· < ·) → m.Pairwise (· < ·) → (∀ x, x ∈ l ↔ x ∈ m) → l = m
  | [], [], _, _, _ => rfl
  | [], y :: m, _, _, h => absurd ((h y).mpr List.mem_cons_self) (by simp)
  | x :: l, [], _, _, h => absurd ((h x).mp List.mem_cons_self) (by simp)
  | x :: l, y :: m, h1, h2, h => by
    obtain ⟨a1, a2⟩ := List.pairwise_cons.mp h1
    obtain ⟨b1, b2⟩ := List.pairwise_cons.mp h2
    have e : x = y := by
      have c1 := (h x).mp List.mem_cons_self
      have c2 := (h y).mpr List.mem_cons_self
      rcases List.mem_cons.mp c1 with c1 | c1
      · exact c1
      · rcases List.mem_cons.mp c2 with c2 | c2
        · exact c2.symm
        · have := a1 y c2
          have := b1 x c1
          omega
    subst e
    rw [asc_unique a2 b2 fun z => ?_]
    constructor
    · intro hz
      rcases List.mem_cons.mp ((h z).mp (List.mem_cons_of_mem _ hz)) with e | e
      · have := a1 z hz
        omega
      · exact e
    · intro hz
      rcases List.mem_cons.mp ((h z).mpr (List.mem_cons_of_mem _ hz)) with e | e
      · have := b1 z hz
        omega
      · exact e
theorem places_unique {a b : Int} {l m : List Int} (h : PlacesOf a b l) (h' : PlacesOf a b m) : l = m := asc_unique h.1 h'.1 fun x => (h.2 x).trans (h'.2 x).symm
/-- at an odd prime that divides neither number the sign is 1 -/
theorem sign_far {a b p r : Int} (hp : PrP p) (h2 : p ≠ 2) (ha : a % p ≠ 0) (hb : b % p ≠ 0) (h : HSign a b p r) : r = 1 := by
  rcases h with ⟨h0, _⟩ | ⟨_, s, t, u, v, g1, g2, g3⟩
  · have := hp.1
    omega
  · have e1 := strip_unique hp g1 ⟨by rw [Int.pow_zero, Int.one_mul], ha⟩
    have e2 := strip_unique hp g2 ⟨by rw [Int.pow_zero, Int.one_mul], hb⟩
    rw [g3, e1.1, e2.1]
    unfold sgnAt
    rw [if_neg h2]
    rfl
theorem hsign_some {a b p : Int} (ha : a ≠ 0) (hb : b ≠ 0) (hp : p = 0 ∨ PrP p) : ∃ r, HSign a b p r := by
  rcases hp with e | hp
  · exact ⟨_, .inl ⟨e, rfl⟩⟩
  · obtain ⟨s, u, h1⟩ := strip_exists ha hp.1
    obtain ⟨t, v, h2⟩ := strip_exists hb hp.1
    have := hp.1
    exact ⟨_, .inr ⟨by omega, s, t, u, v, h1, h2, rfl⟩⟩
theorem abs_mod {n p : Int} (h : absI n % p = 0) : n % p = 0 := by
  unfold absI at h
  split at h
  · have d := Int.dvd_of_emod_eq_zero h
    exact Int.emod_eq_zero_of_dvd ((Int.dvd_neg).mp d)
  · exact h
theorem mod_abs {n p : Int} (h : n % p = 0) : absI n % p = 0 := by
  unfold absI
  split
  · exact Int.emod_eq_zero_of_dvd ((Int.dvd_neg).mpr (Int.dvd_of_emod_eq_zero h))
  · exact h
/-- a prime divides a number exactly if it is one of its factors -/
theorem fact_keys {n p : Int} {l : List (Int × Nat)} (h : FactOf n l) (hp : PrP p) : p ∈ l.map (·.1) ↔ n % p = 0 := by
  constructor
  · intro hm
    obtain ⟨q, hq, e⟩ := List.mem_map.mp hm
    subst e
    obtain ⟨i, hi, e⟩ := List.mem_iff_getElem.mp hq
    obtain ⟨k, hk⟩ : ∃ k, q.2 = k + 1 := ⟨q.2 - 1, by have := (h.2.2 q hq).2; omega⟩
    have : ∀ (l : List (Int × Nat)), q ∈ l → q.1 ∣ prodF l := fun l hl => by
      induction l with
      | nil => cases hl
      | cons x l ih =>
        show q.1 ∣ x.1 ^ x.2 * prodF l
        rcases List.mem_cons.mp hl with e | e
        · subst e
          rw [hk, Int.pow_succ, Int.mul_assoc]
          exact Int.dvd_trans (Int.dvd_mul_right _ _) (Int.dvd_mul_left _ _)
        · exact Int.dvd_trans (ih e) (Int.dvd_mul_left _ _)
    have d := this l hq
    rw [h.1] at d
    exact Int.emod_eq_zero_of_dvd d
  · intro hm
    have d := Int.dvd_of_emod_eq_zero hm
    rw [← h.1] at d
    obtain ⟨e, he⟩ := prime_prodF hp h.2.2 d
    exact List.mem_map.mpr ⟨_, he, rfl⟩
/-- the places out of 0 and the divisors -/
theorem places_of {a b : Int} {la lb : List (Int × Nat)} {D : List Int} (ha : a ≠ 0) (hb : b ≠ 0) (fa : FactOf (absI a) la) (fb : FactOf (absI b) lb) (hD : D.Pairwise (· < ·)) (hm : ∀ k, k ∈ D ↔ k ∈ 2 :: (la.map (·.1) ++ lb.map (·.1)))
    : (∀ k ∈ 0 :: D, k = 0 ∨ PrP k) ∧ ∀ {l : List Int} (hl : l.Sublist (0 :: D)) (hs : ∀ k, k ∈ l ↔ k ∈ 0 :: D ∧ HSign a b k (-1)), PlacesOf a b l := by
  have hP : ∀ k ∈ 0 :: D, k = 0 ∨ PrP k := fun k hk => by
    rcases List.mem_cons.mp hk with e | e
    · exact .inl e
    · rcases List.mem_cons.mp ((hm k).mp e) with e | e
      · exact .inr (e ▸ prp_of_trial (d := 2) (by decide) (by decide) (fun k a b => by omega) (by decide))
      · rcases List.mem_append.mp e with e | e
        · obtain ⟨q, hq, e⟩ := List.mem_map.mp e
          exact .inr (e ▸ (fa.2.2 q hq).1)
        · obtain ⟨q, hq, e⟩ := List.mem_map.mp e
          exact .inr (e ▸ (fb.2.2 q hq).1)
  refine ⟨hP, fun {l} hl hs => ⟨?_, fun p => ?_⟩⟩
  · refine List.Pairwise.sublist hl (List.pairwise_cons.mpr ⟨fun k hk => ?_, hD⟩)
    rcases List.mem_cons.mp ((hm k).mp hk) with e | e
    · omega
    · rcases hP k (List.mem_cons_of_mem _ hk) with e2 | e2
      · rcases List.mem_append.mp e with e | e
        · obtain ⟨q, hq, e⟩ := List.mem_map.mp e
          have := (fa.2.2 q hq).1.1
          omega
        · obtain ⟨q, hq, e⟩ := List.mem_map.mp e
          have := (fb.2.2 q hq).1.1
          omega
      · have := e2.1
        omega
  · rw [hs]
    constructor
    · rintro ⟨h1, h2⟩
      exact ⟨hP p h1, h2⟩
    · rintro ⟨h1, h2⟩
      refine ⟨?_, h2⟩
      rcases h1 with e | hp
      · rw [e]
        exact List.mem_cons_self
      · by_cases c : p ∈ D
        · exact List.mem_cons_of_mem _ c
        · exfalso
          rw [hm, List.mem_cons, List.mem_append, fact_keys fa hp, fact_keys fb hp] at c
          have n2 : p ≠ 2 := fun z => c (.inl z)
          have := sign_far hp n2 (fun z => c (.inr (.inl (mod_abs z)))) (fun z => c (.inr (.inr (mod_abs z)))) h2
          exact absurd this (by decide)
end Sf

namespace Sf
open PySem PySem.Spec PyProof.Rows L2
section
variable {P : Program} {w : World} {A : Around} {E : Value → Shared → Prop} {s : Shared}
/-- a set that is just made -/
abbrev nso (w : World) : Obj := { cls := .type "set", dict := none, data := .set #[] 0 (.fresh 0 0 (!w.params.followText "set-order")) }
abbrev nsh (w : World) (s : Shared) : Heap := s.heap.push (nso w)
/-- the first half: the set's loop over a list of ints -/
theorem set_loop {l : Addr} {its : Array Value} (ns : List Int) (hh : A.handled = none) (hl : s.heap.IsList l its) (hi : IntsAre its.toList ns) (hb : ns.length + 1 < scanBound)
    {R : Result → Shared → Prop} (hR : ∀ (h' : Heap) (tk c : Nat), SetR w h' s.heap.objs.size (fun j => decide (j ∈ ns)) c → c ≤ ns.length → (∀ b o, s.heap.get? b = some o → h'.get? b = some o) → R (.ok (.ret .none)) { s with heap := h', toks := tk }) :
    codeAny (model P w) A (.builtin "set.update.loop" ⟨[.ref s.heap.objs.size, .ref (nsh w s).objs.size], []⟩) R { s with heap := (nsh w s).push { cls := .type "list_iterator", data := .fields #[.ref l, .int 0 0] } } := by
  have sz : its.size = ns.length := (Array.length_toList (xs := its)).symm.trans (IntsAre.length hi)
  obtain ⟨ol, ho, r⟩ := hl
  have lt : l < s.heap.objs.size := Heap.lt_size ho
  have e1 : (nsh w s).objs.size = s.heap.objs.size + 1 := Heap.size_push ..
  have n1 : l ≠ (nsh w s).objs.size := by rw [e1]; exact Nat.ne_of_lt (Nat.lt_succ_of_lt lt)
  have n2 : ¬ s.heap.objs.size ∈ [(nsh w s).objs.size, l] := by
    rw [e1]
    intro z
    rcases List.mem_cons.mp z with z | z
    · exact absurd z (Nat.ne_of_lt (Nat.lt_succ_self _))
    · exact absurd (List.mem_singleton.mp z) (Nat.ne_of_gt lt)
  have isl : (nsh w s).IsList l its := ⟨ol, Heap.get?_push_of_some _ ho, r⟩
  have hA : A.in1.handled = none := by simp [hh]
  refine set_update_ints ((Walks.list hA _ l n1 its).toS) s.heap.objs.size n2 ns sz hb (fun i v hv => ?_) (its.size - 0) 0 _ rfl (Nat.zero_le _) ⟨⟨_, Heap.get?_push_size _ rfl, rfl, rfl⟩, isl.push _⟩ ?_ fun t c hm hc hS => ?_
  · have hlt : i < ns.length := sz ▸ (Array.getElem?_eq_some_iff.mp hv).1
    obtain ⟨t, e⟩ := IntsAre.int_at hi i v (by rw [Array.getElem?_toList]; exact hv)
    exact ⟨ns[i], t, List.getElem?_eq_getElem hlt, by rw [e, List.getD_eq_getElem?_getD, List.getElem?_eq_getElem hlt] <;> rfl⟩
  · refine ⟨0, Nat.le_refl 0, setR_new_at ?_⟩
    exact Heap.get?_push_of_some _ (Heap.get?_push_size _ rfl)
  · obtain ⟨h', g', d', t', o'⟩ := t
    cases (show g' = s.gens from hm.gens)
    cases (show d' = s.drawn from hm.drawn)
    cases (show o' = s.os from hm.os)
    refine hR h' t' c hS (sz ▸ hc) fun b o e => ?_
    have hb0 : b < s.heap.objs.size := Heap.lt_size e
    refine hm.heap b o (fun z => ?_) (Heap.get?_push_of_some _ (Heap.get?_push_of_some _ e))
    rcases List.mem_cons.mp z with z | z
    · exact absurd z (Nat.ne_of_lt hb0)
    · exact absurd ((List.mem_singleton.mp z).trans e1) (Nat.ne_of_lt (Nat.lt_succ_of_lt hb0))
set_option maxHeartbeats 8000000 in
theorem set_init {l : Addr} {its : Array Value} (ns : List Int) (hh : A.handled = none) (hl : s.heap.IsList l its) (hi : IntsAre its.toList ns) (hb : ns.length + 1 < scanBound) :
    codeAny (model P w) A (.call (.builtin "set.__init__") ⟨[.ref s.heap.objs.size, .ref l], []⟩) (wants (fun r t => r = .none ∧ ∃ h' tk c, t = { s with heap := h', toks := tk } ∧ SetR w h' s.heap.objs.size (fun j => decide (j ∈ ns)) c ∧ c ≤ ns.length ∧
      (∀ b o, s.heap.get? b = some o → h'.get? b = some o)) E) { s with heap := nsh w s } := by
  have hS : (nsh w s).get? s.heap.objs.size = some (nso w) := Heap.get?_push_size _ rfl
  have hT : Shared.TypeIs { s with heap := nsh w s } (.ref s.heap.objs.size) "set" := ⟨_, hS, rfl⟩
  refine codeAny_call_builtin F.called_set.init.plain F.entry_set_init (check_set_init_1 hT ?_)
  obtain ⟨⟨oc, odct, odat, osl⟩, ho, hc, n0, hd⟩ := hl
  cases hc
  cases hd
  have ho' : (nsh w s).get? l = some { cls := .type "list", dict := odct, data := .seq its n0, slots := osl } := Heap.get?_push_of_some _ ho
  have isl : (nsh w s).IsList l its := ⟨_, ho', rfl, n0, rfl⟩
  have g1 := F.sub_list_set
  have g2 := F.sub_list_frozenset
  have g3 : (Value.type "list" == Value.type "dict") = false := by decide
  unfold Builtin.«set.__init__» noKeywords Builtin.Frozenset.updateFrom
  generalize hPI : pyIter = it
  wp_walk
  subst hPI
  refine wpAny_pyIter_list isl ?_
  refine wpAny_bind (wpAny_runValue (set_loop (A := A.in1) ns (by simp [hh]) ⟨_, ho, rfl, n0, rfl⟩ hi hb fun h' tk c a b k => ?_))
  exact wpAny_pure (wpAny_pure ⟨rfl, h', tk, c, rfl, a, b, k⟩)
end
end Sf
namespace Sf
open PySem PySem.Spec PyProof.Rows L2
section
variable {P : Program} {w : World} {A : Around} {E : Value → Shared → Prop} {s : Shared}
set_option maxHeartbeats 8000000 in
theorem set_call {l : Addr} {its : Array Value} (ns : List Int) {Q : Value → Shared → Prop} (hh : A.handled = none) (hl : s.heap.IsList l its) (hi : IntsAre its.toList ns) (hb : ns.length + 1 < scanBound)
    (h : ∀ (h' : Heap) (tk c : Nat), SetR w h' s.heap.objs.size (fun j => decide (j ∈ ns)) c → c ≤ ns.length → (∀ b o, s.heap.get? b = some o → h'.get? b = some o) → Q (.ref s.heap.objs.size) { s with heap := h', toks := tk }) :
    wpAny (model P w) A (call (.type "set") [.ref l]) Q E s := by
  obtain ⟨c, tl, g0⟩ := F.called_set.mro
  have g1 := F.called_set.made
  have g2 := F.called_set.sub
  have g3 := F.called_set.notType
  have g4 := F.called_set.canCreate
  have g5 := F.typeCall_set_1 (.ref l)
  have g6 := F.called_set.init.lookup
  refine wpAny_call (codeAny_of_tree ?_)
  show wpAny _ _ (callAny (.type "set") _) _ _ _
  refine wpAny_pure ⟨Code.quiet_builtin _ (by decide +kernel), codeAny_builtin F.entry_type_call ?_⟩
  rw [Around.under_plain (weight_type_call_type "set" [.ref l] []) rfl]
  repeat (any_goals (first | assumption | wp_step))
  refine codeAny_mono (code_set_led1 (.ref l) (E := E) (Q₁ := fun ob t => ob = .ref s.heap.objs.size ∧ t = { s with heap := nsh w s }) ⟨rfl, rfl⟩) fun r t hr => ?_
  cases r with
  | error e => exact hr
  | ok fl =>
    cases fl with
    | ret ob =>
      obtain ⟨rfl, rfl⟩ := hr
      have hT : Shared.TypeIs { s with heap := nsh w s } (.ref s.heap.objs.size) "set" := ⟨_, Heap.get?_push_size _ rfl, rfl⟩
      have g7 := F.called_set.init.bind (.ref s.heap.objs.size)
      repeat (any_goals (first | assumption | wp_step))
      refine codeAny_mono (set_init (E := E) ns (by simp [hh]) hl hi hb) fun r t hr => ?_
      cases r with
      | error e => exact hr
      | ok fl =>
        cases fl with
        | ret v =>
          obtain ⟨rfl, h', tk, c', rfl, a1, a2, a3⟩ := hr
          repeat (any_goals (first | assumption | wp_step))
          exact h _ _ _ a1 a2 a3
        | _ => exact hr.elim
    | _ => exact hr.elim
end
section
variable {X : Cx} {e : Expr} {es : List Expr} {te : TE} {t : TA} {p : Pos}
/-- set(xs), xs a list of ints -/
def rSetL (K : PySem.W.Frag) (w : World) : List V → Hp → VK → Prop := fun xs H Q => ∃ (a : Addr) (ns : List Int), xs = [.ref a] ∧ SqL K H a (ns.map V.int) ∧ ns.length ≤ 1000 ∧ ∀ (q : Addr) (n : Nat), n ≤ ns.length → H q = none → Q (.ref q) (upd H q (SetO w q (fun j => decide (j ∈ ns)) n))
theorem cr_setL (hc : X.calm = true) : CallR X (.type "set") (rSetL X.K X.w) := by
  intro pins s σ H xs us Q I r h
  obtain ⟨a, ns, rfl, hs, hz, q⟩ := h
  obtain ⟨its, rv, pl, _⟩ := I.list hs
  rw [Vals.ref1 r]
  refine set_call ns (I.ok.hd hc) pl.isList (by simpa using rv.ints) (by unfold scanBound; omega) fun h' tk c R hcn k => ?_
  exact ⟨.ref _, upd H s.heap.objs.size (SetO X.w s.heap.objs.size (fun j => decide (j ∈ ns)) c), I.laid (t' := tk) k (Nat.le_refl _) (setO_new R), rfl, q _ c hcn (I.hok.fresh (Nat.le_refl _))⟩
/-- *d in a display, d a dict -/
theorem star_dict {pins : List (Addr × Obj)} {σ : L2.St} {H : Hp} {s : Shared} {a : Addr} {kvs : List (Key × V)} {E : Value → Shared → Prop} {Q : List Value → Shared → Prop} (hc : X.calm = true) (I : Inv X pins σ H s) (h : Rd H a (.dK kvs))
    (hQ : ∀ us s', Inv X pins σ H s' → Vals (kvs.map fun kv => kV kv.1) us → Q us s') : PySem.W.StarOf (model X.prog X.w) X.A E (.ref a) Q s := by
  obtain ⟨z, lo, vs, rel, dd⟩ := dk_rd I.hok h
  obtain ⟨ep, hat⟩ := dd.dictAt
  have ek : (kvs.map fun kv => kV kv.1) = vs.map fun p => kV p.1 := by
    have e := congrArg (List.map kV) rel.keys
    rw [List.map_map, List.map_map] at e
    exact e
  have z : wpAny (model X.prog X.w) X.A (collect (.ref a)) Q E s := by
    refine PySem.W.kdu_collect (A := X.A) (PySem.W.kdl_dict (knd := mixKind X.prog X.w) (kvs := vs) (ep := ep) lo) (I.ok.hd hc) hat (by rw [← rel.length]; exact z) fun h' tk acc hk hacc => ?_
    refine hQ _ _ (I.kept (t' := tk) hk) ?_
    rw [ek]
    exact keys_at (by rw [Array.length_toList]; exact hacc.1) fun j v e => hacc.2 j v (by rw [← Array.getElem?_toList]; exact e)
  unfold PySem.W.StarOf notIterableAtAll
  exact wpAny_bind (wpAny_specialOf dd.typeIs PySem.F.slot_dict_iter.lookup (wpAny_pure ⟨rfl, z⟩))
def tStarD (te : TE) (t : TA) : TA := fun σ H Q => te σ H fun x H1 => ∃ p kvs, x = V.ref p ∧ Rd H1 p (.dK kvs) ∧ t σ H1 fun ys H2 => Q ((kvs.map fun kv => kV kv.1) ++ ys) H2
theorem pa_starD (hc : X.calm = true) (he : PE X e te) (hr : PA X es t) (hs : starEach (.Starred e p :: es) X.env = (true, eval e X.env) :: starEach es X.env := by rfl) : PA X (.Starred e p :: es) (tStarD te t) :=
  ⟨fun pos pins s σ H Q I h => PySem.W.items_star (thn (he.run pins s σ H _ I h) fun v s1 ⟨y, H1, I1, ry, a, kvs, ey, hx, q⟩ => by
    subst ey
    cases (show v = Value.ref a from ry)
    exact star_dict hc I1 hx fun us s2 I2 rv => thn (hr.run pos pins s2 σ H1 _ I2 q) fun ws s3 ⟨vs, H3, I3, r3, q3⟩ => ⟨_, H3, I3, rv.append r3, q3⟩) hs⟩
end
end Sf

namespace Sf
open PySem PySem.Spec PyProof.Rows L2
section
variable {P : Program} {w : World} {K : PySem.W.Frag} {mg : Str → Option Value} {base : Heap} {f : Addr} {fd : FuncData}
theorem keys_ints (l : List (Int × Nat)) : ((kvsF l).map fun kv => kV kv.1) = (l.map (·.1)).map V.int := by
  unfold kvsF
  rw [List.map_map, List.map_map]
  rfl
structure PlacesP (vs : List V) (H : Hp) (Q : VK) : Prop where
  ex : ∃ a b : Int, vs = [.int a, .int b] ∧ a ≠ 0 ∧ b ≠ 0 ∧ a.natAbs ≤ 1000000000 ∧ b.natAbs ≤ 1000000000 ∧ ∀ (l : List Int) (p : Addr) (H' : Hp), PlacesOf a b l → l.length ≤ 62 → Same H H' → H p = none → H' p = some (.tup (l.map V.int)) → Q (.ref p) H'
def spPlaces : Sp := fun vs H Q _ => PlacesP vs H Q
theorem ok_signed_places (F : FnD K "signed_places" "signed_places" s_P_signed_places f fd) (T : Glob mg) (C_P_check_number : Cal P w K mg base 2 "check_number" ["value"] spCheckNumber) (C_P_factors : Cal P w K mg base 3 "factors" ["number"] spFactors) (C_P_sign : Cal P w K mg base 4 "sign" ["a", "b", "place"] spSign) :
    FnOk P w K mg base CX0 5 f fd ["a", "b"] spPlaces := by
  refine F.ok sc_P_signed_places (fun vs H Q E h => ?_) (fun cdv A outer s H vs Q E hr h => ?_)
  · obtain ⟨a, b, rfl, _⟩ := h.ex; rfl
  · obtain ⟨a, b, rfl, a0, b0, a1, b1, q⟩ := h.ex
    have hu := hu_of hr
    refine ⟨_, PSs.nox (pss_cons (ps_expr (pe_cal C_P_check_number (hr.mono (by decide)) (pa_cons (pv 0) pa_nil)))
      (pss_cons (ps_expr (pe_cal C_P_check_number (hr.mono (by decide)) (pa_cons (pv 1) pa_nil)))
      (pss_cons (ps_set (i := 2) sc_P_signed_places.nd rfl (Or.inl rfl) (pe_callB (cr_sortedSet rfl) (by rfl) T.m_sorted (by decide +kernel) (pa_cons (pe_callTy (cr_setL rfl) (by rfl) T.m_set (by decide +kernel) (pa_cons (pe_lst (pa_cons pe_int (pa_starD rfl (pe_cal C_P_factors (hr.mono (by decide)) (pa_cons (pv 0) pa_nil)) (pa_starD rfl (pe_cal C_P_factors (hr.mono (by decide)) (pa_cons (pv 1) pa_nil)) pa_nil)))) pa_nil)) pa_nil)))
      (pss_one (ps_ret (pe_callTy call_tuple_of (by rfl) T.m_tuple (by decide +kernel) (pa_cons (pe_lc rfl sc_P_signed_places.nd (own := [("place", 3)]) (pi_list (pe_lst (pa_cons pe_int (StX.pa_star (pv 2) pa_nil)))) (blkOk_by (N := ["a", "b", "divisors", "place"]) (sc := defScope s_P_signed_places) (by decide +kernel)) (fun _ _ _ _ _ => pg_name (i := 3) sc_P_signed_places.nd rfl (Or.inl rfl)) (fun _ _ _ _ _ => pts_one (pt_cmp (pc_eqI (pe_cal C_P_sign (hr.mono (by decide)) (pa_cons (pv 0) (pa_cons (pv 1) (pa_cons (pv 3) pa_nil)))) (pe_un un_neg pe_int)))) (fun _ _ _ _ _ => (pv 3))) pa_nil))))))), ?_⟩
    refine ⟨_, rfl, a, rfl, a0, by omega, by omega, _, rfl, b, rfl, b0, by omega, by omega, ?_⟩
    refine ⟨_, rfl, a, rfl, a0, by omega, by omega, fun la da H1 fa e1 na hda => ⟨da, kvsF la, rfl, .inl hda, ?_⟩⟩
    refine ⟨_, rfl, b, rfl, b0, by omega, by omega, fun lb db H2 fb e2 nb hdb => ⟨db, kvsF lb, rfl, .inl hdb, ?_⟩⟩
    have A2 : absI a ≤ 1000000000 := by unfold absI; split <;> omega
    have B2 : absI b ≤ 1000000000 := by unfold absI; split <;> omega
    have hla := fact_len fa A2
    have hlb := fact_len fb B2
    generalize hns : (2 : Int) :: (la.map (·.1) ++ lb.map (·.1)) = ns
    have hlen : ns.length ≤ 61 := by
      rw [← hns, List.length_cons, List.length_append, List.length_map, List.length_map]
      omega
    have hitems : V.int 2 :: ((kvsF la).map (fun kv => kV kv.1) ++ ((kvsF lb).map (fun kv => kV kv.1) ++ [])) = ns.map V.int := by
      rw [← hns, keys_ints, keys_ints, List.append_nil, List.map_cons, List.map_append]
    refine ⟨?_, fun x hx => ?_⟩
    · show (V.int 2 :: ((kvsF la).map (fun kv => kV kv.1) ++ ((kvsF lb).map (fun kv => kV kv.1) ++ []))).length ≤ sizeLine
      rw [hitems, List.length_map]
      exact Nat.le_trans hlen (by decide)
    refine ⟨x, ns, rfl, SqL.of ?_, by omega, fun y n hn hy => ?_⟩
    · rw [upd_same, ← hitems]
    refine ⟨y, _, n, rfl, upd_same, by omega, fun D z hD hm hDl hz => ?_⟩
    have hP0 := places_of (D := D) a0 b0 fa fb hD (fun k => (hm k).trans (by rw [← hns]; exact decide_eq_true_iff))
    have eH : Same H (upd (upd (upd H2 x (.lst (V.int 2 :: ((kvsF la).map (fun kv => kV kv.1) ++ ((kvsF lb).map (fun kv => kV kv.1) ++ []))))) y (SetO w y (fun j => decide (j ∈ ns)) n)) z (.lst (D.map V.int))) :=
      (((e1.trans e2).trans (same_upd hx)).trans (same_upd hy)).trans (same_upd hz)
    refine ⟨_, rfl, z, _, rfl, .inr (SqL.of upd_same), ?_, fun c hc => ?_⟩
    · refine Nat.le_trans (?_ : _ ≤ 70) (by decide)
      show (V.int 0 :: (D.map V.int ++ [])).length ≤ 70
      rw [List.append_nil, List.length_cons, List.length_map]
      omega
    have eL : V.int 0 :: (D.map V.int ++ []) = (0 :: D).map V.int := by rw [List.append_nil]; rfl
    rw [eL]
    have eH2 := eH.trans (same_upd (o := .lst ((0 :: D).map V.int)) hc)
    refine ⟨c, rfl, ⟨_, SqL.of upd_same⟩, fun d hd => ?_⟩
    have hdH : H d = none := eH2.free hd
    have ncd : c ≠ d := fun z => by
      rw [← z, upd_same] at hd
      cases hd
    refine lc_list (K := K) (a := c) (xs := (0 :: D).map V.int) (fun i H' => Same H H' ∧ SqL K H' c ((0 :: D).map V.int) ∧ ∃ m : List Int, H' d = some (.lst (m.map V.int)) ∧ m.Sublist ((0 :: D).take i) ∧ ∀ k, k ∈ m ↔ k ∈ (0 :: D).take i ∧ HSign a b k (-1)) ⟨eH2.trans (same_upd hd), sq_upd (SqL.of upd_same) ncd, [], upd_same, List.Sublist.refl _, fun k => ⟨fun z => (by cases z), fun z => absurd z.1 (by simp)⟩⟩ (fun i H' _ hp => hp.2.1) (fun i v H' hv hp => ?_) (fun H' hp => ?_)
    · obtain ⟨e5, hL, m, hmd, msub, hmm⟩ := hp
      obtain ⟨k, hk, rfl⟩ : ∃ k, (0 :: D)[i]? = some k ∧ v = V.int k := by
        rw [List.getElem?_map] at hv
        cases e : (0 :: D)[i]? with
        | none => rw [e] at hv; cases hv
        | some z => rw [e] at hv; exact ⟨z, rfl, (Option.some.inj hv).symm⟩
      have kP := hP0.1 k (List.mem_of_getElem? hk)
      have kB : k ≤ 1000000000 := by
        rcases List.mem_cons.mp (List.mem_of_getElem? hk) with e | e
        · omega
        · have e := (hm k).mp e
          rw [decide_eq_true_iff, ← hns] at e
          rcases List.mem_cons.mp e with e | e
          · omega
          · rcases List.mem_append.mp e with e | e
            · obtain ⟨r, hr, rfl⟩ := List.mem_map.mp e
              have := prodF_mem fa.2.2 r hr
              rw [fa.1] at this
              omega
            · obtain ⟨r, hr, rfl⟩ := List.mem_map.mp e
              have := prodF_mem fb.2.2 r hr
              rw [fb.1] at this
              omega
      have et : (0 :: D).take (i + 1) = (0 :: D).take i ++ [k] := by rw [List.take_add_one, hk]; rfl
      refine ⟨rfl, ⟨_, rfl, _, rfl, _, rfl, ⟨a, b, k, rfl, a0, b0, a1, b1, kP.imp id fun z => ⟨z, kB⟩, fun r H6 hr e6 => ?_⟩⟩⟩
      refine ⟨1, rfl, _, _, rfl, rfl, _, rfl, ifd (fun h => ?_) (fun h => ?_)⟩
      · have h : r = -1 := h
        subst h
        refine ⟨_, rfl, m.map V.int, e6 _ _ hmd, ?_, ?_, sq_upd (e6.seq hL) ncd, m ++ [k], ?_, ?_, fun j => ?_⟩
        · rw [List.length_map]
          have := msub.length_le
          rw [List.length_take, List.length_cons] at this
          exact Nat.lt_of_le_of_lt (by omega : m.length ≤ 70) (by decide)
        · intro b' o e
          rw [upd_ne (ne_of_none e hdH)]
          exact e6 _ _ (e5 _ _ e)
        · rw [upd_same, List.map_append]; rfl
        · rw [et]
          exact msub.append (List.Sublist.refl _)
        · rw [et, List.mem_append, List.mem_append, hmm, List.mem_singleton]
          constructor
          · rintro (h | h)
            · exact ⟨.inl h.1, h.2⟩
            · exact ⟨.inr h, h ▸ hr⟩
          · rintro ⟨h | h, h2⟩
            · exact .inl ⟨h, h2⟩
            · exact .inr h
      · refine ⟨e5.trans e6, e6.seq hL, m, e6 _ _ hmd, ?_, fun j => ?_⟩
        · rw [et]
          exact msub.trans (List.sublist_append_left _ _)
        · rw [et, List.mem_append, hmm, List.mem_singleton]
          constructor
          · rintro h
            exact ⟨.inl h.1, h.2⟩
          · rintro ⟨h1 | h1, h2⟩
            · exact ⟨h1, h2⟩
            · subst h1
              exact absurd (hsign_unique kP hr h2) h
    · obtain ⟨e5, hL, m, hmd, msub, hmm⟩ := hp
      rw [List.length_map, List.take_length] at msub hmm
      refine ⟨d, m.map V.int, rfl, .inl ⟨SqL.of hmd, fun t ht => ?_⟩⟩
      have hl := hP0.2 msub hmm
      have ml := msub.length_le
      rw [List.length_cons] at ml
      exact q m t _ hl (by omega) (e5.trans (same_upd ht)) (e5.free ht) upd_same
end
end Sf

namespace Sf
open PySem PySem.Spec PyProof.Rows L2
section
variable {X : Cx} {CX : CXT} {n : Nat} {f C : Addr} {fd : FuncData} {ps : List Str} {sp : Sp} {E : XK} {op : Operator}
/-- no value of ours stands for "not implemented" -/
theorem cmpBack {v : V} {u : Value} {s : Shared} {Q : Value → Shared → Prop} (r : RelV v u) (q : Q u s) : PySem.W.CmpBack Q u s := by
  cases v with
  | non => cases (show u = Value.none from r); exact q
  | bl b => cases (show u = Value.bool b from r); exact q
  | int i => obtain ⟨t, rfl⟩ := (show ∃ t, u = Value.int i t from r); exact q
  | str x => obtain ⟨t, rfl⟩ := (show ∃ t, u = Value.str x t from r); exact q
  | byt b => obtain ⟨t, rfl⟩ := (show ∃ t, u = Value.bytes b t from r); exact q
  | flt b => obtain ⟨t, rfl⟩ := (show ∃ t, u = Value.float b t from r); exact q
  | ref a => cases (show u = Value.ref a from r); exact q
  | ty t => cases (show u = Value.type t from r); exact q
/-- an instance of the class at C -/
def Ins (H : Hp) (a C : Addr) : Prop := ∃ dx fs, H a = some (.ins C dx fs)
theorem ins_inst {pins : List (Addr × Obj)} {σ : L2.St} {H : Hp} {s : Shared} {a : Addr} (I : Inv X pins σ H s) (h : Ins H a C) : ∃ (ox : Obj) (od : Obj), PySem.W.InstAt s.heap a ox C (some od) := by
  obtain ⟨dx, fs, ea⟩ := h
  obtain ⟨mA, O, _⟩ := ins_get I.hok ea
  obtain ⟨od, J, _⟩ := O.look
  exact ⟨_, od, J⟩
/-- x op y, both of one own class that says what op is -/
def rOwn (C : Addr) (sp : Sp) (E : XK) : R2 := fun x y H Q => ∃ a b, x = .ref a ∧ y = .ref b ∧ Ins H a C ∧ Ins H b C ∧ sp [.ref a, .ref b] H Q E
theorem op_own (M : Meth X.K C (PySem.dunder op.info.2) f) (F : FnOk X.prog X.w X.K X.mg X.base CX n f fd ps sp) (hr : Room n X.A) (hb : Binds X.K fd ps []) (hx : Passes CX X E) (hc : PySem.W.selfFirst X.K C = true) : OpR X (binaryOp op) (rOwn C sp E) := by
  intro pins s σ H x y v u Q I rx ry h
  obtain ⟨a, b, rfl, rfl, ha, hb', q⟩ := h
  cases (show v = Value.ref a from rx)
  cases (show u = Value.ref b from ry)
  obtain ⟨ox, od, J⟩ := ins_inst I ha
  obtain ⟨oy, oe, J'⟩ := ins_inst I hb'
  obtain ⟨m, hF⟩ := I.fr
  refine PySem.W.binop_K hF I.ok.mod.kin J J'.type hc M.at_ M.fn (wpAny_mono (run_fn (us := [.ref a, .ref b]) (vs := [.ref a, .ref b]) F hr hb .nil hx I (.cons rfl (.cons rfl .nil)) q) (fun w s' h => ?_) fun _ _ z => z)
  obtain ⟨z, H', I', rz, qz⟩ := id h
  exact cmpBack rz h
/-- x op n, n an int -/
def rOwnI (C : Addr) (sp : Sp) (E : XK) : R2 := fun x y H Q => ∃ a i, x = .ref a ∧ y = .int i ∧ Ins H a C ∧ sp [.ref a, .int i] H Q E
theorem op_ownI {fo ro : Option Value} (M : Meth X.K C (PySem.dunder op.info.2) f) (F : FnOk X.prog X.w X.K X.mg X.base CX n f fd ps sp) (hr : Room n X.A) (hb : Binds X.K fd ps []) (hx : Passes CX X E) (hc : PySem.W.selfFirst X.K C = true)
    (nr : NoAttr X.K C (dunderR op.info.2)) (hsub : PySem.W.subIn X.K (.type "int") (.ref C) = some false) (h1 : PySem.W.findIn X.K (.type "int") (PySem.dunder op.info.2) = some fo) (h2 : PySem.W.findIn X.K (.type "int") (dunderR op.info.2) = some ro) :
    OpR X (binaryOp op) (rOwnI C sp E) := by
  intro pins s σ H x y v u Q I rx ry h
  obtain ⟨a, i, rfl, rfl, ha, q⟩ := h
  cases (show v = Value.ref a from rx)
  obtain ⟨t, rfl⟩ := (show ∃ t, u = Value.int i t from ry)
  obtain ⟨ox, od, J⟩ := ins_inst I ha
  obtain ⟨m, hF⟩ := I.fr
  refine PySem.W.ksp_binT (T := "int") hF I.ok.mod.kin J rfl hc M.at_ M.fn nr (.inl rfl) h1 h2 hsub (wpAny_mono (run_fn (us := [.ref a, .int i t]) (vs := [.ref a, .int i]) F hr hb .nil hx I (.cons rfl (.cons ⟨t, rfl⟩ .nil)) q) (fun w s' h => ?_) fun _ _ z => z)
  obtain ⟨z, H', I', rz, qz⟩ := id h
  exact cmpBack rz h
/-- -x -/
def rOwn1 (C : Addr) (sp : Sp) (E : XK) : V → Hp → VK → Prop := fun x H Q => ∃ a, x = .ref a ∧ Ins H a C ∧ sp [.ref a] H Q E
theorem un_own (M : Meth X.K C "__neg__" f) (F : FnOk X.prog X.w X.K X.mg X.base CX n f fd ps sp) (hr : Room n X.A) (hb : Binds X.K fd ps []) (hx : Passes CX X E) : UnR X (unaryOp .USub) (rOwn1 C sp E) := by
  intro pins s σ H x v Q I rx h
  obtain ⟨a, rfl, ha, q⟩ := h
  cases (show v = Value.ref a from rx)
  obtain ⟨ox, od, J⟩ := ins_inst I ha
  obtain ⟨m, hF⟩ := I.fr
  exact PySem.W.ksp_neg hF I.ok.mod.kin J M.at_ M.fn (run_fn (us := [.ref a]) (vs := [.ref a]) F hr hb .nil hx I (.cons rfl .nil) q)
/-- the truth of an own object -/
theorem tru_own (M : Meth X.K C "__bool__" f) (F : FnOk X.prog X.w X.K X.mg X.base CX n f fd ps sp) (hr : Room n X.A) (hb : Binds X.K fd ps []) (hx : Passes CX X E) :
    TruR X (fun x H Q => ∃ a, x = .ref a ∧ Ins H a C ∧ sp [.ref a] H (fun v H' => ∃ k, v = .bl k ∧ Q k H') E) := by
  intro pins s σ H x v Q I rx h
  obtain ⟨a, rfl, ha, q⟩ := h
  cases (show v = Value.ref a from rx)
  obtain ⟨ox, od, J⟩ := ins_inst I ha
  obtain ⟨m, hF⟩ := I.fr
  refine PySem.W.truthy_K hF I.ok.mod.kin J M.at_ M.fn (wpAny_mono (run_fn (us := [.ref a]) (vs := [.ref a]) F hr hb .nil hx I (.cons rfl .nil) q) (fun w s' h => ?_) fun _ _ z => z)
  obtain ⟨z, H', I', rz, k, rfl, qz⟩ := h
  cases (show w = Value.bool k from rz)
  exact ⟨H', I', qz⟩
/-- x == y by an own __eq__, y of the same class -/
theorem eq_own (M : Meth X.K C "__eq__" f) (F : FnOk X.prog X.w X.K X.mg X.base CX n f fd ps sp) (hr : Room n X.A) (hb : Binds X.K fd ps []) (hx : Passes CX X E) : OpR X (compareOp .Eq) (rOwn C sp E) := by
  intro pins s σ H x y v u Q I rx ry h
  obtain ⟨a, b, rfl, rfl, ha, hb', q⟩ := h
  cases (show v = Value.ref a from rx)
  cases (show u = Value.ref b from ry)
  obtain ⟨ox, od, J⟩ := ins_inst I ha
  obtain ⟨oy, oe, J'⟩ := ins_inst I hb'
  obtain ⟨m, hF⟩ := I.fr
  show wpAny (model X.prog X.w) X.A (richCompare .Eq _ _) (EP X pins σ Q) X.xe s
  refine PySem.W.cmp_K (op := .Eq) (tb := .ref C) hr.units0 hF I.ok.mod.kin J J'.type (by simp [PySem.W.notFirst]) M.at_ M.fn (wpAny_mono (run_fn (us := [.ref a, .ref b]) (vs := [.ref a, .ref b]) F hr hb .nil hx I (.cons rfl (.cons rfl .nil)) q) (fun w s' h => ?_) fun _ _ z => z)
  obtain ⟨z, H', I', rz, qz⟩ := id h
  exact cmpBack rz h
/-- x == n by an own __eq__, n an int -/
theorem eq_ownI (M : Meth X.K C "__eq__" f) (F : FnOk X.prog X.w X.K X.mg X.base CX n f fd ps sp) (hr : Room n X.A) (hb : Binds X.K fd ps []) (hx : Passes CX X E) (hsub : PySem.W.subIn X.K (.type "int") (.ref C) = some false) : OpR X (compareOp .Eq) (rOwnI C sp E) := by
  intro pins s σ H x y v u Q I rx ry h
  obtain ⟨a, i, rfl, rfl, ha, q⟩ := h
  cases (show v = Value.ref a from rx)
  obtain ⟨t, rfl⟩ := (show ∃ t, u = Value.int i t from ry)
  obtain ⟨ox, od, J⟩ := ins_inst I ha
  obtain ⟨m, hF⟩ := I.fr
  show wpAny (model X.prog X.w) X.A (richCompare .Eq _ _) (EP X pins σ Q) X.xe s
  refine PySem.W.cmp_K (op := .Eq) (tb := .type "int") hr.units0 hF I.ok.mod.kin J (PySem.W.Looks.of_pure rfl) (by unfold PySem.W.notFirst; rw [hsub]; simp) M.at_ M.fn (wpAny_mono (run_fn (us := [.ref a, .int i t]) (vs := [.ref a, .int i]) F hr hb .nil hx I (.cons rfl (.cons ⟨t, rfl⟩ .nil)) q) (fun w s' h => ?_) fun _ _ z => z)
  obtain ⟨z, H', I', rz, qz⟩ := id h
  exact cmpBack rz h
/-- a def called somewhere below the running body -/
theorem run_sub {A : Around} {pins : List (Addr × Obj)} {σ : L2.St} {H : Hp} {s : Shared} {Q : VK} {us : List Value} {vs : List V} (F : FnOk X.prog X.w X.K X.mg X.base CX n f fd ps sp) (sb : Sub X n A) (hb : Binds X.K fd ps []) (hx : Passes CX X E)
    (I : Inv X pins σ H s) (r : Vals vs us) (h : sp vs H Q E) : wpAny (model X.prog X.w) A (call (.ref f) us) (EP X pins σ Q) X.xe s := by
  have e0 : Env0 X.prog X.w X.K X.mg X.base A X.stack s H := by
    have e := I.env0
    exact ⟨by rw [sb.fr]; exact e.frames, e.mod, e.bs, e.bsz, e.funs, e.frf, e.hok, e.bare⟩
  have hl : us.length = ps.length := by rw [← r.length]; exact F.len _ _ _ _ h
  refine wpAny_call (codeAny_mono (F.run A X.stack s H ⟨us, []⟩ us vs Q E sb.room e0 (by
    have := hb s us I.kIn (by rw [List.append_nil]; exact hl)
    rw [List.append_nil] at this
    exact this) r h) fun r s' hq => ?_)
  cases r with
  | error e => exact hx pins σ H s e s' I hq
  | ok fl =>
    cases fl with
    | ret u => exact I.after hq
    | next => exact False.elim hq
    | brk => exact False.elim hq
    | cont => exact False.elim hq
section
variable {K : PySem.W.Frag} {s : Shared} {x : Addr} {ox : Obj} {od : Option Obj} {name : Str} {id : String} {A : Around} {Ee : Value → Shared → Prop}
theorem ifBound_B {M : Model} {args : List Value} {Q : Option Value → Shared → Prop} (Y : K.In s.heap) (I : PySem.W.InstAt s.heap x ox C od) (hs : PySem.W.findIn K (.ref C) name = some (some (.builtin id)))
    (hb : ∀ self, bindSpecial (.builtin id) self = pure (.builtin id, [self])) (h : wpAny M A (call (.builtin id) (.ref x :: args)) (fun v => Q (some v)) Ee s) : wpAny M A (callSpecialIfBound? (.ref x) name args) Q Ee s := by
  simp only [callSpecialIfBound?, bindSpecialIfBound?]
  refine wpAny_holding (wpAny_bind (wpAny_bind (wpAny_bind (I.type.here ((PySem.W.looks_findIn Y hs).here ?_)))))
  have z : wpAny M A (call (.builtin id) ([.ref x] ++ args) >>= fun v => pure (some v)) Q Ee s := wpAny_bind (wpAny_mono h (fun _ _ w => wpAny_pure w) fun _ _ w => w)
  refine wpAny_bind (wpAny_askSetting (wpAny_ite ?_))
  split
  · exact wpAny_bind ((PySem.W.Looks.of_pure (hb _)).here (wpAny_pure (by exact z)))
  · exact wpAny_tryCatch (wpAny_bind ((PySem.W.Looks.of_pure (hb _)).here (wpAny_pure (by exact z))))
end
/-- x != y: object.__ne__ asks the own __eq__ -/
theorem ne_own_core {a : Addr} {b : V} {bu tb : Value} {pins : List (Addr × Obj)} {σ : L2.St} {H : Hp} {s : Shared} {Q : VK} (M : Meth X.K C "__eq__" f) (F : FnOk X.prog X.w X.K X.mg X.base CX n f fd ps sp) (hr : Room (n + 1) X.A) (hb : Binds X.K fd ps []) (hx : Passes CX X E)
    (hn : PySem.W.findIn X.K (.ref C) "__ne__" = some (some (.builtin "object.__ne__"))) (hm : PySem.W.mroIn X.K C (.type "object") = some true) (I : Inv X pins σ H s) (ha : Ins H a C) (rb : RelV b bu)
    (hT : PySem.W.Looks (model X.prog X.w) s.heap (typeOf bu) tb) (hF : PySem.W.notFirst X.K C tb = true)
    (q : sp [.ref a, b] H (fun v H' => ∃ k, v = .bl k ∧ Q (.bl (!k)) H') E) : wpAny (model X.prog X.w) X.A (richCompare .NotEq (.ref a) bu) (EP X pins σ Q) X.xe s := by
  obtain ⟨ox, od, J⟩ := ins_inst I ha
  have Y := I.kIn
  have one : wpAny (model X.prog X.w) X.A (tryCompare (.ref a) "__ne__" bu) (fun r s' => ∃ k : Bool, r = some (Value.bool k) ∧ EP X pins σ Q (.bool k) s') X.xe s := by
    unfold tryCompare
    refine wpAny_bind (ifBound_B Y J hn PySem.F.cmp_object.ne.bind ?_)
    refine wpAny_call (codeAny_call_builtin PySem.F.cmp_object.ne.plain PySem.F.cmpEntry_ne (PySem.W.check_slot (i := "object.__ne__") (owner := "object") (n := "__ne__") PySem.F.cmpKind_ne PySem.F.cmpSplit_ne (J.type.andThen (PySem.W.looks_mroIn Y hm)) (PySem.F.cmpArgs_ne _ _) ?_))
    unfold Builtin.«object.__ne__»
    refine wpAny_bind (m := slotArgs "__ne__" 1 _) (wpAny_pure ?_)
    refine wpAny_bind (m := cRoomFor _ _) (wpAny_cRoomFor hr.in1.units0 ?_)
    refine wpAny_bind (m := callSpecialIfBound? (.ref a) (Str.ofString "__eq__") _) (PySem.W.ifBound_K Y J M.at_ M.fn (wpAny_mono (run_sub (us := [.ref a, bu]) (vs := [.ref a, b]) F (Sub.in1 ⟨hr, rfl⟩) hb hx I (.cons rfl (.cons rb .nil)) q) (fun w s' h => ?_) fun _ _ z => z))
    obtain ⟨z, H', I', rz, k, rfl, qz⟩ := h
    cases (show w = Value.bool k from rz)
    refine wpAny_bind (m := truthy (.bool _)) (wpAny_truthy_bool ?_)
    refine wpAny_pure ?_
    exact wpAny_pure ⟨!k, rfl, .bl (!k), H', I', rfl, qz⟩
  unfold richCompare
  simp only [oneThing_ref]
  refine wpAny_holding (wpAny_bind (wpAny_cRoomFor hr.units0 ?_))
  refine wpAny_bind (J.type.here (wpAny_bind (hT.here ?_)))
  have fin : ∀ (r : Option Value) (s' : Shared), (∃ k : Bool, r = some (Value.bool k) ∧ EP X pins σ Q (.bool k) s') → ∃ v, r = some v ∧ EP X pins σ Q v s' := fun r s' ⟨k, e, h⟩ => ⟨_, e, h⟩
  split
  · rename_i c
    have e : PySem.W.subIn X.K tb (.ref C) = some false := by
      rcases Bool.or_eq_true_iff.mp hF with e | e
      · rw [beq_iff_eq.mp e] at c; simp at c
      · exact beq_iff_eq.mp e
    refine wpAny_bind ((PySem.W.looks_subIn Y e).here ?_)
    simp only [Bool.false_eq_true, if_false]
    refine wpAny_bind (wpAny_mono one (fun r s' z => ?_) fun _ _ e => e)
    obtain ⟨v, rfl, hq⟩ := fin r s' z
    exact wpAny_pure hq
  · refine wpAny_bind (wpAny_pure ?_)
    simp only [Bool.false_eq_true, if_false]
    refine wpAny_bind (wpAny_mono one (fun r s' z => ?_) fun _ _ e => e)
    obtain ⟨v, rfl, hq⟩ := fin r s' z
    exact wpAny_pure hq
/-- x != y, both of one own class -/
def rOwnNe (C : Addr) (sp : Sp) (E : XK) : R2 := fun x y H Q => ∃ a b, x = .ref a ∧ y = .ref b ∧ Ins H a C ∧ Ins H b C ∧ sp [.ref a, .ref b] H (fun v H' => ∃ k, v = .bl k ∧ Q (.bl (!k)) H') E
theorem ne_own (M : Meth X.K C "__eq__" f) (F : FnOk X.prog X.w X.K X.mg X.base CX n f fd ps sp) (hr : Room (n + 1) X.A) (hb : Binds X.K fd ps []) (hx : Passes CX X E)
    (hn : PySem.W.findIn X.K (.ref C) "__ne__" = some (some (.builtin "object.__ne__"))) (hm : PySem.W.mroIn X.K C (.type "object") = some true) : OpR X (compareOp .NotEq) (rOwnNe C sp E) := by
  intro pins s σ H x y v u Q I rx ry h
  obtain ⟨a, b, rfl, rfl, ha, hb', q⟩ := h
  cases (show v = Value.ref a from rx)
  obtain ⟨oy, oe, J'⟩ := ins_inst I hb'
  cases (show u = Value.ref b from ry)
  exact ne_own_core (b := .ref b) M F hr hb hx hn hm I ha rfl J'.type (by simp [PySem.W.notFirst]) q
/-- x != n, n an int -/
def rOwnNeI (C : Addr) (sp : Sp) (E : XK) : R2 := fun x y H Q => ∃ a i, x = .ref a ∧ y = .int i ∧ Ins H a C ∧ sp [.ref a, .int i] H (fun v H' => ∃ k, v = .bl k ∧ Q (.bl (!k)) H') E
theorem ne_ownI (M : Meth X.K C "__eq__" f) (F : FnOk X.prog X.w X.K X.mg X.base CX n f fd ps sp) (hr : Room (n + 1) X.A) (hb : Binds X.K fd ps []) (hx : Passes CX X E)
    (hn : PySem.W.findIn X.K (.ref C) "__ne__" = some (some (.builtin "object.__ne__"))) (hm : PySem.W.mroIn X.K C (.type "object") = some true) (hsub : PySem.W.subIn X.K (.type "int") (.ref C) = some false) : OpR X (compareOp .NotEq) (rOwnNeI C sp E) := by
  intro pins s σ H x y v u Q I rx ry h
  obtain ⟨a, i, rfl, rfl, ha, q⟩ := h
  cases (show v = Value.ref a from rx)
  obtain ⟨t, rfl⟩ := (show ∃ t, u = Value.int i t from ry)
  exact ne_own_core (b := .int i) M F hr hb hx hn hm I ha ⟨t, rfl⟩ (PySem.W.Looks.of_pure rfl) (by unfold PySem.W.notFirst; rw [hsub]; simp) q
/-- bool(x), x of an own class -/
theorem bool_own (M : Meth X.K C "__bool__" f) (F : FnOk X.prog X.w X.K X.mg X.base CX n f fd ps sp) (hr : Room (n + 3) X.A) (hb : Binds X.K fd ps []) (hx : Passes CX X E) :
    CallR X (.type "bool") (fun xs H Q => ∃ a, xs = [.ref a] ∧ Ins H a C ∧ sp [.ref a] H (fun v H' => ∃ k, v = .bl k ∧ Q v H') E) := by
  intro pins s σ H xs us Q I r h
  obtain ⟨a, rfl, ha, q⟩ := h
  rw [Vals.ref1 r]
  obtain ⟨ox, od, J⟩ := ins_inst I ha
  obtain ⟨m, hF⟩ := I.fr
  refine callType_codes (T := "bool") (Bi := Builtin.«object.__init__») (Q₁ := fun r t => ∃ k : Bool, r = .bool k ∧ EP X pins σ Q r t) PySem.F.called_bool (PySem.F.typeCall_bool_1 _) PySem.F.entry_object_init ?_ ?_
  · refine codeAny_of_tree ?_
    show wpAny _ X.A.in1.in1 (checkBuiltinCall "bool.__new__" ⟨[.type "bool", .ref a], []⟩ >>= fun _ => again (.builtin "bool.__new__" ⟨[.type "bool", .ref a], []⟩)) _ _ s
    refine wpAny_bind (wpAny_of_eq (PySem.F.newCall_bool_1 _) (wpAny_pure ⟨plainId_quiet (by decide +kernel) _, codeAny_builtin PySem.F.entry_bool_new ?_⟩))
    rw [Around.under_plainId (by decide +kernel) _]
    have key : wpAny (model X.prog X.w) X.A.in1.in1 (truthy (.ref a)) (fun k t => EP X pins σ Q (.bool k) t) X.xe s := by
      refine PySem.W.truthy_K hF I.ok.mod.kin J M.at_ M.fn (wpAny_mono (run_sub (us := [.ref a]) (vs := [.ref a]) F (Sub.in1 (Sub.in1 ⟨hr.mono (by omega), rfl⟩)) hb hx I (.cons rfl .nil) q) (fun w s' h => ?_) fun _ _ z => z)
      obtain ⟨z, H', I', rz, k, rfl, qz⟩ := h
      cases (show w = Value.bool k from rz)
      exact ⟨.bl k, H', I', rfl, qz⟩
    have f1 := PySem.F.conv_sub_bool
    unfold Builtin.«bool.__new__»
    generalize hTR : truthy = TR at key ⊢
    wp_walk
    refine wpAny_mono key (fun k t h => ?_) fun _ _ z => z
    exact wpAny_pure ⟨k, rfl, h⟩
  · rintro obj t ⟨k, rfl, h⟩
    exact ⟨PySem.typeIs_bool _ _, PySem.F.args_object_init_2 _ _, object_init_meets PySem.F.called_bool.init.lookup PySem.F.called_bool.made (by decide) X.prog X.w X.A.in1 _ t ⟨PySem.typeIs_bool _ _, rfl, h⟩⟩
/-- str(x), x of an own class -/
theorem str_own (M : Meth X.K C "__str__" f) (F : FnOk X.prog X.w X.K X.mg X.base CX n f fd ps sp) (hr : Room (n + 3) X.A) (hb : Binds X.K fd ps []) (hx : Passes CX X E) :
    CallR X (.type "str") (fun xs H Q => ∃ a, xs = [.ref a] ∧ Ins H a C ∧ sp [.ref a] H (fun v H' => ∃ k, v = .str k ∧ Q v H') E) := by
  intro pins s σ H xs us Q I r h
  obtain ⟨a, rfl, ha, q⟩ := h
  rw [Vals.ref1 r]
  obtain ⟨ox, od, J⟩ := ins_inst I ha
  have Y := I.kIn
  refine callType_codes (T := "str") (Bi := Builtin.«object.__init__») (Q₁ := fun r t => ∃ y u, r = .str y u ∧ EP X pins σ Q r t) PySem.F.called_str (PySem.F.typeCall_str_1 _) PySem.F.entry_object_init ?_ ?_
  · refine codeAny_of_tree ?_
    show wpAny _ X.A.in1.in1 (checkBuiltinCall "str.__new__" ⟨[.type "str", .ref a], []⟩ >>= fun _ => again (.builtin "str.__new__" ⟨[.type "str", .ref a], []⟩)) _ _ s
    refine wpAny_bind (wpAny_of_eq (PySem.F.newCall_str_1 _) (wpAny_pure ⟨plainId_quiet (by decide +kernel) _, codeAny_builtin PySem.F.entry_str_new ?_⟩))
    rw [Around.under_plainId (by decide +kernel) _]
    have key : wpAny (model X.prog X.w) X.A.in1.in1 (PySem.Builtin.Str.strOf (.ref a)) (fun v t => ∃ y u, v = Value.str y u ∧ EP X pins σ Q v t) X.xe s := by
      unfold PySem.Builtin.Str.strOf
      rw [show PySem.Builtin.Str.isExactStr (.ref a) = false from rfl]
      refine wpAny_bind (m := cRoomFor _ _) (wpAny_cRoomFor hr.in1.in1.units0 ?_)
      refine wpAny_bind (m := callSpecial? (.ref a) (Str.ofString "__str__")) (PySem.W.special_fn Y J M.at_ (beq_iff_eq.mp M.fn) (wpAny_mono (run_sub (us := [.ref a]) (vs := [.ref a]) F (Sub.in1 (Sub.in1 ⟨hr.mono (by omega), rfl⟩)) hb hx I (.cons rfl .nil) q) (fun w s' h => ?_) fun _ _ z => z))
      obtain ⟨z, H', I', rz, k, rfl, qz⟩ := h
      obtain ⟨u, rfl⟩ := (show ∃ t, w = Value.str k t from rz)
      exact wpAny_pure ⟨k, u, rfl, .str k, H', I', ⟨u, rfl⟩, qz⟩
    have f1 : isSubtype (.type "str") (.type "str") = pure true := isSubtype_str_str
    unfold Builtin.«str.__new__»
    generalize hTR : PySem.Builtin.Str.strOf = TR at key ⊢
    wp_walk
    refine wpAny_mono key (fun v t h => ?_) fun _ _ z => z
    obtain ⟨y, u, rfl, h⟩ := h
    exact wpAny_pure ⟨y, u, rfl, h⟩
  · rintro obj t ⟨y, u, rfl, h⟩
    exact ⟨PySem.typeIs_str _ _ _, PySem.F.args_object_init_2 _ _, object_init_meets PySem.F.called_str.init.lookup PySem.F.called_str.made (by decide) X.prog X.w X.A.in1 _ t ⟨PySem.typeIs_str _ _ _, rfl, h⟩⟩
end
end Sf

namespace Sf
open PySem PySem.Spec PyProof.Rows L2
section
variable {X : Cx} {o : Expr} {f : Str} {pos : Pos} {to : TE}
/-- o.f = .. as a target -/
def gAttr (K : PySem.W.Frag) (to : TE) (f : Str) : TG := fun y σ H Q => to σ H fun x H1 => ∃ a C dx fs, x = .ref a ∧ H1 a = some (.ins C dx fs) ∧ Cls K C ∧ NoAttr K C f ∧ fs.length < 1000 ∧ Q σ (upd H1 a (.ins C dx (putF f y fs)))
theorem pg_attr (ho : PE X o to) : PG X (.Attribute o f pos) (gAttr X.K to f) := by
  refine ⟨fun pins s σ H v u Q I r h => ?_⟩
  rw [arm_assign_Attribute]
  refine wpAny_bind (wpAny_holding (thn (ho.run pins s σ H _ I h) fun ov s1 ⟨x, H1, I1, r1, a, C, dx, fs, ex, ea, c, nn, l, q⟩ => ?_))
  subst ex
  cases (show ov = Value.ref a from r1)
  refine wpAny_bind (wpAny_standAt (wpAny_bind (wpAny_holding (setattr_ok I1 ea c nn l r fun s2 I2 => ?_))))
  exact wpAny_release ⟨σ, _, I2, q⟩
end
end Sf

namespace Sf
open PySem PySem.Spec PyProof.Rows L2
section
variable {X : Cx}
def CDivZ (_ j : Int) : Prop := j ≠ 0 ∧ j.natAbs.log2 < 9000
/-- // by a divisor of any sign -/
theorem op_fdivZ : OpR X (binaryOp .FloorDiv) (rI CDivZ fun i j => .int (i.fdiv j)) := opI fun _ _ _ _ _ _ _ hc q => floordiv_int hc.1 q (.inl (PyProof.noPylong_of_log2 hc.2))
theorem CDivZ.of {i j : Int} (h : j ≠ 0) (hb : j.natAbs < 2 ^ 8000) : CDivZ i j := ⟨h, Nat.lt_of_lt_of_le ((Nat.log2_lt (by omega)).mpr hb) (by decide)⟩
theorem gcd_args5 (a b c d e : Value) : argsOk "math.gcd" ⟨[a, b, c, d, e], []⟩ := by unfold argsOk; kernel_rfl
theorem gcd_run5 (a b c d e : Int) (ta tb tc td te : Tok) : Gives (Builtin.«math.gcd» ⟨[.int a ta, .int b tb, .int c tc, .int d td, .int e te], []⟩) (.int ((((((Nat.gcd 0 a.natAbs).gcd b.natAbs).gcd c.natAbs).gcd d.natAbs).gcd e.natAbs : Nat) : Int)) :=
  .of_wp fun M A E s Q h => by
    obtain ⟨hp, g, d, tk, os⟩ := s
    wp_walk
    exact ⟨_, rfl, h⟩
/-- gcd of five integers -/
def rGcd5 : List V → Hp → VK → Prop := fun vs H Q => ∃ a b c d e : Int, vs = [.int a, .int b, .int c, .int d, .int e] ∧ Q (.int (((((a.natAbs.gcd b.natAbs).gcd c.natAbs).gcd d.natAbs).gcd e.natAbs : Nat) : Int)) H
theorem cr_gcd5 : CallR X (.builtin "math.gcd") rGcd5 := by
  intro pins s σ H xs us Q I r h
  obtain ⟨a, b, c, d, e, rfl, q⟩ := h
  cases r with
  | cons r1 r => cases r with
    | cons r2 r => cases r with
      | cons r3 r => cases r with
        | cons r4 r => cases r with
          | cons r5 r =>
            cases r
            obtain ⟨t1, rfl⟩ := r1
            obtain ⟨t2, rfl⟩ := r2
            obtain ⟨t3, rfl⟩ := r3
            obtain ⟨t4, rfl⟩ := r4
            obtain ⟨t5, rfl⟩ := r5
            have g := gcd_run5 a b c d e t1 t2 t3 t4 t5
            rw [Nat.gcd_zero_left] at g
            exact call_function_meets PySem.W.MGF.kind_gcd PySem.W.MGF.plain_gcd PySem.W.MGF.entry_gcd (gcd_args5 _ _ _ _ _) g.meets ⟨.int _, H, I.tok _, ⟨_, rfl⟩, q⟩
/-- x(e, ..), x a name of the module that holds a built-in function -/
theorem pe_callGB {r : List V → Hp → VK → Prop} {t : TA} {x : Str} {id : String} {e : Expr} {es : List Expr} {p pos : Pos} (hc : CallR X (.builtin id) r) (hg : Gl X x) (hm : X.mg x = some (.builtin id)) (ha : PA X (e :: es) t) (hdb : (x == ("__debug__" : Str)) = false := by decide)
    (he : starEach (e :: es) X.env = (false, eval e X.env) :: starEach es X.env := by rfl) (hpl : (backTo pos (starEach es X.env)).any (·.1) = false := by rfl) : PE X (.Call (.Name x p) (e :: es) [] pos) (tCB r t) := by
  refine ⟨fun pins s σ H Q I h => ?_⟩
  refine wpAny_Call_Name_kw (ld_glob I hg hm ?_ hdb)
  exact PyProof.Rows.callWith_builtin1 (thn (ha.run pos pins s σ H _ I h) fun us s1 ⟨vs, H1, I1, r1, q1⟩ => hc pins s1 σ H1 vs us Q I1 r1 q1) he hpl
end
end Sf

namespace Sf
open PySem PySem.Spec PyProof.Rows L2
/-- an own class, ready to be called with so many arguments; ds fills up -/
structure CalC (P : Program) (w : World) (K : PySem.W.Frag) (mg : Str → Option Value) (base : Heap) (k : Nat) (x : Str) (C : Addr) (ps : List Str) (ds : List V) (sp : Sp) where
  f : Addr
  fd : FuncData
  us : List Value
  ok : FnOk P w K mg base CX0 k f fd ps sp
  mkr : Mk K C f
  g : mg x = some (.ref C)
  b : Binds K fd ps us
  d : Vals ds us
/-- a method, ready to be called -/
structure CalM (P : Program) (w : World) (K : PySem.W.Frag) (mg : Str → Option Value) (base : Heap) (k : Nat) (m : Str) (C : Addr) (ps : List Str) (sp : Sp) where
  f : Addr
  fd : FuncData
  ok : FnOk P w K mg base CX0 k f fd ps sp
  me : Meth K C m f
  b : Binds K fd ps []
theorem _root_.L2.Meth.cast {K : PySem.W.Frag} {C f : Addr} {m m' : Str} (M : Meth K C m f) (e : m = m') : Meth K C m' f := e ▸ M
section
variable {X : Cx} {k : Nat} {x m : Str} {C : Addr} {ps : List Str} {ds : List V} {sp : Sp} {e o : Expr} {es : List Expr} {t : TA} {ta : TE} {p pos apos : Pos}
theorem pe_new (N : CalC X.prog X.w X.K X.mg X.base k x C ps ds sp) (hr : Room (k + 1) X.A) (ha : PA X (e :: es) t) (hg : Gl X x := by rfl) (hdb : (x == ("__debug__" : Str)) = false := by decide)
    (he : starEach (e :: es) X.env = (false, eval e X.env) :: starEach es X.env := by rfl) (hpl : (backTo pos (starEach es X.env)).any (·.1) = false := by rfl) :
    PE X (.Call (.Name x p) (e :: es) [] pos) (tMake C sp ds E0 t) :=
  pe_make N.mkr N.ok hr hg N.g N.b N.d pass0 ha hdb he hpl
end
/-- what the text says of a class whose objects are told by fields alone -/
structure OwnK (K : PySem.W.Frag) (C : Addr) : Prop where
  cls : Cls K C
  sf : PySem.W.selfFirst K C = true
  si : PySem.W.subIn K (.type "int") (.ref C) = some false
  ne : PySem.W.findIn K (.ref C) "__ne__" = some (some (.builtin "object.__ne__"))
  mo : PySem.W.mroIn K C (.type "object") = some true
  ca : PySem.W.findIn K (.ref C) "__class__" = some (some (.builtin "object.__class__"))
  cg : PySem.W.specialIn K (.builtin "object.__class__") "__get__" = some (some (.builtin "getset_descriptor.__get__"))
  ct : PySem.W.takesIn K (.builtin "object.__class__") = some true
  kk : PySem.W.kitOne K (.ref C) (.ref C) = some true
  ki : PySem.W.kitOne K (.type "int") (.ref C) = some false
theorem OwnK.ty {K : PySem.W.Frag} {C : Addr} {H : Hp} {a : Addr} (o : OwnK K C) (h : Ins H a C) : TyX K H (.ref a) (.ref C) := by
  obtain ⟨dx, fs, e⟩ := h
  exact .base (.ins e o.cls o.ca o.cg o.ct o.mo)
theorem ownB_ok {K : PySem.W.Frag} {x : Str} (c : Cls K (He.ga K x)) (h : ownB K x = true) : OwnK K (He.ga K x) := by
  obtain ⟨h1, h⟩ := He.ba h
  obtain ⟨h2, h⟩ := He.ba h
  obtain ⟨h3, h⟩ := He.ba h
  obtain ⟨h4, h⟩ := He.ba h
  obtain ⟨h5, h⟩ := He.ba h
  obtain ⟨h6, h⟩ := He.ba h
  obtain ⟨h7, h⟩ := He.ba h
  obtain ⟨h8, h9⟩ := He.ba h
  exact ⟨c, h1, of_decide_eq_true h2, He.eqO_ok h3, of_decide_eq_true h4, He.eqO_ok h5, He.eqO_ok h6, of_decide_eq_true h7, of_decide_eq_true h8, of_decide_eq_true h9⟩
/-- e.f where K is told from outside (within a comprehension) -/
theorem pe_fldK {X : Cx} {K : PySem.W.Frag} {e : Expr} {f : Str} {pos : Pos} {ta : TE} (hK : X.K = K) (he : PE X e ta) (hb : attributeBase e f X.env (eval e X.env) = eval e X.env) : PE X (.Attribute e f pos) (tFld K ta f) := hK ▸ pe_fld he hb
theorem pg_tupK {X : Cx} {K : PySem.W.Frag} {es : List Expr} {k : Nat} {t : TGs} {n : Nat} {pos : Pos} (hK : X.K = K) (hc : X.calm = true) (h : PGs X es t)
    (hn : (assignEach es X.env).length = n := by rfl) (hst : (assignEach es X.env).findIdx? (·.1) = none := by rfl) : PG X (.Tuple es k pos) (gTup K n t) := hK ▸ pg_tup hc h hn hst
theorem walk_zipT {K : PySem.W.Frag} {a b : Addr} {xs ys : List V} {n : Nat} (h1 : xs.length = n) (h2 : ys.length = n) : Walk (RZ.ItzT K a b) n (fun H => SqT K H a xs ∧ SqT K H b ys) (YPair (fun i => xs[i]?) (fun i => ys[i]?)) :=
  ⟨fun i H hi q => ⟨xs, ys, xs[i], ys[i], q.1, q.2, by simp, by simp⟩, fun H q => ⟨xs, ys, q.1, q.2, .inl (Nat.le_of_eq h1)⟩, fun i H x H' hi q y => by
    obtain ⟨T, u, v, e, hT, eH, g1, g2⟩ := y
    exact ⟨T, u, v, e, hT, eH, g1 xs q.1, g2 ys q.2⟩⟩
theorem ifnb {b : Bool} {A B : Prop} (h1 : b = false → A) (h2 : b = true → B) : if (!b) = true then A else B := by
  cases b with
  | false => exact h1 rfl
  | true => exact h2 rfl
end Sf

namespace Sf
open PySem PySem.Spec PyProof.Rows L2
/-! {(k, l): v, ..}: a display with tuples for keys -/
section
variable {X : Cx} {pins : List (Addr × Obj)} {σ : L2.St}
theorem d_setT {H : Hp} {s : Shared} {a b : Addr} {v : V} {r : Value} {kvs : List (List Key × V)} {k : List Key} {A : Around} {E : Value → Shared → Prop} {Q : Unit → Shared → Prop} (hu : A.units + 1 < cLine) (I : Inv X pins σ H s) (e : H a = some (.dT kvs)) (eb : H b = some (.tup (k.map kV))) (l : kvs.length < sizeLine) (rv : RelV v r)
    (h : ∀ s', Inv X pins σ (upd H a (.dT (putK kvs k v))) s' → Q () s') : wpAny (model X.prog X.w) A (dictSet a (.ref b) r) Q E s := by
  obtain ⟨z, hd, xs, rel, dd⟩ := dt_of I.hok e
  have hz : xs.length ≤ sizeLine := by rw [← Paired.length rel]; exact z
  have hl : (putK kvs k v).length ≤ sizeLine := by have := length_putK kvs k v; omega
  refine wpAny_dictSet_heap (hsz := hz) (knd := tupleKind (mixKind X.prog X.w)) (by show A.units < cLine; omega) (key_of I.hok eb) dd fun h' dd' hs => h _ ?_
  obtain ⟨q, es, ep, hq, h2, h3, h4, _, h5⟩ := dd'
  refine d_write I (by rw [e]; exact True.intro) hs ⟨q, hq⟩ ⟨hl, hd, _, (rel.put k eb rv).keeps fun c ys ec => ?_, q, es, ep, hq, h2, h3, h4, h5⟩
  rw [upd_ne (ne_of ec e (fun z => nomatch z))]
  exact ec
def tPutT (a : Addr) : List (V × V) → Hp → (Hp → Prop) → Prop
  | [], H, Q => Q H
  | p :: r, H, Q => ∃ b k kvs, p.1 = .ref b ∧ H a = some (.dT kvs) ∧ H b = some (.tup (k.map kV)) ∧ kvs.length < sizeLine ∧ tPutT a r (upd H a (.dT (putK kvs k p.2))) Q
theorem storeAllT {a : Addr} {A : Around} {E : Value → Shared → Prop} (hu : A.units + 1 < cLine) : ∀ (ps : List (V × V)) (vs : List (Value × Value)) (H : Hp) (s : Shared) (Q : Hp → Prop) (Q' : PUnit → Shared → Prop), Inv X pins σ H s → VV ps vs → tPutT a ps H Q →
    (∀ H' s', Inv X pins σ H' s' → Q H' → Q' PUnit.unit s') → wpAny (model X.prog X.w) A (storeAll a vs) Q' E s
  | [], _, H, s, Q, Q', I, rel, q, h => by
    cases rel
    unfold storeAll
    rw [List.forIn_nil]
    exact wpAny_pure (h H s I q)
  | p :: ps, _, H, s, Q, Q', I, rel, q, h => by
    cases rel with
    | @cons _ u _ us r1 r2 =>
      obtain ⟨b, k, kvs, e1, e2, e3, e4, q2⟩ := q
      obtain ⟨ru, rv⟩ := r1
      rw [e1] at ru
      have eu : u.1 = Value.ref b := ru
      unfold storeAll
      rw [List.forIn_cons]
      show wpAny _ _ (((do dictSet a u.1 u.2; pure (ForInStep.yield PUnit.unit)) : Sem (ForInStep PUnit)) >>= _) _ _ _
      rw [eu]
      refine wpAny_bind (wpAny_bind (d_setT hu I e2 e3 e4 rv fun s' I' => wpAny_pure ?_))
      exact storeAllT hu ps us _ s' Q Q' I' r2 q2 h
def tDispT (trs : List (TE × TE)) : TE := fun σ H Q => ∀ p, H p = none → tPairs trs σ (upd H p (.dT [])) fun ps H2 => tPutT p ps H2 fun H3 => Q (.ref p) H3
theorem pe_dispT {pos : Pos} {keys : List (Option Expr)} {values : List Expr} {trs : List (TE × TE)} (hu : X.A.units + 1 < cLine) (h : PPs X pos keys values trs) (hall : keys.all (·.isSome) = true) (hl : keys.length = values.length) (h0 : keys ≠ [])
    (h15 : keys.length ≤ 15) : PE X (.Dict keys values pos) (tDispT trs) := by
  refine ⟨fun pins s σ H Q I q => ?_⟩
  have hn := I.hok.fresh (Nat.le_refl s.heap.objs.size)
  have I1 := I.laid (a := s.heap.objs.size) (o := .dT []) (h' := s.heap.push { cls := .type "dict", data := .dict #[] }) (t' := s.toks) (fun _ _ q => Heap.get?_push_of_some _ q) (Nat.le_refl _) (dt_empty s.heap I.big)
  refine wpAny_Dict_any hall hl h0 h15 (thn (h.run pins _ σ _ _ I1 (q _ hn)) fun ws s2 ⟨ps, H2, I2, rel, q2⟩ => ?_)
  exact storeAllT hu ps ws H2 s2 _ _ I2 rel q2 fun H' s' I' q3 => ⟨.ref s.heap.objs.size, H', I', rfl, q3⟩
end
end Sf

namespace Sf
open PySem PySem.Spec PyProof.Rows L2
/-- the product of the primes among places -/
def discOf : List Int → Int
  | [] => 1
  | p :: l => (if p > 0 then p else 1) * discOf l
theorem disc_snoc : ∀ (l : List Int) (p : Int), discOf (l ++ [p]) = discOf l * (if p > 0 then p else 1)
  | [], p => by show (if p > 0 then p else 1) * 1 = 1 * _; omega
  | x :: l, p => by
    show _ * discOf (l ++ [p]) = _ * discOf l * _
    rw [disc_snoc l p, Int.mul_assoc]
theorem disc_small : ∀ (l : List Int), (∀ p ∈ l, p ≤ 1000000000) → (discOf l).natAbs ≤ 1000000000 ^ l.length
  | [], _ => by show 1 ≤ _; exact Nat.le_refl _
  | x :: l, h => by
    have ih := disc_small l fun p hp => h p (List.mem_cons_of_mem _ hp)
    have hx := h x List.mem_cons_self
    show ((if x > 0 then x else 1) * discOf l).natAbs ≤ 1000000000 ^ (l.length + 1)
    rw [Int.natAbs_mul, Nat.pow_succ, Nat.mul_comm]
    refine Nat.mul_le_mul ih ?_
    split <;> omega
section
variable {P : Program} {w : World} {K : PySem.W.Frag} {mg : Str → Option Value} {base : Heap} {f : Addr} {fd : FuncData} {CR CA CF : Addr}
theorem int_of_map {l : List Int} {i : Nat} {v : V} (h : (l.map V.int)[i]? = some v) : ∃ z, l[i]? = some z ∧ v = V.int z := by
  rw [List.getElem?_map] at h
  cases e : l[i]? with
  | none => rw [e] at h; cases h
  | some z => rw [e] at h; exact ⟨z, rfl, (Option.some.inj h).symm⟩
def spDisc : Sp := fun vs H Q _ => ∃ (a : Addr) (l : List Int), vs = [.ref a] ∧ H a = some (.tup (l.map V.int)) ∧ l.length ≤ 62 ∧ (∀ p ∈ l, p ≤ 1000000000) ∧ Q (.int (discOf l)) H
theorem ok_product_of_primes (F : FnD K "product_of_primes" "product_of_primes" s_P_product_of_primes f fd) : FnOk P w K mg base CX0 1 f fd ["places"] spDisc := by
  refine F.ok sc_P_product_of_primes (fun vs H Q E h => ?_) (fun cdv A outer s H vs Q E hr h => ?_)
  · obtain ⟨a, l, rfl, _⟩ := h; rfl
  · obtain ⟨a, l, rfl, ha, hl, hp, q⟩ := h
    refine ⟨_, PSs.nox (pss_cons (ps_set (i := 1) sc_P_product_of_primes.nd rfl (Or.inl rfl) pe_int)
      (pss_cons (ps_for PassesOwn.never rfl (pi_tup (pv 0)) (pg_name (i := 2) sc_P_product_of_primes.nd rfl (Or.inl rfl)) (pss_one (ps_if (pt_cmp (pc_gt (pv 2) pe_int)) (pss_one (ps_set (i := 1) sc_P_product_of_primes.nd rfl (Or.inl rfl) (pe_op op_mulW (pv 1) (pv 2)))) pss_nil)))
      (pss_one (ps_ret (pv 1))))), ?_⟩
    have hT : SqT K H a (l.map V.int) := .inl (.inl ha)
    refine ⟨_, rfl, a, rfl, ⟨_, hT⟩, for_tup (K := K) (a := a) (xs := l.map V.int) (fun i σ H' => H = H' ∧ ∃ v, σ = [some (.ref a), some (.int (discOf (l.take i))), v]) ⟨rfl, none, rfl⟩ (fun i σ H' _ e => by rw [← e.1]; exact hT) ?_ ?_⟩
    · rintro i y σ _ hi ⟨rfl, v, rfl⟩
      obtain ⟨p, hpi, rfl⟩ := int_of_map hi
      have pm := List.mem_of_getElem? hpi
      have pb := hp p pm
      have et : discOf (l.take (i + 1)) = discOf (l.take i) * (if p > 0 then p else 1) := by
        rw [List.take_add_one, hpi, ← disc_snoc]
        rfl
      have sm := disc_small (l.take i) fun x hx => hp x (List.mem_of_mem_take hx)
      have sb : (discOf (l.take i)).natAbs < 2 ^ 3000 := by
        refine Nat.lt_of_le_of_lt (Nat.le_trans sm (Nat.pow_le_pow_right (by decide) (?_ : (l.take i).length ≤ 62))) (by decide +kernel)
        have := List.length_take_le' i l
        omega
      refine ⟨_, rfl, _, _, rfl, rfl, _, rfl, ifd (fun h => ?_) (fun h => ?_)⟩
      · rw [if_pos h] at et
        refine ⟨_, rfl, _, rfl, _, _, rfl, rfl, CMulW.of sb (lt3000s (by omega) (by omega)), rfl, some (.int p), ?_⟩
        rw [et]; rfl
      · rw [if_neg h, Int.mul_one] at et
        exact ⟨rfl, some (.int p), by rw [et]; rfl⟩
    · rintro σ _ ⟨rfl, v, rfl⟩
      rw [List.length_map, List.take_length]
      exact ⟨_, rfl, q⟩
/-- the algebra of two numbers -/
structure AlgAt (CA : Addr) (H : Hp) (x : Addr) (a b : Int) : Prop where
  ex : ∃ (dx pl : Addr) (l : List Int), H x = some (.ins CA dx [("places", .ref pl), ("a", .int a), ("b", .int b), ("discriminant", .int (discOf l)), ("is_tables", .bl (decide (l.length = 0))), ("is_definite", .bl (decide ((0 : Int) ∈ l)))]) ∧
    H pl = some (.tup (l.map V.int)) ∧ PlacesOf a b l ∧ a ≠ 0 ∧ b ≠ 0 ∧ a.natAbs ≤ 1000000000 ∧ b.natAbs ≤ 1000000000
theorem AlgAt.same {H H' : Hp} {x : Addr} {a b : Int} (h : AlgAt CA H x a b) (s : Same H H') : AlgAt CA H' x a b := by
  obtain ⟨dx, pl, l, h1, h2, h3⟩ := h.ex
  exact ⟨dx, pl, l, s _ _ h1, s _ _ h2, h3⟩
theorem AlgAt.ins {H : Hp} {x : Addr} {a b : Int} (h : AlgAt CA H x a b) : Ins H x CA := by
  obtain ⟨dx, pl, l, h1, _⟩ := h.ex
  exact ⟨dx, _, h1⟩
structure AlgK (K : PySem.W.Frag) (CA : Addr) : Prop where
  own : OwnK K CA
  n1 : NoAttr K CA "places"
  n2 : NoAttr K CA "a"
  n3 : NoAttr K CA "b"
  n4 : NoAttr K CA "discriminant"
  n5 : NoAttr K CA "is_tables"
  n6 : NoAttr K CA "is_definite"
structure AlgInitP (CA : Addr) (vs : List V) (H : Hp) (Q : VK) : Prop where
  ex : ∃ (x dx : Addr) (a b : Int), vs = [.ref x, .int a, .int b] ∧ a ≠ 0 ∧ b ≠ 0 ∧ a.natAbs ≤ 1000000000 ∧ b.natAbs ≤ 1000000000 ∧ H x = some (.ins CA dx []) ∧ ∀ H', Keep x H H' → AlgAt CA H' x a b → Q .non H'
def spAlgInit (CA : Addr) : Sp := fun vs H Q _ => AlgInitP CA vs H Q
theorem place_le {a b p : Int} {l : List Int} (h : PlacesOf a b l) (a0 : a ≠ 0) (b0 : b ≠ 0) (a1 : a.natAbs ≤ 1000000000) (b1 : b.natAbs ≤ 1000000000) (hp : p ∈ l) : p ≤ 1000000000 := by
  obtain ⟨g, n⟩ := (h.2 p).mp hp
  rcases g with e | g
  · omega
  · by_cases c : p = 2
    · omega
    · have dv : ∀ {n : Int}, n ≠ 0 → n % p = 0 → p ≤ n.natAbs := fun {n} n0 d => by
        obtain ⟨k, hk⟩ := Int.dvd_of_emod_eq_zero d
        have k0 : k ≠ 0 := fun z => n0 (by rw [hk, z, Int.mul_zero])
        have p2 := g.1
        have e : n.natAbs = p.natAbs * k.natAbs := by rw [hk]; exact Int.natAbs_mul _ _
        have : p.natAbs * 1 ≤ p.natAbs * k.natAbs := Nat.mul_le_mul_left _ (by omega)
        omega
      by_cases ca : a % p = 0
      · have := dv a0 ca
        omega
      · by_cases cb : b % p = 0
        · have := dv b0 cb
          omega
        · exact absurd (sign_far g c ca cb n) (by decide)
theorem ok_Algebra_init (F : FnD K "__init__" "Algebra.__init__" s_P_Algebra___init__ f fd) (T : Glob mg) (R : AlgK K CA) (C_P_signed_places : Cal P w K mg base 5 "signed_places" ["a", "b"] spPlaces) (C_P_product_of_primes : Cal P w K mg base 1 "product_of_primes" ["places"] spDisc) :
    FnOk P w K mg base CX0 6 f fd ["self", "a", "b"] (spAlgInit CA) := by
  refine F.ok sc_P_Algebra___init__ (fun vs H Q E h => ?_) (fun cdv A outer s H vs Q E hr h => ?_)
  · obtain ⟨x, dx, a, b, rfl, _⟩ := h.ex; rfl
  · obtain ⟨x, dx, a, b, rfl, a0, b0, a1, b1, hx, q⟩ := h.ex
    refine ⟨_, PSs.nox (pss_cons (ps_fld (pv 0) (pe_cal C_P_signed_places (hr.mono (by decide)) (pa_cons (pv 1) (pa_cons (pv 2) pa_nil))) rfl)
      (pss_cons (ps_fld (pv 0) (pv 1) rfl)
      (pss_cons (ps_fld (pv 0) (pv 2) rfl)
      (pss_cons (ps_fld (pv 0) (pe_cal C_P_product_of_primes (hr.mono (by decide)) (pa_cons (pe_fld (pv 0) rfl) pa_nil)) rfl)
      (pss_cons (ps_fld (pv 0) (pe_cmp (pc_eqI (pe_callB call_len_seq (by rfl) T.m_len (by decide +kernel) (pa_cons (pe_fld (pv 0) rfl) pa_nil)) pe_int) rfl) rfl)
      (pss_one (ps_fld (pv 0) (pe_cmpR op_in_seq pe_int (pe_fld (pv 0) rfl) (by rfl)) rfl))))))), ?_⟩
    refine ⟨_, rfl, _, rfl, ⟨a, b, rfl, a0, b0, a1, b1, fun l pl H1 hpl hll e1 hn hpl1 => ?_⟩⟩
    have hx1 := e1 _ _ hx
    have npx : pl ≠ x := fun z => by
      rw [z, hx] at hn
      cases hn
    refine ⟨_, rfl, x, CA, dx, _, rfl, hx1, R.own.cls, R.n1, by decide, ?_⟩
    refine ⟨_, rfl, _, rfl, x, CA, dx, _, rfl, upd_same, R.own.cls, R.n2, (by show 1 < 1000; decide), ?_⟩
    refine ⟨_, rfl, _, rfl, x, CA, dx, _, rfl, upd_same, R.own.cls, R.n3, (by show 2 < 1000; decide), ?_⟩
    refine ⟨_, rfl, x, CA, dx, _, .ref pl, rfl, upd_same, R.own.cls, R.n1, rfl, pl, l, rfl, by rw [upd_ne npx, upd_ne npx, upd_ne npx]; exact hpl1, hll, fun p hp => place_le hpl a0 b0 a1 b1 hp, ?_⟩
    refine ⟨_, rfl, x, CA, dx, _, rfl, upd_same, R.own.cls, R.n4, (by show 3 < 1000; decide), ?_⟩
    refine ⟨_, rfl, x, CA, dx, _, .ref pl, rfl, upd_same, R.own.cls, R.n1, rfl, pl, _, rfl, .inr (SqT.of (by rw [upd_ne npx, upd_ne npx, upd_ne npx, upd_ne npx]; exact hpl1)), _, _, rfl, rfl, ?_⟩
    refine ⟨_, rfl, x, CA, dx, _, rfl, upd_same, R.own.cls, R.n5, (by show 4 < 1000; decide), ?_⟩
    refine ⟨_, rfl, x, CA, dx, _, .ref pl, rfl, upd_same, R.own.cls, R.n1, rfl, pl, _, rfl, .inr (SqT.of (by rw [upd_ne npx, upd_ne npx, upd_ne npx, upd_ne npx, upd_ne npx]; exact hpl1)), rfl, all_flat _, ?_⟩
    refine ⟨_, rfl, x, CA, dx, _, rfl, upd_same, R.own.cls, R.n6, (by show 5 < 1000; decide), ?_⟩
    refine q _ (fun d o e n => ?_) ⟨⟨dx, pl, l, ?_, ?_, hpl, a0, b0, a1, b1⟩⟩
    · rw [upd_ne n, upd_ne n, upd_ne n, upd_ne n, upd_ne n, upd_ne n]
      exact e1 _ _ e
    · rw [upd_same, inV_ints]
      show some (HO.ins CA dx [("places", V.ref pl), ("a", V.int a), ("b", V.int b), ("discriminant", V.int (discOf l)), ("is_tables", V.bl (decide ((((l.map V.int).length : Nat) : Int) = 0))), ("is_definite", V.bl (decide ((0 : Int) ∈ l)))]) = _
      have e : decide ((((l.map V.int).length : Nat) : Int) = 0) = decide (l.length = 0) := by
        rw [List.length_map, Bool.eq_iff_iff, decide_eq_true_iff, decide_eq_true_iff]
        omega
      rw [e]
    · rw [upd_ne npx, upd_ne npx, upd_ne npx, upd_ne npx, upd_ne npx, upd_ne npx]
      exact hpl1
end
end Sf

namespace Sf
open PySem PySem.Spec PyProof.Rows L2
section
variable {P : Program} {w : World} {K : PySem.W.Frag} {mg : Str → Option Value} {base : Heap} {f : Addr} {fd : FuncData}
structure TakeP (vs : List V) (H : Hp) (Q : VK) : Prop where
  ex : ∃ (p : Addr) (xs : List V) (n : Nat) (m : Int), vs = [.ref p, .int m] ∧ H p = some (.lst xs) ∧ SackO n xs ∧ n ≤ 1000000 ∧ 1 ≤ m ∧ m < 10 ^ 80 ∧
  ∀ (r : Int) (ys : List V), 0 ≤ r → r < m → SackO (n + 1) ys → Q (.int r) (upd H p (.lst ys))
def spTake : Sp := fun vs H Q _ => TakeP vs H Q
theorem ok_pour (F : FnD K "_law_pour" "_law_pour" s_L_pour f fd) (T : Glob mg) : FnOk P w K mg base CX0 1 f fd ["_law_jug_here", "_law_many"] spTake := by
  refine F.ok sc_L_pour (fun vs H Q E h => ?_) (fun cdv A outer s H vs Q E hr h => ?_)
  · obtain ⟨p, xs, n, m, rfl, _⟩ := h.ex; rfl
  · obtain ⟨p, _, n, m, rfl, hp, ⟨a, b, c, rfl, a0, a1, b0, b1, c0, c1⟩, hn, hm, hm1, q⟩ := h.ex
    have m0 : (0 : Int) < m := by omega
    have mb : m.natAbs < 2 ^ 3000 := lt3000 (by omega) (Int.lt_trans hm1 (by decide +kernel))
    have hS : SqL K H p [.int a, .int b, .int c] := SqL.of hp
    refine ⟨_, PSs.nox (pss_cons (ps_if (pt_cmp (pc_gt (pe_ix ix_list (pv 0) pe_int (fun _ _ => rfl)) pe_int)) (pss_cons (ps_set (i := 2) sc_L_pour.nd rfl (Or.inl rfl) (pe_op op_mod (pe_callTy call_int1 (by rfl) T.m_int (by decide +kernel) (pa_cons (pe_ix ix_list (pv 0) pe_int (fun _ _ => rfl)) pa_nil)) (pv 1)))
      (pss_cons (ps_asg (pe_op op_fdivW (pe_ix ix_list (pv 0) pe_int (fun _ _ => rfl)) (pv 1)) (pg_sub (pv 0) pe_int set_list))
      (pss_one (ps_ret (pv 2))))) pss_nil)
      (pss_cons (ps_asg (pe_op op_add (pe_ix ix_list (pv 0) pe_int (fun _ _ => rfl)) pe_int) (pg_sub (pv 0) pe_int set_list))
      (pss_cons (ps_set (i := 3) sc_L_pour.nd rfl (Or.inl rfl) (pe_op op_mod (pe_callTy call_int1 (by rfl) T.m_int (by decide +kernel) (pa_cons (pe_op op_add (pe_ix ix_list (pv 0) pe_int (fun _ _ => rfl)) (pe_op op_mulW pe_int (pe_ix ix_list (pv 0) pe_int (fun _ _ => rfl)))) pa_nil)) pe_int))
      (pss_cons (ps_set (i := 4) sc_L_pour.nd rfl (Or.inl rfl) (pe_op op_add (pe_op op_add (pe_op op_mulW (pe_op op_mod (pe_callTy call_int1 (by rfl) T.m_int (by decide +kernel) (pa_cons (pe_op op_mulW (pv 3) (pv 3)) pa_nil)) pe_int) pe_int) (pv 3)) (pe_op op_mulW pe_int (pe_ix ix_list (pv 0) pe_int (fun _ _ => rfl)))))
      (pss_one (ps_ret (pe_op op_mod (pe_callTy call_int1 (by rfl) T.m_int (by decide +kernel) (pa_cons (pe_op op_fdivW (pv 4) pe_int) pa_nil)) (pv 1)))))))), ?_⟩
    refine ⟨_, rfl, p, _, 0, .int a, rfl, rfl, hS, rfl, _, _, rfl, rfl, _, rfl, ifd (fun h => ?_) (fun h => ?_)⟩
    · refine ⟨_, rfl, p, _, 0, .int a, rfl, rfl, hS, rfl, .inl ⟨_, rfl, _, rfl, _, _, rfl, rfl, m0, ?_⟩⟩
      refine ⟨_, rfl, p, _, 0, .int a, rfl, rfl, hS, rfl, _, rfl, _, _, rfl, rfl, CDivW.of m0 mb, ?_⟩
      refine ⟨_, rfl, p, _, 0, 0, rfl, rfl, hp, rfl, ?_⟩
      refine ⟨_, rfl, q (a % m) _ (Int.emod_nonneg _ (by omega)) (Int.emod_lt_of_pos _ m0) ⟨a / m, b, c, rfl, Int.ediv_nonneg a0 (by omega), ?_, b0, b1, c0, by omega⟩⟩
      exact Int.lt_of_le_of_lt (Int.ediv_le_self m a0) a1
    · refine ⟨_, rfl, p, _, 2, .int c, rfl, rfl, hS, rfl, _, _, rfl, rfl, ?_⟩
      refine ⟨_, rfl, p, _, 2, 2, rfl, rfl, hp, rfl, ?_⟩
      have hS2 : SqL K (upd H p (.lst [.int a, .int b, .int (c + 1)])) p [.int a, .int b, .int (c + 1)] := SqL.of upd_same
      refine ⟨_, rfl, p, _, 1, .int b, rfl, rfl, hS2, rfl, _, rfl, p, _, 2, .int (c + 1), rfl, rfl, hS2, rfl, _, _, rfl, rfl, CMulW.of (lt3000s (by decide) (by decide)) (lt3000s (by omega) (by omega)), _, _, rfl, rfl, .inl ⟨_, rfl, _, _, rfl, rfl, (by show (0 : Int) < 2305843009213693967; decide), ?_⟩⟩
      refine ⟨_, rfl, _, rfl, _, _, rfl, rfl, CMulW.of (lt3000s (by omega) (by omega)) (lt3000s (by omega) (by omega)), .inl ⟨_, rfl, _, _, rfl, rfl, (by show (0 : Int) < 2305843009213693951; decide), _, _, rfl, rfl, CMulW.of (lt3000s (by omega) (by omega)) (lt3000s (by decide) (by decide)), _, rfl, _, _, rfl, rfl, _, rfl, p, _, 2, .int (c + 1), rfl, rfl, hS2, rfl, _, _, rfl, rfl, CMulW.of (lt3000s (by decide) (by decide)) (lt3000s (by omega) (by omega)), _, _, rfl, rfl, ?_⟩⟩
      refine ⟨_, rfl, _, _, rfl, rfl, CDivW.of (by decide) (lt3000s (by decide) (by decide)), .inl ⟨_, rfl, _, rfl, _, _, rfl, rfl, m0, ?_⟩⟩
      refine q _ _ (Int.emod_nonneg _ (by omega)) (Int.emod_lt_of_pos _ m0) ⟨a, b, c + 1, rfl, a0, a1, b0, b1, by omega, by omega⟩
end
end Sf

namespace Sf
open PySem PySem.Spec PyProof.Rows L2
section
variable {P : Program} {w : World} {K : PySem.W.Frag} {mg : Str → Option Value} {base : Heap} {f : Addr} {fd : FuncData}
structure OneOfP (K : PySem.W.Frag) (vs : List V) (H : Hp) (Q : VK) : Prop where
  ex : ∃ (p b : Addr) (xs items : List V) (n : Nat), vs = [.ref p, .ref b] ∧ H p = some (.lst xs) ∧ SackO n xs ∧ n ≤ 1000000 ∧ b ≠ p ∧ SqL K H b items ∧ 1 ≤ items.length ∧ items.length ≤ 1000000 ∧
  ∀ (v : V) (ys : List V), v ∈ items → SackO (n + 1) ys → Q v (upd H p (.lst ys))
def spOneOf (K : PySem.W.Frag) : Sp := fun vs H Q _ => OneOfP K vs H Q
theorem ok_of (F : FnD K "_law_of" "_law_of" s_L_of f fd) (T : Glob mg) (C_L_pour : Cal P w K mg base 1 "_law_pour" ["_law_jug_here", "_law_many"] spTake) : FnOk P w K mg base CX0 2 f fd ["_law_jug_here", "_law_items"] (spOneOf K) := by
  refine F.ok sc_L_of (fun vs H Q E h => ?_) (fun cdv A outer s H vs Q E hr h => ?_)
  · obtain ⟨p, b, xs, items, n, rfl, _⟩ := h.ex; rfl
  · obtain ⟨p, b, xs, items, n, rfl, hp, hx, hn, hne, hS, hl0, hl1, q⟩ := h.ex
    refine ⟨_, PSs.nox (pss_one (ps_ret (pe_ix ix_list (pv 1) (pe_cal C_L_pour (hr.mono (by decide)) (pa_cons (pv 0) (pa_cons (pe_callB call_len_seq (by rfl) T.m_len (by decide +kernel) (pa_cons (pv 1) pa_nil)) pa_nil))) (fun _ _ => rfl)))), ?_⟩
    refine ⟨_, rfl, _, rfl, _, rfl, b, _, rfl, .inl hS, ⟨p, xs, n, _, rfl, hp, hx, hn, by omega, ?_, fun r ys h0 h1 hy => ?_⟩⟩
    · exact Int.lt_trans (by omega : (items.length : Int) < 1000001) (by decide +kernel)
    · have hi : r.toNat < items.length := by omega
      have er : ((r.toNat : Nat) : Int) = r := by omega
      refine ⟨b, items, r, items[r.toNat], rfl, rfl, sq_upd hS hne, ?_, q _ ys (List.getElem_mem hi) hy⟩
      have z := atI_nat (List.getElem?_eq_getElem hi)
      rw [er] at z
      exact z
end
end Sf

namespace Sf
open PySem PySem.Spec PyProof.Rows L2
/-- a draw: the same promises in the words of Sk -/
theorem take_of {H : Hp} {p : Addr} {n : Nat} {m : Int} {Q : VK} (hs : Sk p n H) (hn : n ≤ 1000000) (h1 : 1 ≤ m) (h2 : m < 10 ^ 80) (q : ∀ (r : Int) (H' : Hp), 0 ≤ r → r < m → Keep p H H' → Sk p (n + 1) H' → (∀ b, H b = none → H' b = none) → Q (.int r) H') : TakeP [.ref p, .int m] H Q := by
  obtain ⟨xs, a, b⟩ := hs
  exact ⟨p, xs, n, m, rfl, a, b, hn, h1, h2, fun r ys r0 r1 hy => q r _ r0 r1 Keep.upd ⟨ys, upd_same, hy⟩ fun c hc => by rw [upd_ne (fun z => by rw [z, a] at hc; cases hc)]; exact hc⟩
theorem one_of_new {K : PySem.W.Frag} {H : Hp} {p b : Addr} {n : Nat} {items : List V} {Q : VK} (hs : Sk p n H) (hn : n ≤ 1000000) (hb : H b = none) (h1 : 1 ≤ items.length) (h2 : items.length ≤ 1000000)
    (q : ∀ (v : V) (H' : Hp), v ∈ items → Keep p H H' → Sk p (n + 1) H' → Q v H') : OneOfP K [.ref p, .ref b] (upd H b (.lst items)) Q := by
  obtain ⟨xs, a, o⟩ := hs
  have npb : p ≠ b := ne_of_none a hb
  refine ⟨p, b, xs, items, n, rfl, by rw [upd_ne npb]; exact a, o, hn, npb.symm, SqL.of upd_same, h1, h2, fun v ys hv hy => q v _ hv ?_ ⟨ys, upd_same, hy⟩⟩
  exact (Keep.new hb).trans Keep.upd
end Sf

namespace Sf
open PySem PySem.Spec PyProof.Rows L2
theorem cut_first (xs : List V) : cutV xs none (some 1) = xs.take 1 := by
  unfold cutV
  rw [show HT.sIx xs.length xs.length (some 1) = min 1 xs.length from HT.sIx_nat xs.length xs.length 1, HT.sIx_none]
  cases xs with
  | nil => rfl
  | cons x r =>
    rw [show min 1 (x :: r).length = 1 by
      rw [List.length_cons]
      omega]
    rfl
theorem same_ne {H H' : Hp} {p q : Addr} {o u : HO} (s : Same H H') (h : H p = some o) (n : H q = none) : p ≠ q := ne_of_none h n
section
variable {P : Program} {w : World} {K : PySem.W.Frag} {mg : Str → Option Value} {base : Heap} {f : Addr} {fd : FuncData}
def spSack (K : PySem.W.Frag) : Sp := fun vs H Q _ => ∃ (a : Addr) (ns : List Int) (t : Nat), vs = [.ref a, .int t] ∧ SqL K H a (ns.map V.int) ∧ ns.length ≤ 63 ∧ t ≤ 10 ∧
  ∀ (p : Addr) (xs : List V) (H' : Hp), Same H H' → H p = none → H' p = some (.lst xs) → SackO 0 xs → Q (.ref p) H'
theorem ok_jug (F : FnD K "_law_jug" "_law_jug" s_L_jug f fd) (T : Glob mg) : FnOk P w K mg base CX0 1 f fd ["_law_script", "_law_spot"] (spSack K) := by
  refine F.ok sc_L_jug (fun vs H Q E h => ?_) (fun cdv A outer s H vs Q E hr h => ?_)
  · obtain ⟨a, ns, t, rfl, _⟩ := h; rfl
  · obtain ⟨a, ns, t, rfl, hS, hl, ht, q⟩ := h
    refine ⟨_, PSs.nox (Evl.pss_cut (ps_set (i := 2) sc_L_jug.nd rfl (Or.inl rfl) (pe_ifExp (pt_cmp (pc_lt (pv 1) (pe_callB call_len_seq (by rfl) T.m_len (by decide +kernel) (pa_cons (pv 0) pa_nil)))) (pe_callTy call_int1 (by rfl) T.m_int (by decide +kernel) (pa_cons (pe_ix ix_list (pv 0) (pv 1) (fun _ _ => rfl)) pa_nil)) (pe_op op_add (pe_op op_add (pe_op op_mulW pe_int (pv 1)) pe_int) (pe_op op_mod (pe_callTy call_int1 (by rfl) T.m_int (by decide +kernel) (pa_cons (pe_callB (cr_sum rfl) (by rfl) T.m_sum (by decide +kernel) (pa_cons (pe_slice sl_list (pv 0) po_none (po_some pe_int)) pa_nil)) pa_nil)) pe_int))))
      (pss_cons (ps_set (i := 3) sc_L_jug.nd rfl (Or.inl rfl) (pe_op op_mod (pe_callTy call_int1 (by rfl) T.m_int (by decide +kernel) (pa_cons (pe_callB call_abs (by rfl) T.m_abs (by decide +kernel) (pa_cons (pv 2) pa_nil)) pa_nil)) (pe_op op_powW (pe_op op_powW pe_int pe_int) pe_int)))
      (pss_cons (ps_set (i := 4) sc_L_jug.nd rfl (Or.inl rfl) (pe_op op_mod (pe_callTy call_int1 (by rfl) T.m_int (by decide +kernel) (pa_cons (pe_op op_add (pe_op op_add (pe_op op_add (pe_op op_mulW (pe_op op_mod (pv 3) pe_int) pe_int) (pe_op op_mulW pe_int (pv 1))) (pe_op op_mulW pe_int (pe_callTy call_int1 (by rfl) T.m_int (by decide +kernel) (pa_cons (pe_cmp (pc_lt (pv 2) pe_int) rfl) pa_nil)))) pe_int) pa_nil)) pe_int))
      (pss_one (ps_ret (pe_lst (pa_cons (pe_callB (call_max2 rfl) (by rfl) T.m_max (by decide +kernel) (pa_cons pe_int (pa_cons (pe_op op_sub (pv 3) (pe_op op_powW pe_int pe_int)) pa_nil))) (pa_cons (pv 4) (pa_cons pe_int pa_nil))))))))), ?_⟩
    refine ⟨fun σ' H' => ∃ c : Int, σ' = [some (.ref a), some (.int t), some (.int c), none, none] ∧ Same H H', ?_, ?_⟩
    · refine ⟨_, rfl, _, rfl, a, _, rfl, .inl hS, _, _, rfl, rfl, _, rfl, ifd (fun h => ?_) (fun h => ?_)⟩
      · have hi : t < ns.length := by
          rw [List.length_map] at h
          omega
        refine ⟨_, rfl, _, rfl, a, _, t, .int ns[t], rfl, rfl, hS, atI_nat (by rw [List.getElem?_map, List.getElem?_eq_getElem hi]; rfl), .inl ⟨_, rfl, ?_⟩⟩
        exact ⟨_, rfl, Same.refl H⟩
      · refine ⟨_, rfl, _, _, rfl, rfl, CMulW.of (lt3000s (by decide) (by decide)) (lt3000s (by omega) (by omega)), _, _, rfl, rfl, _, rfl, _, rfl, a, _, rfl, hS, fun p hp => ?_⟩
        refine ⟨p, ns.take 1, rfl, SqL.of ?_, .inl ⟨_, rfl, _, _, rfl, rfl, (by show (0 : Int) < 1000033; decide), _, _, rfl, rfl, ?_⟩⟩
        · rw [upd_same, cut_first, List.map_take]
        · exact ⟨_, rfl, same_upd hp⟩
    · rintro σ' H' ⟨c, rfl, hs⟩
      refine ⟨_, rfl, c, rfl, .inl ⟨_, rfl, 10, 59, rfl, rfl, ⟨by decide, by decide +kernel⟩, 10 ^ 59, 8, rfl, rfl, ⟨by decide, by decide +kernel⟩, _, _, rfl, rfl, (by show (0 : Int) < (10 ^ 59) ^ (8 : Int).toNat; decide +kernel), ?_⟩⟩
      have g0 := Int.emod_nonneg (if c < 0 then -c else c) (by decide +kernel : ((10 : Int) ^ 59) ^ (8 : Int).toNat ≠ 0)
      have g1 := Int.emod_lt_of_pos (if c < 0 then -c else c) (by decide +kernel : (0 : Int) < ((10 : Int) ^ 59) ^ (8 : Int).toNat)
      have e472 : ((10 : Int) ^ 59) ^ (8 : Int).toNat = 10 ^ 472 := by decide +kernel
      rw [e472] at g0 g1
      have gb : (((if c < 0 then -c else c) % 10 ^ 472 : Int)).natAbs < 2 ^ 3000 := by
        have : (10 : Int) ^ 472 < 2 ^ 3000 := by decide +kernel
        have e2 : ((2 ^ 3000 : Nat) : Int) = (2 : Int) ^ 3000 := by decide +kernel
        omega
      refine ⟨_, rfl, _, _, rfl, rfl, (by show (0 : Int) < 2305843009213693921; decide), _, _, rfl, rfl, CMulW.of (lt3000s (by omega) (by omega)) (lt3000s (by decide) (by decide)), _, rfl, _, _, rfl, rfl, CMulW.of (lt3000s (by decide) (by decide)) (lt3000s (by omega) (by omega)), _, _, rfl, rfl, ?_⟩
      have eb : ∀ b : Bool, 0 ≤ (if b = true then (1 : Int) else 0) ∧ (if b = true then (1 : Int) else 0) ≤ 1 := fun b => by cases b <;> decide
      have hb := eb (decide (c < 0))
      refine ⟨_, rfl, _, _, rfl, rfl, .inr ⟨_, rfl, _, _, rfl, rfl, CMulW.of (lt3000s (by decide) (by decide)) (lt3000s (by split <;> decide) (by split <;> decide)), _, _, rfl, rfl, _, _, rfl, rfl, .inl ⟨_, rfl, _, _, rfl, rfl, (by show (0 : Int) < 2305843009213693951; decide), ?_⟩⟩⟩
      refine ⟨_, rfl, 10, 17, rfl, rfl, ⟨by decide, by decide +kernel⟩, _, _, rfl, rfl, _, _, rfl, _, rfl, (by show 3 ≤ sizeLine; decide), fun p hp => ?_⟩
      have e17 : (10 : Int) ^ (17 : Int).toNat = 100000000000000000 := by decide +kernel
      refine q p _ _ (hs.trans (same_upd hp)) (hs.free hp) upd_same ⟨_, _, _, rfl, ?_, ?_, ?_, ?_, by decide, by decide⟩
      · rw [e17]
        split <;> omega
      · rw [e17, e472]
        have : (0 : Int) < 10 ^ 472 := by decide +kernel
        have h1 : ∀ z N : Int, 0 ≤ z → z < N → 0 < N → (if z - 100000000000000000 > 0 then z - 100000000000000000 else 0) < N := fun z N a b c => by split <;> omega
        exact Int.lt_trans (h1 _ _ g0 g1 this) (by decide +kernel)
      · omega
      · omega
end
end Sf

namespace Sf
open PySem PySem.Spec PyProof.Rows L2
/-! a class called: what stands then -/
theorem same_new {H : Hp} {x dx C : Addr} (hx : H x = none) (hd : H dx = none) (nd : dx ≠ x) : Same H (upd (upd H dx (.own x)) x (.ins C dx [])) := (same_upd hd).trans (same_upd (by rw [upd_ne nd.symm]; exact hx))
theorem same_keep {x : Addr} {H H1 H2 : Hp} (hx : H x = none) (s : Same H H1) (k : Keep x H1 H2) : Same H H2 := fun d o e => k _ _ (s _ _ e) (ne_of_none e hx)
theorem new_alg {CA : Addr} {H : Hp} {a b : Int} {R : VK} {x dx : Addr} (a0 : a ≠ 0) (b0 : b ≠ 0) (a1 : a.natAbs ≤ 1000000000) (b1 : b.natAbs ≤ 1000000000) (hx : H x = none) (hd : H dx = none) (nd : dx ≠ x) (q : ∀ (H' : Hp), Same H H' → AlgAt CA H' x a b → R .non H') :
    AlgInitP CA [.ref x, .int a, .int b] (upd (upd H dx (.own x)) x (.ins CA dx [])) R :=
  ⟨x, dx, a, b, rfl, a0, b0, a1, b1, upd_same, fun H' k hA => q H' (same_keep hx (same_new hx hd nd) k) hA⟩
end Sf

namespace Sf
open PySem PySem.Spec PyProof.Rows L2
section
variable {X : Cx}
theorem cr_repr_bl : CallR X (.builtin "repr") (fun xs H Q => ∃ b : Bool, xs = [.bl b] ∧ Q (.str (if b then "True" else "False")) H) := by
  intro pins s σ H xs us Q I r h
  obtain ⟨b, rfl, q⟩ := h
  obtain ⟨u, rfl, t⟩ := vals1 r
  cases (show u = Value.bool b from t)
  exact PySem.P.repr_of_bool ⟨.str _, H, I.tok _, ⟨_, rfl⟩, q⟩
end
end Sf

namespace Sf
open PySem PySem.Spec PyProof.Rows L2
/-! ### signs multiply -/
def par2 (s t : Nat) (u v : Int) : Int := (u - 1) / 2 * ((v - 1) / 2) + s * ((v * v - 1) / 8) + t * ((u * u - 1) / 8)
theorem sgn2 (s t : Nat) (u v : Int) : sgnAt 2 s t u v = if par2 s t u v % 2 = 1 then -1 else 1 := rfl
theorem e_mul {v w : Int} (hv : v % 2 = 1) (hw : w % 2 = 1) : ((v * w - 1) / 2) % 2 = ((v - 1) / 2 + (w - 1) / 2) % 2 := by
  have h1 : v = 2 * ((v - 1) / 2) + 1 := by omega
  have h2 : w = 2 * ((w - 1) / 2) + 1 := by omega
  generalize (v - 1) / 2 = k at h1 ⊢
  generalize (w - 1) / 2 = l at h2 ⊢
  have e : v * w = 4 * (k * l) + 2 * k + 2 * l + 1 := by rw [h1, h2]; grind
  omega
theorem w_mul {v w : Int} (hv : v % 2 = 1) (hw : w % 2 = 1) : ((v * w * (v * w) - 1) / 8) % 2 = ((v * v - 1) / 8 + (w * w - 1) / 8) % 2 := by
  have s1 := odd_sq8 (w := v) (by omega)
  have s2 := odd_sq8 (w := w) (by omega)
  have h1 : v * v = 8 * ((v * v - 1) / 8) + 1 := by omega
  have h2 : w * w = 8 * ((w * w - 1) / 8) + 1 := by omega
  generalize (v * v - 1) / 8 = k at h1 ⊢
  generalize (w * w - 1) / 8 = l at h2 ⊢
  have e : v * w * (v * w) = (v * v) * (w * w) := by grind
  have e2 : v * w * (v * w) = 64 * (k * l) + 8 * k + 8 * l + 1 := by rw [e, h1, h2]; grind
  omega
theorem par2_mul {s t t' : Nat} {u v w : Int} (hv : v % 2 = 1) (hw : w % 2 = 1) : par2 s (t + t') u (v * w) % 2 = (par2 s t u v + par2 s t' u w) % 2 := by
  unfold par2
  have h1 := par_mul ((u - 1) / 2) ((v * w - 1) / 2) ((u - 1) / 2) _ rfl (e_mul hv hw)
  have h2 := par_mul (s : Int) ((v * w * (v * w) - 1) / 8) (s : Int) _ rfl (w_mul hv hw)
  rw [Int.mul_add] at h1 h2
  have h3 : ((t + t' : Nat) : Int) * ((u * u - 1) / 8) = t * ((u * u - 1) / 8) + t' * ((u * u - 1) / 8) := by rw [Int.natCast_add, Int.add_mul]
  omega
theorem sgn_mul2 {s t t' : Nat} {u v w : Int} (hv : v % 2 = 1) (hw : w % 2 = 1) : sgnAt 2 s (t + t') u (v * w) = sgnAt 2 s t u v * sgnAt 2 s t' u w := by
  rw [sgn2, sgn2, sgn2]
  have h := par2_mul (s := s) (t := t) (t' := t') (u := u) hv hw
  by_cases c1 : par2 s t u v % 2 = 1 <;> by_cases c2 : par2 s t' u w % 2 = 1
  · rw [if_pos c1, if_pos c2, if_neg (by omega)]; rfl
  · rw [if_pos c1, if_neg c2, if_pos (by omega)]; rfl
  · rw [if_neg c1, if_pos c2, if_pos (by omega)]; rfl
  · rw [if_neg c1, if_neg c2, if_neg (by omega)]; rfl
theorem sgn_mul_odd {q : Nat} (h3 : 3 ≤ q) (he : euler q = true) (hp : PrP q) {s t t' : Nat} {u v w : Int} (hu : u % (q : Int) ≠ 0) : sgnAt q s (t + t') u (v * w) = sgnAt q s t u v * sgnAt q s t' u w := by
  have n2 : ¬ (q : Int) = 2 := by omega
  have m1 : (-1 : Int) % (q : Int) ≠ 0 := fun z => prime_one hp ((Int.dvd_neg).mp (Int.dvd_of_emod_eq_zero z))
  have r1 := rest_unit m1
  have r2 := rest_unit hu
  unfold sgnAt
  rw [if_neg n2, if_neg n2, if_neg n2, sign_mul h3 he hp]
  have k1 : s * (t + t') % 2 = (s % 2) * ((t % 2 + t' % 2) % 2) % 2 := by rw [Nat.mul_mod, Nat.add_mod]
  have k2 : s * t % 2 = (s % 2) * (t % 2) % 2 := by rw [Nat.mul_mod]
  have k3 : s * t' % 2 = (s % 2) * (t' % 2) % 2 := by rw [Nat.mul_mod]
  have k4 : (t + t') % 2 = (t % 2 + t' % 2) % 2 := Nat.add_mod _ _ _
  rw [k1, k2, k3, k4]
  generalize restSign (-1) (q : Int) = A at r1 ⊢
  generalize restSign u (q : Int) = B at r2 ⊢
  generalize restSign v (q : Int) = C
  generalize restSign w (q : Int) = D
  have d1 : s % 2 = 0 ∨ s % 2 = 1 := by omega
  have d2 : t % 2 = 0 ∨ t % 2 = 1 := by omega
  have d3 : t' % 2 = 0 ∨ t' % 2 = 1 := by omega
  have g1 : A * B * C * (A * B * D) = C * D := by
    have : A * B * C * (A * B * D) = (A * A) * (B * B) * (C * D) := by clear r1 r2 k1 k2 k3 k4 d1 d2 d3; grind
    rw [this, r1, r2]; simp
  clear k1 k2 k3 k4 h3 he hp hu n2 m1
  rcases d1 with e1 | e1 <;> rcases d2 with e2 | e2 <;> rcases d3 with e3 | e3 <;> rw [e1, e2, e3] <;> simp <;> clear e1 e2 e3 <;> grind
def GoodPl (p : Int) : Prop := p = 0 ∨ (PrP p ∧ (p = 2 ∨ ∃ q : Nat, p = q ∧ 3 ≤ q ∧ euler q = true))
theorem hsign_mul {a b c p r1 r2 : Int} (hp : GoodPl p) (b0 : b ≠ 0) (c0 : c ≠ 0) (h1 : HSign a b p r1) (h2 : HSign a c p r2) : HSign a (b * c) p (r1 * r2) := by
  rcases hp with p0 | ⟨hp, he⟩
  · have f1 : r1 = if a < 0 ∧ b < 0 then -1 else 1 := by
      rcases h1 with ⟨_, e⟩ | ⟨n, _⟩
      · exact e
      · exact absurd p0 n
    have f2 : r2 = if a < 0 ∧ c < 0 then -1 else 1 := by
      rcases h2 with ⟨_, e⟩ | ⟨n, _⟩
      · exact e
      · exact absurd p0 n
    refine .inl ⟨p0, ?_⟩
    rw [f1, f2]
    rcases Int.lt_or_gt_of_ne b0 with b1 | b1 <;> rcases Int.lt_or_gt_of_ne c0 with c1 | c1
    · have : 0 < b * c := Int.mul_pos_of_neg_of_neg b1 c1
      by_cases a1 : a < 0
      · rw [if_pos ⟨a1, b1⟩, if_pos ⟨a1, c1⟩, if_neg (by omega)]; rfl
      · rw [if_neg (fun z => a1 z.1), if_neg (fun z => a1 z.1), if_neg (fun z => a1 z.1)]; rfl
    · have : b * c < 0 := Int.mul_neg_of_neg_of_pos b1 c1
      by_cases a1 : a < 0
      · rw [if_pos ⟨a1, b1⟩, if_neg (by omega), if_pos (by omega)]; rfl
      · rw [if_neg (fun z => a1 z.1), if_neg (fun z => a1 z.1), if_neg (fun z => a1 z.1)]; rfl
    · have : b * c < 0 := Int.mul_neg_of_pos_of_neg b1 c1
      by_cases a1 : a < 0
      · rw [if_pos (by omega : a < 0 ∧ c < 0), if_neg (by omega), if_pos (by omega)]; rfl
      · rw [if_neg (fun z => a1 z.1), if_neg (fun z => a1 z.1), if_neg (fun z => a1 z.1)]; rfl
    · have : 0 < b * c := Int.mul_pos b1 c1
      rw [if_neg (by omega), if_neg (by omega), if_neg (by omega)]; rfl
  · have p2 := hp.1
    obtain ⟨p0, s, t, u, v, g1, g2, e1⟩ := h1.resolve_left (fun z => by omega)
    obtain ⟨_, s', t', u', v', k1, k2, e2⟩ := h2.resolve_left (fun z => by omega)
    obtain ⟨es, eu⟩ := strip_unique hp k1 g1
    subst es eu
    refine .inr ⟨p0, s', t + t', u', v * v', k1, ?_, ?_⟩
    · constructor
      · rw [g2.1, k2.1, Int.pow_add]
        grind
      · intro z
        rcases prime_mul hp (Int.dvd_of_emod_eq_zero z) with d | d
        · exact g2.2 (Int.emod_eq_zero_of_dvd d)
        · exact k2.2 (Int.emod_eq_zero_of_dvd d)
    · rw [e1, e2]
      rcases he with e | ⟨q, e, h3, h4⟩
      · subst e
        have h5 := g2.2
        have h6 := k2.2
        exact (sgn_mul2 (by omega) (by omega)).symm
      · subst e
        exact (sgn_mul_odd h3 h4 hp k1.2).symm
theorem hsign_sq {a b p r : Int} (hp : p = 0 ∨ PrP p) (h : HSign a b p r) : r = 1 ∨ r = -1 := by
  rcases h with ⟨_, e⟩ | ⟨p0, s, t, u, v, g1, g2, e⟩
  · rw [e]; split
    · exact .inr rfl
    · exact .inl rfl
  · have hp := hp.resolve_left p0
    have pm : ∀ x : Int, x * x = 1 → x = 1 ∨ x = -1 := fun x h => by
      have : x.natAbs * x.natAbs = 1 := by rw [← Int.natAbs_mul, h]; rfl
      have := Nat.eq_one_of_mul_eq_one_left this
      omega
    apply pm
    rw [e]
    unfold sgnAt
    split
    · split <;> rfl
    · have m1 : (-1 : Int) % p ≠ 0 := fun z => prime_one hp ((Int.dvd_neg).mp (Int.dvd_of_emod_eq_zero z))
      have r1 := rest_unit m1
      have r2 := rest_unit g1.2
      have r3 := rest_unit g2.2
      have q1 : (if s * t % 2 = 1 then restSign (-1) p else 1) * (if s * t % 2 = 1 then restSign (-1) p else 1) = 1 := by split <;> simp_all
      have q2 : (if t % 2 = 1 then restSign u p else 1) * (if t % 2 = 1 then restSign u p else 1) = 1 := by split <;> simp_all
      have q3 : (if s % 2 = 1 then restSign v p else 1) * (if s % 2 = 1 then restSign v p else 1) = 1 := by split <;> simp_all
      grind
/-! ### pairs with the sign 1 everywhere -/
theorem rest_one {n p : Int} (hp : 2 < p) (h : n % p = 1) : restSign n p = 1 := by
  unfold restSign
  rw [if_neg (by omega), if_neg (by omega), ← pow_mod, h, Int.one_pow, if_pos (Int.emod_eq_of_lt (by decide) (by omega))]
theorem hs_one {b p r : Int} (hp : p = 0 ∨ PrP p) (h : HSign 1 b p r) : r = 1 := by
  rcases h with ⟨_, e⟩ | ⟨p0, s, t, u, v, g1, g2, e⟩
  · rw [e]; rfl
  · have hp := hp.resolve_left p0
    have p2 := hp.1
    have z := strip_unique hp g1 (show Strip 1 p 0 1 from ⟨by rw [Int.pow_zero]; rfl, by rw [Int.emod_eq_of_lt (by decide) (by omega)]; decide⟩)
    rw [e, z.1, z.2]
    unfold sgnAt
    by_cases c : p = 2
    · rw [if_pos c, if_neg (by simp)]
    · rw [if_neg c, rest_one (by omega) (Int.emod_eq_of_lt (by decide) (by omega))]
      simp
theorem hs_neg {a p r : Int} (hp : GoodPl p) (a0 : a ≠ 0) (h : HSign a (-a) p r) : r = 1 := by
  rcases hp with p0 | ⟨hp, he⟩
  · rcases h with ⟨_, e⟩ | ⟨n, _⟩
    · rw [e, if_neg (by omega)]
    · exact absurd p0 n
  · have p2 := hp.1
    obtain ⟨p0, s, t, u, v, g1, g2, e⟩ := h.resolve_left (fun z => by omega)
    have hn : Strip (-a) p s (-u) := ⟨by rw [g1.1, Int.mul_neg], fun z => g1.2 (Int.emod_eq_zero_of_dvd ((Int.dvd_neg).mp (Int.dvd_of_emod_eq_zero z)))⟩
    obtain ⟨e1, e2⟩ := strip_unique hp g2 hn
    rw [e, e1, e2]
    rcases he with c | ⟨q, c, h3, h4⟩
    · subst c
      rw [sgn2, if_neg ?_]
      unfold par2
      have hu := g1.2
      have h1 : u = 2 * ((u - 1) / 2) + 1 := by omega
      have h2 : (-u - 1) / 2 = -((u - 1) / 2) - 1 := by omega
      rw [h2, Int.neg_mul_neg]
      generalize (u - 1) / 2 = k
      have : (k * (-k - 1)) % 2 = 0 := by
        rcases (by omega : k % 2 = 0 ∨ k % 2 = 1) with c | c
        · have := par_mul k (-k - 1) 0 (-k - 1) (by omega) rfl
          omega
        · have := par_mul k (-k - 1) k 0 rfl (by omega)
          omega
      omega
    · subst c
      have n2 : ¬ (q : Int) = 2 := by omega
      have m1 : (-1 : Int) % (q : Int) ≠ 0 := fun z => prime_one hp ((Int.dvd_neg).mp (Int.dvd_of_emod_eq_zero z))
      have r1 := rest_unit m1
      have r2 := rest_unit g1.2
      unfold sgnAt
      rw [if_neg n2]
      have en : -u = (-1) * u := by omega
      rw [en, sign_mul h3 h4 hp]
      have k2 : s * s % 2 = (s % 2) * (s % 2) % 2 := by rw [Nat.mul_mod]
      rw [k2]
      rcases (by omega : s % 2 = 0 ∨ s % 2 = 1) with c | c
      · rw [c]; simp
      · rw [c]; simp; grind
theorem hs_even {b p r : Int} (hp : p = 0 ∨ PrP p) (b0 : b ≠ 0) (b1 : b ≠ 1) (hb : p = 2 → b % 2 = 0) (h : HSign b (1 - b) p r) : r = 1 := by
  rcases h with ⟨_, e⟩ | ⟨p0, s, t, u, v, g1, g2, e⟩
  · rw [e, if_neg (by omega)]
  · have hp := hp.resolve_left p0
    have p2 := hp.1
    by_cases c : p = 2
    · subst c
      have hb := hb rfl
      have z2 := strip_unique hp g2 (show Strip (1 - b) 2 0 (1 - b) from ⟨by rw [Int.pow_zero, Int.one_mul], by omega⟩)
      rw [e, z2.1, z2.2, sgn2, if_neg ?_]
      unfold par2
      have hu := g1.2
      have e1 := g1.1
      rcases s with _ | _ | _ | s
      · rw [Int.pow_zero, Int.one_mul] at e1
        omega
      · have eb : b = 2 * u := by rw [e1]; rfl
        rw [eb]
        have h1 : u = 2 * ((u - 1) / 2) + 1 := by omega
        generalize (u - 1) / 2 = k at h1 ⊢
        have f1 : (1 - 2 * u - 1) / 2 = -u := by omega
        have f2 : ((1 - 2 * u) * (1 - 2 * u) - 1) / 8 = 2 * (k * k) + k := by
          have : (1 - 2 * u) * (1 - 2 * u) = 8 * (2 * (k * k) + k) + 1 := by rw [h1]; grind
          omega
        rw [f1, f2, h1]
        have f3 : k * -(2 * k + 1) = -(2 * (k * k)) - k := by grind
        rw [f3]
        omega
      · have eb : b = 4 * u := by rw [e1]; rfl
        rw [eb]
        have f1 : (1 - 4 * u - 1) / 2 = 2 * (-u) := by omega
        rw [f1]
        have f2 : (u - 1) / 2 * (2 * -u) = 2 * ((u - 1) / 2 * -u) := by grind
        rw [f2]
        omega
      · have eb : b = 8 * (2 ^ s * u) := by rw [e1, Int.pow_succ, Int.pow_succ, Int.pow_succ]; grind
        generalize 2 ^ s * u = m at eb
        rw [eb]
        have f1 : (1 - 8 * m - 1) / 2 = 2 * (-(2 * m)) := by omega
        have f2 : ((1 - 8 * m) * (1 - 8 * m) - 1) / 8 = 2 * (4 * (m * m) - m) := by
          have : (1 - 8 * m) * (1 - 8 * m) = 16 * (4 * (m * m) - m) + 1 := by grind
          omega
        rw [f1, f2]
        have f3 : (u - 1) / 2 * (2 * -(2 * m)) = 2 * ((u - 1) / 2 * -(2 * m)) := by grind
        have f4 : ((s + 1 + 1 + 1 : Nat) : Int) * (2 * (4 * (m * m) - m)) = 2 * (((s + 1 + 1 + 1 : Nat) : Int) * (4 * (m * m) - m)) := by grind
        rw [f3, f4]
        omega
    · have p3 : 2 < p := by omega
      rw [e]
      unfold sgnAt
      rw [if_neg c]
      by_cases d1 : b % p = 0
      · have d2 : (1 - b) % p = 1 := by
          have := Int.dvd_of_emod_eq_zero d1
          obtain ⟨k, hk⟩ := this
          rw [hk, Int.sub_eq_add_neg, ← Int.mul_neg, Int.add_mul_emod_self_left]
          exact Int.emod_eq_of_lt (by decide) (by omega)
        have z2 := strip_unique hp g2 (show Strip (1 - b) p 0 (1 - b) from ⟨by rw [Int.pow_zero, Int.one_mul], by rw [d2]; decide⟩)
        rw [z2.1, z2.2, rest_one p3 d2]
        simp
      · have z1 := strip_unique hp g1 (show Strip b p 0 b from ⟨by rw [Int.pow_zero, Int.one_mul], d1⟩)
        rw [z1.1, z1.2]
        by_cases d2 : (1 - b) % p = 0
        · have d3 : b % p = 1 := by
            obtain ⟨k, hk⟩ := Int.dvd_of_emod_eq_zero d2
            have : b = 1 + p * (-k) := by rw [Int.mul_neg]; omega
            rw [this, Int.add_mul_emod_self_left]
            exact Int.emod_eq_of_lt (by decide) (by omega)
          rw [rest_one p3 d3]
          simp
        · have z2 := strip_unique hp g2 (show Strip (1 - b) p 0 (1 - b) from ⟨by rw [Int.pow_zero, Int.one_mul], d2⟩)
          rw [z2.1]
          simp
theorem hs_flip {b p r : Int} (hp : p = 0 ∨ PrP p) (b0 : b ≠ 0) (b1 : b ≠ 1) (h : HSign b (1 - b) p r) : r = 1 := by
  by_cases c : b % 2 = 0
  · exact hs_even hp b0 b1 (fun _ => c) h
  · have e : b = 1 - (1 - b) := by omega
    refine hs_even (b := 1 - b) hp (by omega) (by omega) (fun _ => by omega) ?_
    rw [← e]
    exact hsign_comm h
end Sf

namespace Sf
open PySem PySem.Spec PyProof.Rows L2
/-! Fermat's little theorem by the residues that a multiplication exchanges; residue signs multiply for every prime -/
theorem perm_sub : ∀ {l m : List Int}, l.Nodup → m.Nodup → (∀ x ∈ l, x ∈ m) → m.length ≤ l.length → l.Perm m
  | [], m, _, _, _, h => by
    have : m = [] := List.eq_nil_of_length_eq_zero (by simpa using h)
    rw [this]
  | x :: l, m, hl, hm, hs, h => by
    have hx := hs x List.mem_cons_self
    have p := List.perm_cons_erase hx
    have hl' := List.nodup_cons.mp hl
    refine (List.Perm.cons x (perm_sub hl'.2 (hm.erase x) (fun y hy => ?_) ?_)).trans p.symm
    · have ne : y ≠ x := fun z => hl'.1 (z ▸ hy)
      exact (List.mem_erase_of_ne ne).mpr (hs y (List.mem_cons_of_mem _ hy))
    · rw [List.length_erase_of_mem hx]
      have := h
      rw [List.length_cons] at this
      omega
def prL (l : List Int) : Int := l.foldr (· * ·) 1
theorem prL_perm {l m : List Int} (h : l.Perm m) : prL l = prL m := by
  induction h with
  | nil => rfl
  | cons x _ ih => show x * prL _ = x * prL _; rw [ih]
  | swap x y l =>
    show y * (x * prL l) = x * (y * prL l)
    rw [← Int.mul_assoc, ← Int.mul_assoc, Int.mul_comm y x]
  | trans _ _ h1 h2 => exact h1.trans h2
theorem prL_mod (a p : Int) : ∀ l : List Int, prL (l.map fun x => a * x % p) % p = a ^ l.length * prL l % p
  | [] => by
    show (1 : Int) % p = a ^ 0 * 1 % p
    rw [Int.pow_zero, Int.mul_one]
  | x :: l => by
    show (a * x % p) * prL (l.map fun x => a * x % p) % p = a ^ (l.length + 1) * (x * prL l) % p
    rw [Int.mul_emod, prL_mod a p l, Int.emod_emod, ← Int.mul_emod, Int.pow_succ]
    congr 1
    grind
theorem prL_prime {p : Int} (hp : PrP p) : ∀ {l : List Int}, (∀ x ∈ l, ¬ p ∣ x) → ¬ p ∣ prL l
  | [], _ => prime_one hp
  | x :: l, h => fun z => by
    rcases prime_mul hp (show p ∣ x * prL l from z) with y | y
    · exact h x List.mem_cons_self y
    · exact prL_prime hp (fun x hx => h x (List.mem_cons_of_mem _ hx)) y
def resL (p : Nat) : List Int := (List.range' 1 (p - 1)).map fun x : Nat => (x : Int)
theorem resL_mem {p : Nat} (hp : 1 ≤ p) {x : Int} : x ∈ resL p ↔ 1 ≤ x ∧ x < p := by
  unfold resL
  rw [List.mem_map]
  constructor
  · rintro ⟨y, hy, rfl⟩
    have := List.mem_range'_1.mp hy
    omega
  · rintro ⟨h1, h2⟩
    exact ⟨x.toNat, List.mem_range'_1.mpr (by omega), by omega⟩
theorem resL_nodup (p : Nat) : (resL p).Nodup := by
  unfold resL
  refine List.pairwise_map.mpr (List.Pairwise.imp (fun {a b : Nat} (h : a ≠ b) (e : (a : Int) = b) => h (by omega)) (List.nodup_range' (s := 1) (n := p - 1)))
theorem small_dvd {p x : Int} (h : p ∣ x) (h1 : -p < x) (h2 : x < p) : x = 0 := by
  obtain ⟨k, rfl⟩ := h
  have hp : 0 < p := by omega
  by_cases k0 : k = 0
  · rw [k0, Int.mul_zero]
  · exfalso
    by_cases kp : 0 < k
    · have : p * 1 ≤ p * k := Int.mul_le_mul_of_nonneg_left (by omega) (by omega)
      omega
    · have : p * k ≤ p * (-1) := Int.mul_le_mul_of_nonneg_left (by omega) (by omega)
      omega
theorem fermat {p : Nat} (hp : PrP (p : Int)) {a : Int} (ha : ¬ (p : Int) ∣ a) : a ^ (p - 1) % (p : Int) = 1 := by
  have p2 := hp.1
  have hf : ∀ x ∈ resL p, ¬ (p : Int) ∣ x := fun x hx z => by
    have h := (resL_mem (by omega)).mp hx
    have := small_dvd z (by omega) h.2
    omega
  have nd : ((resL p).map fun x => a * x % (p : Int)).Nodup := by
    refine List.pairwise_map.mpr (List.Pairwise.imp_of_mem (fun {x y} hx hy ne e => ne ?_) (resL_nodup p))
    have h1 := (resL_mem (by omega)).mp hx
    have h2 := (resL_mem (by omega)).mp hy
    have d : (p : Int) ∣ a * (x - y) := by
      rw [Int.mul_sub]
      exact Int.dvd_of_emod_eq_zero (Int.emod_eq_emod_iff_emod_sub_eq_zero.mp e)
    rcases prime_mul hp d with z | z
    · exact absurd z ha
    · have := small_dvd z (by omega) (by omega)
      omega
  have sub : ∀ y ∈ (resL p).map fun x => a * x % (p : Int), y ∈ resL p := fun y hy => by
    obtain ⟨x, hx, rfl⟩ := List.mem_map.mp hy
    have h3 := Int.emod_nonneg (a * x) (by omega : (p : Int) ≠ 0)
    have h4 := Int.emod_lt_of_pos (a * x) (by omega : (0 : Int) < p)
    refine (resL_mem (by omega)).mpr ⟨?_, h4⟩
    by_cases z : a * x % (p : Int) = 0
    · rcases prime_mul hp (Int.dvd_of_emod_eq_zero z) with y | y
      · exact absurd y ha
      · exact absurd y (hf x hx)
    · omega
  have pm := perm_sub nd (resL_nodup p) sub (by rw [List.length_map]; exact Nat.le_refl _)
  have e := prL_mod a p (resL p)
  rw [prL_perm pm] at e
  have len : (resL p).length = p - 1 := by unfold resL; rw [List.length_map, List.length_range']
  rw [len] at e
  have d : (p : Int) ∣ (a ^ (p - 1) - 1) * prL (resL p) := by
    rw [Int.sub_mul, Int.one_mul]
    exact Int.dvd_of_emod_eq_zero (Int.emod_eq_emod_iff_emod_sub_eq_zero.mp e.symm)
  rcases prime_mul hp d with z | z
  · have h := Int.emod_eq_emod_iff_emod_sub_eq_zero.mpr (Int.emod_eq_zero_of_dvd z)
    rw [h]
    exact Int.emod_eq_of_lt (by omega) (by omega)
  · exact absurd z (prL_prime hp hf)
/-- a power by half of p - 1 leaves 1 or p - 1 -/
theorem half_two {p : Nat} (hp : PrP (p : Int)) (h3 : p ≠ 2) {a : Int} (ha : a % (p : Int) ≠ 0) : a ^ ((p - 1) / 2) % (p : Int) = 1 ∨ a ^ ((p - 1) / 2) % (p : Int) = p - 1 := by
  have p2 := hp.1
  have odd : p % 2 = 1 := by
    have h := hp.2 2 (by omega)
    by_cases z : p % 2 = 1
    · exact z
    · exact absurd (by omega) (h (by omega))
  have f := fermat hp (fun z => ha (Int.emod_eq_zero_of_dvd z))
  have e : p - 1 = (p - 1) / 2 + (p - 1) / 2 := by omega
  rw [e, Int.pow_add] at f
  generalize a ^ ((p - 1) / 2) = c at f ⊢
  have d : (p : Int) ∣ (c - 1) * (c + 1) := by
    have h : c * c % (p : Int) = 1 % (p : Int) := by rw [f, Int.emod_eq_of_lt (by omega) (by omega)]
    have g := Int.dvd_of_emod_eq_zero (Int.emod_eq_emod_iff_emod_sub_eq_zero.mp h)
    have ee : (c - 1) * (c + 1) = c * c - 1 := by grind
    rw [ee]
    exact g
  rcases prime_mul hp d with z | z
  · left
    have h := Int.emod_eq_emod_iff_emod_sub_eq_zero.mpr (Int.emod_eq_zero_of_dvd z)
    rw [h]
    exact Int.emod_eq_of_lt (by omega) (by omega)
  · right
    have h : c % (p : Int) = (-1) % (p : Int) := Int.emod_eq_emod_iff_emod_sub_eq_zero.mpr (Int.emod_eq_zero_of_dvd (by
      have ee : c - -1 = c + 1 := by omega
      rw [ee]
      exact z))
    have m1 : (-1 : Int) % (p : Int) = p - 1 := by
      have e1 : (-1 : Int) % (p : Int) = (-1 + p * 1) % (p : Int) := (Int.add_mul_emod_self_left ..).symm
      rw [e1, Int.emod_eq_of_lt (by omega) (by omega)]
      omega
    rw [h, m1]
/-- residue signs multiply, for every prime -/
theorem sign_all {p : Int} (hq : PrP p) (a b : Int) : restSign (a * b) p = restSign a p * restSign b p := by
  by_cases h2 : p = 2
  · rw [h2]
    exact sign_mul2 a b
  obtain ⟨n, rfl⟩ : ∃ n : Nat, p = n := ⟨p.toNat, by have := hq.1; omega⟩
  have p2 := hq.1
  have n2 : n ≠ 2 := fun z => h2 (by rw [z]; rfl)
  unfold restSign
  by_cases ha : a % (n : Int) = 0
  · have hab : a * b % (n : Int) = 0 := Int.emod_eq_zero_of_dvd (Int.dvd_mul_of_dvd_left (Int.dvd_of_emod_eq_zero ha))
    rw [if_pos ha, if_pos hab, Int.zero_mul]
  by_cases hb : b % (n : Int) = 0
  · have hab : a * b % (n : Int) = 0 := Int.emod_eq_zero_of_dvd (Int.dvd_mul_of_dvd_right (Int.dvd_of_emod_eq_zero hb))
    rw [if_pos hb, if_pos hab, Int.mul_zero]
  have hab : ¬ a * b % (n : Int) = 0 := fun z => by
    rcases prime_mul hq (Int.dvd_of_emod_eq_zero z) with y | y
    · exact ha (Int.emod_eq_zero_of_dvd y)
    · exact hb (Int.emod_eq_zero_of_dvd y)
  rw [if_neg ha, if_neg hb, if_neg hab, if_neg h2, if_neg h2, if_neg h2, half_cast n (by omega)]
  have e1 := half_two hq n2 ha
  have e2 := half_two hq n2 hb
  have pm : (a * b) ^ ((n - 1) / 2) % (n : Int) = ((a ^ ((n - 1) / 2) % (n : Int)) * (b ^ ((n - 1) / 2) % (n : Int))) % (n : Int) := by rw [Int.mul_pow, Int.mul_emod]
  have q1 : ((n : Int) - 1) * ((n : Int) - 1) % (n : Int) = 1 := by
    have : ((n : Int) - 1) * ((n : Int) - 1) = 1 + n * (n - 2) := by grind
    rw [this, Int.add_mul_emod_self_left]
    exact Int.emod_eq_of_lt (by omega) (by omega)
  have q2 : ((n : Int) - 1) % (n : Int) = n - 1 := Int.emod_eq_of_lt (by omega) (by omega)
  have q3 : (1 : Int) % (n : Int) = 1 := Int.emod_eq_of_lt (by omega) (by omega)
  have n1 : ¬ ((n : Int) - 1) = 1 := by omega
  rw [pm]
  rcases e1 with e1 | e1 <;> rcases e2 with e2 | e2 <;> rw [e1, e2]
  · rw [Int.one_mul, q3]; rfl
  · rw [Int.one_mul, q2, if_neg n1]; rfl
  · rw [Int.mul_one, q2, if_neg n1]; rfl
  · rw [q1, if_neg n1]; rfl
/-- the sign of a square that the prime doesn't divide -/
theorem sign_sq {p : Int} (hq : PrP p) {a : Int} (ha : a % p ≠ 0) : restSign (a * a) p = 1 := by
  rw [sign_all hq, rest_unit ha]
end Sf

namespace Sf
open PySem PySem.Spec PyProof.Rows L2
/-! Gauss's lemma; quadratic reciprocity by Eisenstein's count -/
def sumL (l : List Int) : Int := l.foldr (· + ·) 0
theorem sumL_perm {l m : List Int} (h : l.Perm m) : sumL l = sumL m := by
  induction h with
  | nil => rfl
  | cons x _ ih => show x + sumL _ = x + sumL _; rw [ih]
  | swap x y l => show y + (x + sumL l) = x + (y + sumL l); omega
  | trans _ _ h1 h2 => exact h1.trans h2
theorem sumL_append (l m : List Int) : sumL (l ++ m) = sumL l + sumL m := by
  induction l with
  | nil => show sumL m = 0 + sumL m; omega
  | cons x l ih => show x + sumL (l ++ m) = x + sumL l + sumL m; rw [ih]; omega
theorem sumL_add (f g : Int → Int) : ∀ l : List Int, sumL (l.map fun x => f x + g x) = sumL (l.map f) + sumL (l.map g)
  | [] => rfl
  | x :: l => by
    show f x + g x + sumL (l.map fun x => f x + g x) = f x + sumL (l.map f) + (g x + sumL (l.map g))
    rw [sumL_add f g l]
    omega
theorem sumL_swap (g : Int → Int → Int) (m : List Int) : ∀ l : List Int, sumL (l.map fun x => sumL (m.map fun y => g x y)) = sumL (m.map fun y => sumL (l.map fun x => g x y))
  | [] => by
    show (0 : Int) = sumL (m.map fun _ => 0)
    induction m with
    | nil => rfl
    | cons y m ih => show (0 : Int) = 0 + sumL (m.map fun _ => 0); omega
  | x :: l => by
    show sumL (m.map fun y => g x y) + sumL (l.map fun x => sumL (m.map fun y => g x y)) = sumL (m.map fun y => g x y + sumL (l.map fun x => g x y))
    rw [sumL_swap g m l, sumL_add]
theorem sumL_congr {f g : Int → Int} : ∀ {l : List Int}, (∀ x ∈ l, f x = g x) → sumL (l.map f) = sumL (l.map g)
  | [], _ => rfl
  | x :: l, h => by
    show f x + sumL (l.map f) = g x + sumL (l.map g)
    rw [h x List.mem_cons_self, sumL_congr fun y hy => h y (List.mem_cons_of_mem _ hy)]
theorem sumL_one (l : List Int) : sumL (l.map fun _ => 1) = l.length := by
  induction l with
  | nil => rfl
  | cons x l ih => show 1 + sumL (l.map fun _ => 1) = _; rw [ih, List.length_cons]; omega
def halfL (p : Nat) : List Int := (List.range' 1 ((p - 1) / 2)).map fun x : Nat => (x : Int)
theorem halfL_mem {p : Nat} {x : Int} : x ∈ halfL p ↔ 1 ≤ x ∧ x ≤ (((p - 1) / 2 : Nat) : Int) := by
  unfold halfL
  rw [List.mem_map]
  constructor
  · rintro ⟨y, hy, rfl⟩
    have := List.mem_range'_1.mp hy
    omega
  · rintro ⟨h1, h2⟩
    exact ⟨x.toNat, List.mem_range'_1.mpr (by omega), by omega⟩
theorem halfL_nodup (p : Nat) : (halfL p).Nodup := by
  unfold halfL
  exact List.pairwise_map.mpr (List.Pairwise.imp (fun {a b : Nat} (h : a ≠ b) (e : (a : Int) = b) => h (by omega)) (List.nodup_range' (s := 1) (n := (p - 1) / 2)))
theorem halfL_len (p : Nat) : (halfL p).length = (p - 1) / 2 := by
  unfold halfL
  rw [List.length_map, List.length_range']
def gsT (p : Nat) (a x : Int) : Int := if a * x % p ≤ (((p - 1) / 2 : Nat) : Int) then a * x % p else p - a * x % p
def gsM (p : Nat) (a x : Int) : Int := if a * x % p ≤ (((p - 1) / 2 : Nat) : Int) then 0 else 1
def muG (p : Nat) (a : Int) : Int := sumL ((halfL p).map (gsM p a))
def sgP (n : Int) : Int := if n % 2 = 1 then -1 else 1
theorem sgP_add (m n : Int) : sgP (m + n) = sgP m * sgP n := by
  unfold sgP
  by_cases c1 : m % 2 = 1 <;> by_cases c2 : n % 2 = 1
  · rw [if_pos c1, if_pos c2, if_neg (by omega)]; rfl
  · rw [if_pos c1, if_neg c2, if_pos (by omega)]; rfl
  · rw [if_neg c1, if_pos c2, if_pos (by omega)]; rfl
  · rw [if_neg c1, if_neg c2, if_neg (by omega)]; rfl
theorem sgP_par {m n : Int} (h : m % 2 = n % 2) : sgP m = sgP n := by
  unfold sgP
  rw [h]
theorem odd_prime {p : Nat} (hp : PrP (p : Int)) (h2 : p ≠ 2) : p % 2 = 1 := by
  have h := hp.2 2 (by omega)
  have := hp.1
  by_cases z : p % 2 = 1
  · exact z
  · exact absurd (by omega) (h (by omega))
section
variable {p : Nat} {a : Int}
theorem gs_perm (hp : PrP (p : Int)) (h2 : p ≠ 2) (ha : ¬ (p : Int) ∣ a) : ((halfL p).map (gsT p a)).Perm (halfL p) := by
  have p2 := hp.1
  have odd := odd_prime hp h2
  have rr : ∀ x ∈ halfL p, 1 ≤ a * x % (p : Int) ∧ a * x % (p : Int) < p := fun x hx => by
    have h := halfL_mem.mp hx
    have h3 := Int.emod_nonneg (a * x) (by omega : (p : Int) ≠ 0)
    have h4 := Int.emod_lt_of_pos (a * x) (by omega : (0 : Int) < p)
    refine ⟨?_, h4⟩
    by_cases z : a * x % (p : Int) = 0
    · rcases prime_mul hp (Int.dvd_of_emod_eq_zero z) with y | y
      · exact absurd y ha
      · have := small_dvd y (by omega) (by omega)
        omega
    · omega
  refine perm_sub ?_ (halfL_nodup p) (fun y hy => ?_) (by rw [List.length_map]; exact Nat.le_refl _)
  · refine List.pairwise_map.mpr (List.Pairwise.imp_of_mem (fun {x y} hx hy ne e => ne ?_) (halfL_nodup p))
    have h1 := halfL_mem.mp hx
    have h3 := halfL_mem.mp hy
    have r1 := rr x hx
    have r2 := rr y hy
    have d1 : (p : Int) ∣ a * (x - y) ∨ (p : Int) ∣ a * (x + y) := by
      have e1 := Int.emod_add_mul_ediv (a * x) p
      have e2 := Int.emod_add_mul_ediv (a * y) p
      have c : a * x % (p : Int) = a * y % (p : Int) ∨ a * x % (p : Int) + a * y % (p : Int) = p := by
        unfold gsT at e
        split at e <;> split at e <;> omega
      rcases c with c | c
      · left
        refine ⟨a * x / p - a * y / p, ?_⟩
        rw [Int.mul_sub, Int.mul_sub]
        omega
      · right
        refine ⟨a * x / p + a * y / p + 1, ?_⟩
        rw [Int.mul_add, Int.mul_add, Int.mul_add]
        omega
    rcases d1 with d | d <;> rcases prime_mul hp d with z | z
    · exact absurd z ha
    · have := small_dvd z (by omega) (by omega)
      omega
    · exact absurd z ha
    · have := small_dvd z (by omega) (by omega)
      omega
  · obtain ⟨x, hx, rfl⟩ := List.mem_map.mp hy
    have r1 := rr x hx
    refine halfL_mem.mpr ?_
    unfold gsT
    split <;> omega
theorem gs_prod : ∀ l : List Int, prL (l.map fun x => a * x % (p : Int)) % (p : Int) = sgP (sumL (l.map (gsM p a))) * prL (l.map (gsT p a)) % (p : Int)
  | [] => rfl
  | x :: l => by
    show (a * x % (p : Int)) * prL (l.map fun x => a * x % (p : Int)) % (p : Int) = sgP (gsM p a x + sumL (l.map (gsM p a))) * (gsT p a x * prL (l.map (gsT p a))) % (p : Int)
    have e1 : (a * x % (p : Int)) % (p : Int) = sgP (gsM p a x) * gsT p a x % (p : Int) := by
      unfold gsM gsT
      by_cases c : a * x % (p : Int) ≤ (((p - 1) / 2 : Nat) : Int)
      · rw [if_pos c, if_pos c]
        show _ = 1 * (a * x % (p : Int)) % (p : Int)
        rw [Int.one_mul]
      · rw [if_neg c, if_neg c]
        show _ = -1 * ((p : Int) - a * x % (p : Int)) % (p : Int)
        have : -1 * ((p : Int) - a * x % (p : Int)) = a * x % (p : Int) + p * (-1) := by omega
        rw [this, Int.add_mul_emod_self_left]
    rw [Int.mul_emod, e1, gs_prod l, ← Int.mul_emod, sgP_add]
    congr 1
    grind
theorem gauss (hp : PrP (p : Int)) (h2 : p ≠ 2) (ha : ¬ (p : Int) ∣ a) : restSign a p = sgP (muG p a) := by
  have p2 := hp.1
  have odd := odd_prime hp h2
  have e1 := prL_mod a p (halfL p)
  rw [gs_prod, halfL_len, prL_perm (gs_perm hp h2 ha)] at e1
  have nf : ¬ (p : Int) ∣ prL (halfL p) := prL_prime hp fun x hx z => by
    have h := halfL_mem.mp hx
    have := small_dvd z (by omega) (by omega)
    omega
  have d : (p : Int) ∣ (a ^ ((p - 1) / 2) - sgP (muG p a)) * prL (halfL p) := by
    rw [Int.sub_mul]
    exact Int.dvd_of_emod_eq_zero (Int.emod_eq_emod_iff_emod_sub_eq_zero.mp e1.symm)
  have d2 := (prime_mul hp d).resolve_right nf
  have e2 : a ^ ((p - 1) / 2) % (p : Int) = sgP (muG p a) % (p : Int) := Int.emod_eq_emod_iff_emod_sub_eq_zero.mpr (Int.emod_eq_zero_of_dvd d2)
  unfold restSign
  rw [if_neg (fun z => ha (Int.dvd_of_emod_eq_zero z)), if_neg (by omega), half_cast p (by omega), e2]
  unfold sgP
  by_cases c : muG p a % 2 = 1
  · rw [if_pos c]
    have : (-1 : Int) % (p : Int) = p - 1 := by
      have e3 : (-1 : Int) % (p : Int) = (-1 + p * 1) % (p : Int) := (Int.add_mul_emod_self_left ..).symm
      rw [e3, Int.emod_eq_of_lt (by omega) (by omega)]
      omega
    rw [this, if_neg (by omega)]
  · rw [if_neg c, if_pos (Int.emod_eq_of_lt (by omega) (by omega))]
theorem gs_rest (odd : p % 2 = 1) : ∀ l : List Int, sumL (l.map fun x => a * x % (p : Int)) % 2 = (sumL (l.map (gsT p a)) + sumL (l.map (gsM p a))) % 2
  | [] => rfl
  | x :: l => by
    have ih := gs_rest odd l
    show (a * x % (p : Int) + sumL (l.map fun x => a * x % (p : Int))) % 2 = (gsT p a x + sumL (l.map (gsT p a)) + (gsM p a x + sumL (l.map (gsM p a)))) % 2
    have e : (a * x % (p : Int)) % 2 = (gsT p a x + gsM p a x) % 2 := by
      unfold gsT gsM
      split <;> omega
    omega
theorem gs_div : ∀ l : List Int, a * sumL l = p * sumL (l.map fun x => a * x / (p : Int)) + sumL (l.map fun x => a * x % (p : Int))
  | [] => by show a * 0 = p * 0 + 0; omega
  | x :: l => by
    have ih := gs_div l
    show a * (x + sumL l) = p * (a * x / (p : Int) + sumL (l.map fun x => a * x / (p : Int))) + (a * x % (p : Int) + sumL (l.map fun x => a * x % (p : Int)))
    have e := Int.emod_add_mul_ediv (a * x) p
    rw [Int.mul_add, Int.mul_add]
    omega
theorem mu_par (hp : PrP (p : Int)) (h2 : p ≠ 2) (ha : ¬ (p : Int) ∣ a) : (a * sumL (halfL p)) % 2 = (sumL ((halfL p).map fun x => a * x / (p : Int)) + sumL (halfL p) + muG p a) % 2 := by
  have odd := odd_prime hp h2
  have e1 := gs_div (p := p) (a := a) (halfL p)
  have e2 := gs_rest odd (a := a) (halfL p)
  rw [sumL_perm (gs_perm hp h2 ha)] at e2
  unfold muG
  have e3 : (p : Int) * sumL ((halfL p).map fun x => a * x / (p : Int)) % 2 = sumL ((halfL p).map fun x => a * x / (p : Int)) % 2 := by
    rw [Int.mul_emod, show (p : Int) % 2 = 1 by omega, Int.one_mul, Int.emod_emod_of_dvd _ (Int.dvd_refl _)]
  omega
theorem mu_odd (hp : PrP (p : Int)) (h2 : p ≠ 2) (ha : ¬ (p : Int) ∣ a) (oa : a % 2 = 1) : muG p a % 2 = sumL ((halfL p).map fun x => a * x / (p : Int)) % 2 := by
  have e := mu_par hp h2 ha
  rw [Int.mul_emod, oa, Int.one_mul, Int.emod_emod_of_dvd _ (Int.dvd_refl _)] at e
  omega
end
theorem sum_half : ∀ n : Nat, 2 * sumL ((List.range' 1 n).map fun x : Nat => (x : Int)) = n * (n + 1)
  | 0 => rfl
  | n + 1 => by
    have ih := sum_half n
    rw [List.range'_1_concat, List.map_append, sumL_append, Int.mul_add, ih]
    show (n : Int) * (n + 1) + 2 * (((1 + n : Nat) : Int) + 0) = ((n + 1 : Nat) : Int) * (((n + 1 : Nat) : Int) + 1)
    push_cast
    grind
/-- the sign of -1 -/
theorem sup_neg {p : Nat} (hp : PrP (p : Int)) (h2 : p ≠ 2) : restSign (-1) p = sgP ((p - 1) / 2) := by
  have p2 := hp.1
  have odd := odd_prime hp h2
  rw [gauss hp h2 (fun z => prime_one hp ((Int.dvd_neg).mp z))]
  have e : muG p (-1) = (halfL p).length := by
    unfold muG
    rw [← sumL_one]
    refine sumL_congr fun x hx => ?_
    have h := halfL_mem.mp hx
    unfold gsM
    have : -1 * x % (p : Int) = p - x := by
      have e3 : (-1 * x) % (p : Int) = (-1 * x + p * 1) % (p : Int) := (Int.add_mul_emod_self_left ..).symm
      rw [e3, Int.emod_eq_of_lt (by omega) (by omega)]
      omega
    rw [this, if_neg (by omega)]
  rw [e, halfL_len]
  congr 1
  omega
/-- the sign of 2 -/
theorem sup_two {p : Nat} (hp : PrP (p : Int)) (h2 : p ≠ 2) : restSign 2 p = sgP (((p : Int) * p - 1) / 8) := by
  have p2 := hp.1
  have odd := odd_prime hp h2
  have nd : ¬ (p : Int) ∣ 2 := fun z => by
    have := Int.le_of_dvd (by omega) z
    omega
  rw [gauss hp h2 nd]
  refine sgP_par ?_
  have e := mu_par hp h2 nd
  have z : sumL ((halfL p).map fun x => 2 * x / (p : Int)) = 0 := by
    have e1 : sumL ((halfL p).map fun x => 2 * x / (p : Int)) = sumL ((halfL p).map fun _ => (0 : Int)) := sumL_congr fun x hx => by
      have h := halfL_mem.mp hx
      exact Int.ediv_eq_zero_of_lt (by omega) (by omega)
    rw [e1]
    have : ∀ l : List Int, sumL (l.map fun _ => (0 : Int)) = 0 := fun l => by
      induction l with
      | nil => rfl
      | cons x l ih => show 0 + sumL (l.map fun _ => (0 : Int)) = 0; omega
    exact this _
  rw [z] at e
  have s := sum_half ((p - 1) / 2)
  have s2 : 2 * sumL (halfL p) = (((p - 1) / 2 : Nat) : Int) * ((((p - 1) / 2 : Nat) : Int) + 1) := s
  generalize sumL (halfL p) = S at *
  obtain ⟨k, hk⟩ : ∃ k : Nat, p = 2 * k + 1 := ⟨(p - 1) / 2, by omega⟩
  have ek : (p - 1) / 2 = k := by omega
  rw [ek] at s2
  have e4 : ((p : Int) * p - 1) = 8 * S := by
    rw [hk]
    push_cast
    have : (2 * (k : Int) + 1) * (2 * k + 1) - 1 = 4 * (k * (k + 1)) := by grind
    omega
  rw [e4, Int.mul_ediv_cancel_left _ (by decide)]
  omega
theorem cnt_le : ∀ (k : Nat) (N : Int), 0 ≤ N → sumL (((List.range' 1 k).map fun x : Nat => (x : Int)).map fun y => if y ≤ N then 1 else 0) = if N ≤ k then N else k
  | 0, N, h => by
    show (0 : Int) = _
    by_cases c : N ≤ ((0 : Nat) : Int)
    · rw [if_pos c]; omega
    · rw [if_neg c]; rfl
  | k + 1, N, h => by
    rw [List.range'_1_concat, List.map_append, List.map_append, sumL_append, cnt_le k N h]
    show _ + ((if ((1 + k : Nat) : Int) ≤ N then (1 : Int) else 0) + 0) = _
    split <;> split <;> split <;> omega
theorem floors {p q : Nat} (hp : PrP (p : Int)) (hq : PrP (q : Int)) (p2 : p ≠ 2) (q2 : q ≠ 2) (ne : p ≠ q) : sumL ((halfL p).map fun x => (q : Int) * x / (p : Int)) = sumL ((halfL p).map fun x => sumL ((halfL q).map fun y => if (p : Int) * y < q * x then 1 else 0)) := by
  refine sumL_congr fun x hx => ?_
  have h := halfL_mem.mp hx
  have h1 := hp.1
  have h2 := hq.1
  have po := odd_prime hp p2
  have qo := odd_prime hq q2
  have nd : ¬ (p : Int) ∣ q * x := fun z => by
    rcases prime_mul hp z with y | y
    · have := prime_dvd_prime hp hq y
      omega
    · have := small_dvd y (by omega) (by omega)
      omega
  have n0 : 0 ≤ (q : Int) * x / p := Int.ediv_nonneg (Int.mul_nonneg (by omega) (by omega)) (by omega)
  have e1 : sumL ((halfL q).map fun y => if (p : Int) * y < q * x then 1 else 0) = sumL ((halfL q).map fun y => if y ≤ (q : Int) * x / p then 1 else 0) := sumL_congr fun y hy => by
    have i : (p : Int) * y < q * x ↔ y ≤ (q : Int) * x / p := by
      rw [Int.le_ediv_iff_mul_le (by omega), Int.mul_comm y]
      constructor
      · exact Int.le_of_lt
      · intro l
        rcases Int.lt_or_eq_of_le l with l | l
        · exact l
        · exact absurd ⟨y, l.symm⟩ nd
    simp only [i]
  rw [e1]
  unfold halfL
  rw [cnt_le _ _ n0]
  have le : (q : Int) * x / p ≤ (((q - 1) / 2 : Nat) : Int) := by
    have m := Int.ediv_mul_le ((q : Int) * x) (b := (p : Int)) (by omega)
    have l1 : (q : Int) * (2 * x) ≤ q * (p - 1) := Int.mul_le_mul_of_nonneg_left (by omega) (by omega)
    have l2 : (q : Int) * (2 * x) = 2 * (q * x) := by grind
    have l3 : (q : Int) * (p - 1) = p * q - q := by grind
    have l4 : (p : Int) * (2 * ((q : Int) * x / p)) < p * q := by
      have : (p : Int) * (2 * ((q : Int) * x / p)) = 2 * ((q : Int) * x / p * p) := by grind
      omega
    have l5 := Int.lt_of_mul_lt_mul_left l4 (by omega)
    omega
  rw [if_pos le]
/-- quadratic reciprocity -/
theorem recip {p q : Nat} (hp : PrP (p : Int)) (hq : PrP (q : Int)) (p2 : p ≠ 2) (q2 : q ≠ 2) (ne : p ≠ q) : restSign q p * restSign p q = sgP (((p : Int) - 1) / 2 * ((q - 1) / 2)) := by
  have h1 := hp.1
  have h2 := hq.1
  have po := odd_prime hp p2
  have qo := odd_prime hq q2
  have n1 : ¬ (p : Int) ∣ q := fun z => ne (by have := prime_dvd_prime hp hq z; omega)
  have n2 : ¬ (q : Int) ∣ p := fun z => ne (by have := prime_dvd_prime hq hp z; omega)
  rw [gauss hp p2 n1, gauss hq q2 n2, sgP_par (mu_odd hp p2 n1 (by omega)), sgP_par (mu_odd hq q2 n2 (by omega)), ← sgP_add, floors hp hq p2 q2 ne, floors hq hp q2 p2 (fun z => ne z.symm), sumL_swap (fun (y x : Int) => if (q : Int) * x < p * y then 1 else 0) (halfL p) (halfL q), ← sumL_add]
  have e1 : sumL ((halfL p).map fun x => sumL ((halfL q).map fun y => if (p : Int) * y < q * x then 1 else 0) + sumL ((halfL q).map fun y => if (q : Int) * x < p * y then 1 else 0)) = sumL ((halfL p).map fun _ => (((q - 1) / 2 : Nat) : Int)) := sumL_congr fun x hx => by
    rw [← sumL_add, ← halfL_len q, ← sumL_one]
    refine sumL_congr fun y hy => ?_
    have hx' := halfL_mem.mp hx
    have hy' := halfL_mem.mp hy
    have nd : (p : Int) * y ≠ q * x := fun z => by
      rcases prime_mul hp (show (p : Int) ∣ q * x from ⟨y, z.symm⟩) with w | w
      · exact n1 w
      · have := small_dvd w (by omega) (by omega)
        omega
    split <;> split <;> omega
  have e2 : ∀ (l : List Int) (c : Int), sumL (l.map fun _ => c) = l.length * c := fun l c => by
    induction l with
    | nil => show (0 : Int) = 0 * c; omega
    | cons x l ih =>
      show c + sumL (l.map fun _ => c) = ((l.length + 1 : Nat) : Int) * c
      rw [ih]
      push_cast
      grind
  rw [e1, e2, halfL_len]
  congr 1
  have : (((p - 1) / 2 : Nat) : Int) = ((p : Int) - 1) / 2 := by omega
  have : (((q - 1) / 2 : Nat) : Int) = ((q : Int) - 1) / 2 := by omega
  simp_all
end Sf

namespace Sf
open PySem PySem.Spec PyProof.Rows L2
/-! ### signs multiply, at every place -/
theorem sgn_mul_all {p : Int} (hp : PrP p) (h2 : p ≠ 2) {s t t' : Nat} {u v w : Int} (hu : u % p ≠ 0) : sgnAt p s (t + t') u (v * w) = sgnAt p s t u v * sgnAt p s t' u w := by
  have m1 : (-1 : Int) % p ≠ 0 := fun z => prime_one hp ((Int.dvd_neg).mp (Int.dvd_of_emod_eq_zero z))
  have r1 := rest_unit m1
  have r2 := rest_unit hu
  unfold sgnAt
  rw [if_neg h2, if_neg h2, if_neg h2, sign_all hp]
  have k1 : s * (t + t') % 2 = (s % 2) * ((t % 2 + t' % 2) % 2) % 2 := by rw [Nat.mul_mod, Nat.add_mod]
  have k2 : s * t % 2 = (s % 2) * (t % 2) % 2 := by rw [Nat.mul_mod]
  have k3 : s * t' % 2 = (s % 2) * (t' % 2) % 2 := by rw [Nat.mul_mod]
  have k4 : (t + t') % 2 = (t % 2 + t' % 2) % 2 := Nat.add_mod _ _ _
  rw [k1, k2, k3, k4]
  generalize restSign (-1) p = A at r1 ⊢
  generalize restSign u p = B at r2 ⊢
  generalize restSign v p = C
  generalize restSign w p = D
  have d1 : s % 2 = 0 ∨ s % 2 = 1 := by omega
  have d2 : t % 2 = 0 ∨ t % 2 = 1 := by omega
  have d3 : t' % 2 = 0 ∨ t' % 2 = 1 := by omega
  have g1 : A * B * C * (A * B * D) = C * D := by
    have : A * B * C * (A * B * D) = (A * A) * (B * B) * (C * D) := by clear r1 r2 k1 k2 k3 k4 d1 d2 d3; grind
    rw [this, r1, r2]; simp
  clear k1 k2 k3 k4 hp hu h2 m1
  rcases d1 with e1 | e1 <;> rcases d2 with e2 | e2 <;> rcases d3 with e3 | e3 <;> rw [e1, e2, e3] <;> simp <;> clear e1 e2 e3 <;> grind
theorem hsign_mulA {a b c p r1 r2 : Int} (hp : p = 0 ∨ PrP p) (b0 : b ≠ 0) (c0 : c ≠ 0) (h1 : HSign a b p r1) (h2 : HSign a c p r2) : HSign a (b * c) p (r1 * r2) := by
  rcases hp with p0 | hp
  · exact hsign_mul (.inl p0) b0 c0 h1 h2
  · by_cases c2 : p = 2
    · exact hsign_mul (.inr ⟨hp, .inl c2⟩) b0 c0 h1 h2
    · have p2 := hp.1
      obtain ⟨p0, s, t, u, v, g1, g2, e1⟩ := h1.resolve_left (fun z => by omega)
      obtain ⟨_, s', t', u', v', k1, k2, e2⟩ := h2.resolve_left (fun z => by omega)
      obtain ⟨es, eu⟩ := strip_unique hp k1 g1
      subst es eu
      refine .inr ⟨p0, s', t + t', u', v * v', k1, ?_, ?_⟩
      · constructor
        · rw [g2.1, k2.1, Int.pow_add]
          grind
        · intro z
          rcases prime_mul hp (Int.dvd_of_emod_eq_zero z) with d | d
          · exact g2.2 (Int.emod_eq_zero_of_dvd d)
          · exact k2.2 (Int.emod_eq_zero_of_dvd d)
      · rw [e1, e2]
        exact (sgn_mul_all hp c2 k1.2).symm
theorem hs_negA {a p r : Int} (hp : p = 0 ∨ PrP p) (a0 : a ≠ 0) (h : HSign a (-a) p r) : r = 1 := by
  rcases hp with p0 | hp
  · exact hs_neg (.inl p0) a0 h
  · by_cases c2 : p = 2
    · exact hs_neg (.inr ⟨hp, .inl c2⟩) a0 h
    · have p2 := hp.1
      obtain ⟨p0, s, t, u, v, g1, g2, e⟩ := h.resolve_left (fun z => by omega)
      have hn : Strip (-a) p s (-u) := ⟨by rw [g1.1, Int.mul_neg], fun z => g1.2 (Int.emod_eq_zero_of_dvd ((Int.dvd_neg).mp (Int.dvd_of_emod_eq_zero z)))⟩
      obtain ⟨e1, e2⟩ := strip_unique hp g2 hn
      rw [e, e1, e2]
      have m1 : (-1 : Int) % p ≠ 0 := fun z => prime_one hp ((Int.dvd_neg).mp (Int.dvd_of_emod_eq_zero z))
      have r1 := rest_unit m1
      have r2 := rest_unit g1.2
      unfold sgnAt
      rw [if_neg c2]
      have en : -u = (-1) * u := by omega
      rw [en, sign_all hp]
      have k2 : s * s % 2 = (s % 2) * (s % 2) % 2 := by rw [Nat.mul_mod]
      rw [k2]
      rcases (by omega : s % 2 = 0 ∨ s % 2 = 1) with c | c
      · rw [c]; simp
      · rw [c]; simp; grind
/-! ### the product of the signs -/
open Classical in
noncomputable def hsA (a b p : Int) : Int := if h : ∃ r, HSign a b p r then Classical.choose h else 1
theorem hsA_spec {a b p : Int} (ha : a ≠ 0) (hb : b ≠ 0) (hp : p = 0 ∨ PrP p) : HSign a b p (hsA a b p) := by
  have h := hsign_some ha hb hp
  unfold hsA
  rw [dif_pos h]
  exact Classical.choose_spec h
theorem hsA_eq {a b p r : Int} (hp : p = 0 ∨ PrP p) (h : HSign a b p r) : hsA a b p = r := by
  have e : ∃ r, HSign a b p r := ⟨r, h⟩
  have z : HSign a b p (hsA a b p) := by
    unfold hsA
    rw [dif_pos e]
    exact Classical.choose_spec e
  exact hsign_unique hp z h
structure Pls (S : List Int) : Prop where
  asc : S.Pairwise (· < ·)
  good : ∀ p ∈ S, p = 0 ∨ PrP p
  zero : (0 : Int) ∈ S
  two : (2 : Int) ∈ S
theorem asc_nodup {S : List Int} (h : S.Pairwise (· < ·)) : S.Nodup := List.Pairwise.imp (fun {a b} h => Int.ne_of_lt h) h
noncomputable def totS (S : List Int) (a b : Int) : Int := prL (S.map (hsA a b))
theorem prL_mul (f g h : Int → Int) : ∀ l : List Int, (∀ p ∈ l, f p = g p * h p) → prL (l.map f) = prL (l.map g) * prL (l.map h)
  | [], _ => rfl
  | x :: l, e => by
    have ih := prL_mul f g h l fun p hp => e p (List.mem_cons_of_mem _ hp)
    show f x * prL (l.map f) = g x * prL (l.map g) * (h x * prL (l.map h))
    rw [ih, e x List.mem_cons_self]
    grind
theorem prL_only {f : Int → Int} : ∀ {T S : List Int}, S.Nodup → T.Nodup → (∀ t ∈ T, t ∈ S) → (∀ p ∈ S, p ∉ T → f p = 1) → prL (S.map f) = prL (T.map f)
  | [], S, _, _, _, h => by
    have : ∀ l : List Int, (∀ p ∈ l, f p = 1) → prL (l.map f) = 1 := fun l => by
      induction l with
      | nil => exact fun _ => rfl
      | cons x l ih =>
        intro h
        show f x * prL (l.map f) = 1
        rw [h x List.mem_cons_self, ih fun p hp => h p (List.mem_cons_of_mem _ hp)]
        rfl
    exact this S fun p hp => h p hp (by simp)
  | t :: T, S, nS, nT, sub, h => by
    have ht := sub t List.mem_cons_self
    have nT' := List.nodup_cons.mp nT
    rw [prL_perm (List.Perm.map f (List.perm_cons_erase ht))]
    show f t * prL ((S.erase t).map f) = f t * prL (T.map f)
    rw [prL_only (nS.erase t) nT'.2 (fun x hx => ?_) (fun p hp np => ?_)]
    · exact (List.mem_erase_of_ne (fun z : x = t => nT'.1 (by rw [← z]; exact hx))).mpr (sub x (List.mem_cons_of_mem _ hx))
    · have ne : p ≠ t := fun z => by
        rw [z] at hp
        exact (List.Nodup.not_mem_erase nS) hp
      refine h p (List.mem_of_mem_erase hp) fun z => ?_
      rcases List.mem_cons.mp z with z | z
      · exact ne z
      · exact np z
section
variable {S : List Int}
theorem totS_mul (G : Pls S) {a b c : Int} (ha : a ≠ 0) (hb : b ≠ 0) (hc : c ≠ 0) : totS S a (b * c) = totS S a b * totS S a c :=
  prL_mul _ _ _ _ fun p hp => hsA_eq (G.good p hp) (hsign_mulA (G.good p hp) hb hc (hsA_spec ha hb (G.good p hp)) (hsA_spec ha hc (G.good p hp)))
theorem totS_comm (G : Pls S) {a b : Int} (ha : a ≠ 0) (hb : b ≠ 0) : totS S a b = totS S b a := by
  unfold totS
  congr 1
  exact List.map_congr_left fun p hp => hsA_eq (G.good p hp) (hsign_comm (hsA_spec hb ha (G.good p hp)))
theorem prP2 : PrP 2 := prp_of_trial (d := 2) (by decide) (by decide) (fun k a b => by omega) (by decide)
/-- all but the places told have the sign 1 -/
theorem totS_only (G : Pls S) {a b : Int} (a0 : a ≠ 0) (b0 : b ≠ 0) {T : List Int} (nT : T.Nodup) (sub : ∀ t ∈ T, t ∈ S) (h0 : (0 : Int) ∈ T) (h2 : (2 : Int) ∈ T) (far : ∀ p, PrP p → p ≠ 2 → p ∉ T → a % p ≠ 0 ∧ b % p ≠ 0) : totS S a b = prL (T.map (hsA a b)) :=
  prL_only (asc_nodup G.asc) nT sub fun p hp np => by
    have n2 : p ≠ 2 := fun z => np (by rw [z]; exact h2)
    have pp : PrP p := (G.good p hp).resolve_left fun z => np (by rw [z]; exact h0)
    obtain ⟨f1, f2⟩ := far p pp n2 np
    exact sign_far pp n2 f1 f2 (hsA_spec a0 b0 (.inr pp))
theorem hs0 (a b : Int) : hsA a b 0 = if a < 0 ∧ b < 0 then -1 else 1 := hsA_eq (.inl rfl) (.inl ⟨rfl, rfl⟩)
theorem hsP {a b p : Int} (hp : PrP p) {s t : Nat} {u v : Int} (h1 : Strip a p s u) (h2 : Strip b p t v) : hsA a b p = sgnAt p s t u v := hsA_eq (.inr hp) (.inr ⟨by have := hp.1; omega, s, t, u, v, h1, h2, rfl⟩)
theorem strip0 {a p : Int} (h : a % p ≠ 0) : Strip a p 0 a := ⟨by rw [Int.pow_zero, Int.one_mul], h⟩
theorem strip1 {p : Int} (hp : PrP p) : Strip p p 1 1 := ⟨by rw [Int.pow_succ, Int.pow_zero, Int.one_mul, Int.mul_one], by rw [Int.emod_eq_of_lt (by decide) (by have := hp.1; omega)]; decide⟩
theorem mod_neg1 {p : Int} (hp : PrP p) : (-1 : Int) % p ≠ 0 := fun z => prime_one hp ((Int.dvd_neg).mp (Int.dvd_of_emod_eq_zero z))
theorem mod_one {p : Int} (hp : PrP p) : (1 : Int) % p ≠ 0 := fun z => prime_one hp (Int.dvd_of_emod_eq_zero z)
theorem mod_prime {p q : Int} (hp : PrP p) (hq : PrP q) (h : p ≠ q) : q % p ≠ 0 := fun z => h (prime_dvd_prime hp hq (Int.dvd_of_emod_eq_zero z))
theorem tot_11 (G : Pls S) : totS S (-1) (-1) = 1 := by
  rw [totS_only G (by decide) (by decide) (T := [0, 2]) (by decide) (fun t ht => ?_) (by simp) (by simp) (fun p pp _ _ => ⟨mod_neg1 pp, mod_neg1 pp⟩)]
  · show hsA (-1) (-1) 0 * (hsA (-1) (-1) 2 * 1) = 1
    rw [hs0, hsP prP2 (strip0 (by decide)) (strip0 (by decide))]
    decide
  · have c : t = 0 ∨ t = 2 := by simpa using ht
    rcases c with rfl | rfl
    · exact G.zero
    · exact G.two
theorem tot_12 (G : Pls S) : totS S (-1) 2 = 1 := by
  rw [totS_only G (by decide) (by decide) (T := [0, 2]) (by decide) (fun t ht => ?_) (by simp) (by simp) (fun p pp h2 _ => ⟨mod_neg1 pp, mod_prime pp prP2 h2⟩)]
  · show hsA (-1) 2 0 * (hsA (-1) 2 2 * 1) = 1
    rw [hs0, hsP prP2 (strip0 (by decide)) (strip1 prP2)]
    decide
  · have c : t = 0 ∨ t = 2 := by simpa using ht
    rcases c with rfl | rfl
    · exact G.zero
    · exact G.two
theorem sg_if (n : Int) : (if n % 2 = 1 then (-1 : Int) else 1) = sgP n := rfl
theorem sg_sq (n : Int) : sgP n * sgP n = 1 := by
  unfold sgP
  split <;> rfl
theorem tot_1q (G : Pls S) {q : Nat} (hq : PrP (q : Int)) (q2 : q ≠ 2) (m : (q : Int) ∈ S) : totS S (-1) q = 1 := by
  have h2 := hq.1
  have qo := odd_prime hq q2
  rw [totS_only G (by decide) (by omega) (T := [0, 2, q]) (by simp; omega) (fun t ht => ?_) (by simp) (by simp) (fun p pp h2 np => ⟨mod_neg1 pp, mod_prime pp hq (fun z => np (by simp [z]))⟩)]
  · show hsA (-1) q 0 * (hsA (-1) q 2 * (hsA (-1) q q * 1)) = 1
    rw [hs0, hsP prP2 (strip0 (by decide)) (strip0 (a := q) (by omega)), hsP hq (strip0 (mod_neg1 hq)) (strip1 hq), if_neg (by omega)]
    have f1 : sgnAt 2 0 0 (-1) q = sgP (((q : Int) - 1) / 2) := by
      rw [sgn2]
      unfold par2
      rw [show ((-1 : Int) - 1) / 2 = -1 by decide, show ((0 : Nat) : Int) = 0 from rfl, Int.zero_mul, Int.zero_mul]
      exact sgP_par (by omega)
    have f2 : sgnAt (q : Int) 0 1 (-1) 1 = sgP (((q : Int) - 1) / 2) := by
      unfold sgnAt
      rw [if_neg (by omega), if_neg (by decide), if_pos (by decide), if_neg (by decide), sup_neg hq q2]
      omega
    rw [f1, f2, Int.one_mul, Int.mul_one]
    exact sg_sq _
  · have c : t = 0 ∨ t = 2 ∨ t = q := by simpa using ht
    rcases c with rfl | rfl | rfl
    · exact G.zero
    · exact G.two
    · exact m
theorem tot_2q (G : Pls S) {q : Nat} (hq : PrP (q : Int)) (q2 : q ≠ 2) (m : (q : Int) ∈ S) : totS S 2 q = 1 := by
  have h2 := hq.1
  have qo := odd_prime hq q2
  rw [totS_only G (by decide) (by omega) (T := [0, 2, q]) (by simp; omega) (fun t ht => ?_) (by simp) (by simp) (fun p pp h2 np => ⟨mod_prime pp prP2 h2, mod_prime pp hq (fun z => np (by simp [z]))⟩)]
  · show hsA 2 q 0 * (hsA 2 q 2 * (hsA 2 q q * 1)) = 1
    rw [hs0, hsP prP2 (strip1 prP2) (strip0 (a := q) (by omega)), hsP hq (strip0 (mod_prime hq prP2 (by omega))) (strip1 hq), if_neg (by omega)]
    have f1 : sgnAt 2 1 0 1 q = sgP (((q : Int) * q - 1) / 8) := by
      rw [sgn2]
      unfold par2
      rw [show ((1 : Int) - 1) / 2 = 0 by decide, show ((0 : Nat) : Int) = 0 from rfl, show ((1 : Nat) : Int) = 1 from rfl, Int.zero_mul, Int.zero_mul, Int.one_mul, Int.zero_add, Int.add_zero]
      rfl
    have f2 : sgnAt (q : Int) 0 1 2 1 = sgP (((q : Int) * q - 1) / 8) := by
      unfold sgnAt
      rw [if_neg (by omega), if_neg (by decide), if_pos (by decide), if_neg (by decide), sup_two hq q2]
      omega
    rw [f1, f2, Int.one_mul, Int.mul_one]
    exact sg_sq _
  · have c : t = 0 ∨ t = 2 ∨ t = q := by simpa using ht
    rcases c with rfl | rfl | rfl
    · exact G.zero
    · exact G.two
    · exact m
theorem tot_pq (G : Pls S) {p q : Nat} (hp : PrP (p : Int)) (hq : PrP (q : Int)) (p2 : p ≠ 2) (q2 : q ≠ 2) (ne : p ≠ q) (mp : (p : Int) ∈ S) (mq : (q : Int) ∈ S) : totS S p q = 1 := by
  have h1 := hp.1
  have h2 := hq.1
  have po := odd_prime hp p2
  have qo := odd_prime hq q2
  rw [totS_only G (by omega) (by omega) (T := [0, 2, p, q]) (by simp; omega) (fun t ht => ?_) (by simp) (by simp) (fun r pp h2 np => ⟨mod_prime pp hp (fun z => np (by simp [z])), mod_prime pp hq (fun z => np (by simp [z]))⟩)]
  · show hsA p q 0 * (hsA p q 2 * (hsA p q p * (hsA p q q * 1))) = 1
    rw [hs0, hsP prP2 (strip0 (a := p) (by omega)) (strip0 (a := q) (by omega)), hsP hp (strip1 hp) (strip0 (mod_prime hp hq (by omega))), hsP hq (strip0 (mod_prime hq hp (by omega))) (strip1 hq), if_neg (by omega)]
    have f1 : sgnAt 2 0 0 p q = sgP (((p : Int) - 1) / 2 * (((q : Int) - 1) / 2)) := by
      rw [sgn2]
      unfold par2
      rw [show ((0 : Nat) : Int) = 0 from rfl, Int.zero_mul, Int.zero_mul, Int.add_zero, Int.add_zero]
      rfl
    have f2 : sgnAt (p : Int) 1 0 1 q = restSign q p := by
      unfold sgnAt
      rw [if_neg (by omega), if_neg (by decide), if_neg (by decide), if_pos (by decide)]
      omega
    have f3 : sgnAt (q : Int) 0 1 p 1 = restSign p q := by
      unfold sgnAt
      rw [if_neg (by omega), if_neg (by decide), if_pos (by decide), if_neg (by decide)]
      omega
    rw [f1, f2, f3, Int.one_mul, Int.mul_one]
    rw [recip hp hq p2 q2 ne]
    exact sg_sq _
  · have c : t = 0 ∨ t = 2 ∨ t = p ∨ t = q := by simpa using ht
    rcases c with rfl | rfl | rfl | rfl
    · exact G.zero
    · exact G.two
    · exact mp
    · exact mq
/-- what numbers are made of -/
def Gen (S : List Int) (g : Int) : Prop := g = 1 ∨ g = -1 ∨ (g ∈ S ∧ PrP g)
theorem gen_ne {g : Int} (h : Gen S g) : g ≠ 0 := by
  rcases h with h | h | ⟨_, h⟩
  · omega
  · omega
  · have := h.1; omega
theorem tot_one1 (G : Pls S) {b : Int} (b0 : b ≠ 0) : totS S 1 b = 1 := by
  have : ∀ l : List Int, (∀ p ∈ l, p = 0 ∨ PrP p) → prL (l.map (hsA 1 b)) = 1 := fun l => by
    induction l with
    | nil => exact fun _ => rfl
    | cons x l ih =>
      intro h
      show hsA 1 b x * prL (l.map (hsA 1 b)) = 1
      rw [hs_one (h x List.mem_cons_self) (hsA_spec (by decide) b0 (h x List.mem_cons_self)), ih fun p hp => h p (List.mem_cons_of_mem _ hp)]
      rfl
  exact this S G.good
theorem tot_same (G : Pls S) {a : Int} (a0 : a ≠ 0) : totS S a a = totS S a (-1) := by
  have e : totS S a (-1 * -a) = totS S a (-1) * totS S a (-a) := totS_mul G a0 (by decide) (by omega)
  have n : totS S a (-a) = 1 := by
    have : ∀ l : List Int, (∀ p ∈ l, p = 0 ∨ PrP p) → prL (l.map (hsA a (-a))) = 1 := fun l => by
      induction l with
      | nil => exact fun _ => rfl
      | cons x l ih =>
        intro h
        show hsA a (-a) x * prL (l.map (hsA a (-a))) = 1
        rw [hs_negA (h x List.mem_cons_self) a0 (hsA_spec a0 (by omega) (h x List.mem_cons_self)), ih fun p hp => h p (List.mem_cons_of_mem _ hp)]
        rfl
    exact this S G.good
  rw [n, Int.mul_one] at e
  rw [← e]
  congr 1
  omega
theorem tot_1g (G : Pls S) {g : Int} (h : Gen S g) : totS S (-1) g = 1 := by
  rcases h with rfl | rfl | ⟨m, hp⟩
  · rw [totS_comm G (by decide) (by decide)]
    exact tot_one1 G (by decide)
  · exact tot_11 G
  · by_cases c : g = 2
    · rw [c]; exact tot_12 G
    · obtain ⟨q, rfl⟩ : ∃ q : Nat, g = q := ⟨g.toNat, by have := hp.1; omega⟩
      exact tot_1q G hp (by omega) m
theorem tot_gg (G : Pls S) {g h : Int} (hg : Gen S g) (hh : Gen S h) : totS S g h = 1 := by
  rcases hg with rfl | rfl | ⟨mg, pg⟩
  · exact tot_one1 G (gen_ne hh)
  · exact tot_1g G hh
  · have g0 := pg.1
    rcases hh with rfl | rfl | ⟨mh, ph⟩
    · rw [totS_comm G (by omega) (by decide)]
      exact tot_one1 G (by omega)
    · rw [totS_comm G (by omega) (by decide)]
      exact tot_1g G (.inr (.inr ⟨mg, pg⟩))
    · have h0 := ph.1
      by_cases e : g = h
      · subst e
        rw [tot_same G (by omega), totS_comm G (by omega) (by decide)]
        exact tot_1g G (.inr (.inr ⟨mg, pg⟩))
      · obtain ⟨p, rfl⟩ : ∃ q : Nat, g = q := ⟨g.toNat, by omega⟩
        obtain ⟨q, rfl⟩ : ∃ q : Nat, h = q := ⟨h.toNat, by omega⟩
        by_cases c1 : p = 2
        · subst c1
          exact tot_2q G ph (fun z => e (by omega)) mh
        · by_cases c2 : q = 2
          · subst c2
            rw [totS_comm G (by omega) (by omega)]
            exact tot_2q G pg c1 mg
          · exact tot_pq G pg ph c1 c2 (fun z => e (by omega)) mg mh
def MadeS (S : List Int) (n : Int) : Prop := ∃ l : List Int, (∀ g ∈ l, Gen S g) ∧ n = prL l
theorem prL_ne {l : List Int} (h : ∀ g ∈ l, Gen S g) : prL l ≠ 0 := by
  induction l with
  | nil => decide
  | cons x l ih => exact Int.mul_ne_zero (gen_ne (h x List.mem_cons_self)) (ih fun g hg => h g (List.mem_cons_of_mem _ hg))
theorem tot_list (G : Pls S) {a : Int} (a0 : a ≠ 0) (h : ∀ g, Gen S g → totS S a g = 1) : ∀ {l : List Int}, (∀ g ∈ l, Gen S g) → totS S a (prL l) = 1
  | [], _ => h 1 (.inl rfl)
  | x :: l, hl => by
    have hx := hl x List.mem_cons_self
    have hl' := fun g hg => hl g (List.mem_cons_of_mem _ hg)
    show totS S a (x * prL l) = 1
    rw [totS_mul G a0 (gen_ne hx) (prL_ne hl'), h x hx, tot_list G a0 h hl']
    rfl
theorem tot_made (G : Pls S) {a b : Int} (ha : MadeS S a) (hb : MadeS S b) : totS S a b = 1 := by
  obtain ⟨l, hl, rfl⟩ := ha
  obtain ⟨m, hm, rfl⟩ := hb
  refine tot_list G (prL_ne hl) (fun g hg => ?_) hm
  rw [totS_comm G (prL_ne hl) (gen_ne hg)]
  exact tot_list G (gen_ne hg) (fun h hh => tot_gg G hg hh) hl
end
/-! ### every number is a product of primes; an ascending list of what stands in a list -/
theorem prime_div {n : Int} (h : 2 ≤ n) : ∃ p, PrP p ∧ p ∣ n := by
  generalize hN : n.toNat = N
  induction N using Nat.strongRecOn generalizing n with
  | ind N ih =>
    by_cases c : PrP n
    · exact ⟨n, c, Int.dvd_refl n⟩
    · have : ∃ k : Int, 2 ≤ k ∧ k < n ∧ n % k = 0 := Classical.byContradiction fun z => c ⟨h, fun k a b e => z ⟨k, a, b, e⟩⟩
      obtain ⟨k, k2, kn, e⟩ := this
      obtain ⟨p, hp, d⟩ := ih k.toNat (by omega) k2 rfl
      exact ⟨p, hp, Int.dvd_trans d (Int.dvd_of_emod_eq_zero e)⟩
theorem prime_list {n : Int} (h : 1 ≤ n) : ∃ l : List Int, (∀ q ∈ l, PrP q) ∧ n = prL l := by
  generalize hN : n.toNat = N
  induction N using Nat.strongRecOn generalizing n with
  | ind N ih =>
    by_cases c : n = 1
    · exact ⟨[], by simp, c⟩
    · obtain ⟨p, hp, k, rfl⟩ := prime_div (n := n) (by omega)
      have p2 := hp.1
      have k1 : 1 ≤ k := by
        by_cases z : 1 ≤ k
        · exact z
        · have := Int.mul_nonpos_of_nonneg_of_nonpos (a := p) (b := k) (by omega) (by omega)
          omega
      have lt : k < p * k := by
        have : 2 * k ≤ p * k := Int.mul_le_mul_of_nonneg_right p2 (by omega)
        omega
      obtain ⟨l, hl, e⟩ := ih k.toNat (by omega) k1 rfl
      refine ⟨p :: l, fun q hq => ?_, ?_⟩
      · rcases List.mem_cons.mp hq with rfl | hq
        · exact hp
        · exact hl q hq
      · show p * k = p * prL l
        rw [← e]
theorem asc_some : ∀ l : List Int, ∃ m : List Int, m.Pairwise (· < ·) ∧ ∀ x, x ∈ m ↔ x ∈ l
  | [] => ⟨[], List.Pairwise.nil, fun _ => Iff.rfl⟩
  | x :: l => by
    obtain ⟨m, hm, he⟩ := asc_some l
    refine ⟨m.filter (fun y => decide (y < x)) ++ x :: m.filter (fun y => decide (x < y)), ?_, fun y => ?_⟩
    · refine List.pairwise_append.mpr ⟨List.Pairwise.filter _ hm, List.pairwise_cons.mpr ⟨fun y hy => ?_, List.Pairwise.filter _ hm⟩, fun a ha b hb => ?_⟩
      · exact of_decide_eq_true (List.mem_filter.mp hy).2
      · have h1 := of_decide_eq_true (List.mem_filter.mp ha).2
        rcases List.mem_cons.mp hb with rfl | hb
        · exact h1
        · have h2 := of_decide_eq_true (List.mem_filter.mp hb).2
          omega
    · simp only [List.mem_append, List.mem_cons, List.mem_filter, decide_eq_true_eq, he]
      constructor
      · rintro (⟨h, _⟩ | h | ⟨h, _⟩)
        · exact .inr h
        · exact .inl h
        · exact .inr h
      · rintro (h | h)
        · exact .inr (.inl h)
        · rcases Int.lt_trichotomy y x with c | c | c
          · exact .inl ⟨h, c⟩
          · exact .inr (.inl c)
          · exact .inr (.inr ⟨h, c⟩)
theorem parity_list (f : Int → Int) : ∀ l : List Int, (∀ p ∈ l, f p = 1 ∨ f p = -1) → prL (l.map f) = if (l.filter fun p => decide (f p = -1)).length % 2 = 1 then -1 else 1
  | [], _ => rfl
  | x :: l, h => by
    have ih := parity_list f l fun p hp => h p (List.mem_cons_of_mem _ hp)
    show f x * prL (l.map f) = _
    rw [ih, List.filter_cons]
    rcases h x List.mem_cons_self with e | e
    · rw [e, if_neg (by decide : ¬ decide ((1 : Int) = -1) = true), Int.one_mul]
    · rw [e, if_pos (by decide : decide ((-1 : Int) = -1) = true), List.length_cons]
      by_cases c : (l.filter fun p => decide (f p = -1)).length % 2 = 1
      · rw [if_pos c, if_neg (by omega)]; rfl
      · rw [if_neg c, if_pos (by omega)]; rfl
/-- the places of any two numbers are even in number -/
theorem even_all {a b : Int} {l : List Int} (a0 : a ≠ 0) (b0 : b ≠ 0) (h : PlacesOf a b l) : l.length % 2 = 0 := by
  have one : ∀ n : Int, n ≠ 0 → ∃ m : List Int, (∀ q ∈ m, PrP q) ∧ ∃ σ : Int, (σ = 1 ∨ σ = -1) ∧ n = σ * prL m := fun n n0 => by
    rcases Int.lt_or_gt_of_ne n0 with c | c
    · obtain ⟨m, hm, e⟩ := prime_list (n := -n) (by omega)
      exact ⟨m, hm, -1, .inr rfl, by omega⟩
    · obtain ⟨m, hm, e⟩ := prime_list (n := n) (by omega)
      exact ⟨m, hm, 1, .inl rfl, by omega⟩
  obtain ⟨la, ha, σ, hσ, ea⟩ := one a a0
  obtain ⟨lb, hb, τ, hτ, eb⟩ := one b b0
  obtain ⟨S, asc, mem⟩ := asc_some (0 :: 2 :: (la ++ lb))
  have G : Pls S := {
    asc := asc
    good := fun p hp => by
      have c := (mem p).mp hp
      simp only [List.mem_cons, List.mem_append] at c
      rcases c with c | c | c | c
      · exact .inl c
      · exact .inr (c ▸ prP2)
      · exact .inr (ha p c)
      · exact .inr (hb p c)
    zero := (mem 0).mpr (by simp)
    two := (mem 2).mpr (by simp) }
  have sgn : ∀ σ : Int, (σ = 1 ∨ σ = -1) → Gen S σ := fun σ h => h.elim (fun h => .inl h) (fun h => .inr (.inl h))
  have made : ∀ (n σ : Int) (m : List Int), (∀ q ∈ m, PrP q) → (∀ q ∈ m, q ∈ S) → (σ = 1 ∨ σ = -1) → n = σ * prL m → MadeS S n := fun n σ m hm hs h e => ⟨σ :: m, fun g hg => by
    rcases List.mem_cons.mp hg with rfl | hg
    · exact sgn _ h
    · exact .inr (.inr ⟨hs g hg, hm g hg⟩), e⟩
  have t := tot_made G (made a σ la ha (fun q hq => (mem q).mpr (by simp [hq])) hσ ea) (made b τ lb hb (fun q hq => (mem q).mpr (by simp [hq])) hτ eb)
  have dv : ∀ {n σ p : Int} {m : List Int}, (∀ q ∈ m, PrP q) → (σ = 1 ∨ σ = -1) → n = σ * prL m → PrP p → n % p = 0 → p ∈ m := fun {n σ p m} hm hσ e hp d => by
    have d := Int.dvd_of_emod_eq_zero d
    rw [e] at d
    have key : ∀ {l : List Int}, (∀ q ∈ l, PrP q) → p ∣ prL l → p ∈ l := by
      intro l
      induction l with
      | nil => exact fun _ d => absurd d (prime_one hp)
      | cons x l ih =>
        intro h1 d
        rcases prime_mul hp d with d | d
        · rw [prime_dvd_prime hp (h1 x List.mem_cons_self) d]
          exact List.mem_cons_self
        · exact List.mem_cons_of_mem _ (ih (fun q hq => h1 q (List.mem_cons_of_mem _ hq)) d)
    rcases prime_mul hp d with d | d
    · rcases hσ with e | e
      · rw [e] at d; exact absurd d (prime_one hp)
      · rw [e] at d; exact absurd ((Int.dvd_neg).mp d) (prime_one hp)
    · exact key hm d
  have e : l = S.filter fun p => decide (hsA a b p = -1) := by
    refine asc_unique h.1 (List.Pairwise.filter _ asc) fun p => ?_
    rw [h.2, List.mem_filter, decide_eq_true_iff]
    constructor
    · rintro ⟨hp, hn⟩
      refine ⟨?_, hsA_eq hp hn⟩
      rcases hp with e | hp
      · rw [e]; exact G.zero
      · by_cases c : p = 2
        · rw [c]; exact G.two
        · by_cases c1 : a % p = 0
          · exact (mem p).mpr (by simp [dv ha hσ ea hp c1])
          · by_cases c2 : b % p = 0
            · exact (mem p).mpr (by simp [dv hb hτ eb hp c2])
            · exact absurd (sign_far hp c c1 c2 hn) (by decide)
    · rintro ⟨hp, e⟩
      refine ⟨G.good p hp, ?_⟩
      rw [← e]
      exact hsA_spec a0 b0 (G.good p hp)
  unfold totS at t
  rw [parity_list _ _ fun p hp => hsign_sq (G.good p hp) (hsA_spec a0 b0 (G.good p hp)), ← e] at t
  by_cases c : l.length % 2 = 1
  · rw [if_pos c] at t
    exact absurd t (by decide)
  · omega
end Sf

namespace Sf
open PySem PySem.Spec PyProof.Rows L2
section
variable {P : Program} {w : World} {K : PySem.W.Frag} {mg : Str → Option Value} {base : Heap} {f : Addr} {fd : FuncData}
def spBare : Sp := fun vs H Q _ => ∃ n p : Int, vs = [.int n, .int p] ∧ n ≠ 0 ∧ 2 ≤ p ∧ p.natAbs < 2 ^ 3000 ∧
  ∀ (m : Nat) (u : Int) (a : Addr), Strip n p m u → H a = none → Q (.ref a) (upd H a (.tup [.int m, .int u]))
theorem ok_bare (F : FnD K "_law_bare" "_law_bare" s_L_bare f fd) (T : Glob mg) : FnOk P w K mg base CX0 1 f fd ["_law_number", "_law_prime"] spBare := by
  refine F.ok sc_L_bare (fun vs H Q E h => ?_) (fun cdv A outer s H vs Q E hr h => ?_)
  · obtain ⟨n, p, rfl, _⟩ := h; rfl
  · obtain ⟨n, p, rfl, hn, hp, hb, q⟩ := h
    refine ⟨_, PSs.nox (pss_cons (ps_set (i := 2) sc_L_bare.nd rfl (Or.inl rfl) pe_int)
      (pss_cons (ps_while PassesOwn.never (pt_cmp (pc_eqI (pe_op op_mod (pe_callTy call_int1 (by rfl) T.m_int (by decide +kernel) (pa_cons (pv 0) pa_nil)) (pv 1)) pe_int)) (pss_one (ps_par (i := 0) (j := 2) (by rfl) sc_L_bare.nd rfl rfl (by decide) rfl rfl (pa_cons (pe_op op_fdivW (pv 0) (pv 1)) (pa_cons (pe_op op_add (pv 2) pe_int) pa_nil)) (by rfl))))
      (pss_one (ps_ret (pe_tup (pa_cons (pv 2) (pa_cons (pv 0) pa_nil))))))), ?_⟩
    refine ⟨fun c σ H' => H' = H ∧ ∃ (m : Nat) (u : Int), σ = [some (.int u), some (.int p), some (.int m)] ∧ n = p ^ m * u ∧ u ≠ 0 ∧ c = u.natAbs, ⟨_, rfl, 0, n, rfl, by simp, hn, rfl⟩, ?_⟩
    rintro c σ _ ⟨rfl, m, u, rfl, e, hu, rfl⟩
    refine ⟨_, rfl, .inl ⟨_, rfl, _, rfl, _, _, rfl, rfl, (by omega), _, _, rfl, rfl, _, rfl, ifd (fun h => ⟨_, fun _ _ z => z, ?_⟩) (fun h => ?_)⟩⟩
    · have hl := strip_less hu hp h
      refine ⟨_, rfl, _, rfl, _, _, rfl, rfl, CDivW.of (by omega) hb, _, rfl, _, _, rfl, rfl, _, _, rfl, ?_⟩
      refine ⟨_, hl.1, rfl, m + 1, u / p, rfl, ?_, hl.2.1, rfl⟩
      rw [e, Int.pow_succ, Int.mul_assoc, ← hl.2.2]
    · refine ⟨_, rfl, _, rfl, (by show 2 ≤ sizeLine; decide), fun a ha => ?_⟩
      exact q m u a ⟨e, h⟩ ha
def spResidue : Sp := fun vs H Q _ => ∃ n p : Int, vs = [.int n, .int p] ∧ 3 ≤ p ∧ p.natAbs < 2 ^ 1000 ∧ Q (.int (restSign n p)) H
theorem ok_residue (F : FnD K "_law_residue" "_law_residue" s_L_residue f fd) (T : Glob mg) : FnOk P w K mg base CX0 1 f fd ["_law_number", "_law_prime"] spResidue := by
  refine F.ok sc_L_residue (fun vs H Q E h => ?_) (fun cdv A outer s H vs Q E hr h => ?_)
  · obtain ⟨n, p, rfl, _⟩ := h; rfl
  · obtain ⟨n, p, rfl, hp, hb, q⟩ := h
    have hm0 : (0 : Int) < p := by omega
    refine ⟨_, PSs.nox (pss_cons (ps_par3 (i := 2) (j := 3) (l := 4) (by rfl) sc_L_residue.nd rfl rfl rfl (by decide) (by decide) (by decide) rfl rfl rfl (pa_cons pe_int (pa_cons (pe_op op_mod (pe_callTy call_int1 (by rfl) T.m_int (by decide +kernel) (pa_cons (pv 0) pa_nil)) (pv 1)) (pa_cons (pe_op op_fdivW (pe_op op_sub (pv 1) pe_int) pe_int) pa_nil))) (by rfl))
      (pss_cons (ps_if (pt_cmp (pc_eqI (pv 3) pe_int)) (pss_one (ps_ret pe_int)) pss_nil)
      (pss_cons (ps_while PassesOwn.never (pt_cmp (pc_gt (pv 4) pe_int)) (pss_cons (ps_if (pt_cmp (pc_eqI (pe_op op_mod (pv 4) pe_int) pe_int)) (pss_one (ps_set (i := 2) sc_L_residue.nd rfl (Or.inl rfl) (pe_op op_mod (pe_callTy call_int1 (by rfl) T.m_int (by decide +kernel) (pa_cons (pe_op op_mulW (pv 2) (pv 3)) pa_nil)) (pv 1)))) pss_nil)
      (pss_one (ps_par (i := 3) (j := 4) (by rfl) sc_L_residue.nd rfl rfl (by decide) rfl rfl (pa_cons (pe_op op_mod (pe_callTy call_int1 (by rfl) T.m_int (by decide +kernel) (pa_cons (pe_op op_mulW (pv 3) (pv 3)) pa_nil)) (pv 1)) (pa_cons (pe_op op_fdivW (pv 4) pe_int) pa_nil)) (by rfl)))))
      (pss_one (ps_ret (pe_ifExp (pt_cmp (pc_eqI (pv 2) pe_int)) pe_int (pe_un un_neg pe_int))))))), ?_⟩
    refine ⟨_, rfl, .inl ⟨_, rfl, _, rfl, _, _, rfl, rfl, hm0, _, rfl, _, _, rfl, rfl, _, _, rfl, rfl, CDivW.of (by decide) (by decide +kernel), _, _, _, rfl, ?_⟩⟩
    refine ⟨_, rfl, _, _, rfl, rfl, _, rfl, ifd (fun h => ?_) (fun h => ?_)⟩
    · unfold restSign at q
      rw [if_pos h] at q
      exact q
    have hr : restSign n p = if n ^ ((p - 1) / 2).toNat % p = 1 then 1 else -1 := by
      unfold restSign
      rw [if_neg h, if_neg (by omega)]
    rw [hr] at q
    refine ⟨fun c σ H' => H = H' ∧ ∃ (k' made sq : Int), σ = [some (.int n), some (.int p), some (.int made), some (.int sq), some (.int k')] ∧ 0 ≤ k' ∧ c = k'.toNat ∧ (made * sq ^ k'.toNat) % p = n ^ ((p - 1) / 2).toNat % p ∧ made % p = made ∧ made.natAbs < 2 ^ 3000 ∧ sq.natAbs < 2 ^ 3000, ⟨_, rfl, (p - 1) / 2, 1, n % p, rfl, by omega, rfl, ?_, Int.emod_eq_of_lt (by decide) (by omega), by decide +kernel, mod_lt3000 (by omega) hb⟩, ?_⟩
    · rw [Int.one_mul]
      exact pow_mod _ _ _
    rintro c σ _ ⟨rfl, k', made, sq, rfl, hk', rfl, e, em, b1, b2⟩
    have sq2 : ∀ made' : Int, (made' * (sq * sq % p) ^ (k' / 2).toNat) % p = (made' * (sq * sq) ^ (k' / 2).toNat) % p := fun made' => by
      rw [Int.mul_emod, pow_mod, ← Int.mul_emod]
    refine ⟨_, rfl, _, _, rfl, rfl, _, rfl, ifd (fun h1 => ⟨fun σ' H' => ∃ m', m' < k'.toNat ∧ H = H' ∧ ∃ (k' made sq : Int), σ' = [some (.int n), some (.int p), some (.int made), some (.int sq), some (.int k')] ∧ 0 ≤ k' ∧ m' = k'.toNat ∧ (made * sq ^ k'.toNat) % p = n ^ ((p - 1) / 2).toNat % p ∧ made % p = made ∧ made.natAbs < 2 ^ 3000 ∧ sq.natAbs < 2 ^ 3000, fun _ _ z => z, ?_⟩) (fun h1 => ?_)⟩
    · have hh := pow_half sq k' h1
      refine ⟨_, rfl, _, _, rfl, rfl, (by show (0 : Int) < 2; decide), _, _, rfl, rfl, _, rfl, ifd (fun c2 => ?_) (fun c2 => ?_)⟩
      · refine ⟨_, rfl, _, rfl, _, _, rfl, rfl, CMulW.of b1 b2, .inl ⟨_, rfl, _, rfl, _, _, rfl, rfl, hm0, ?_⟩⟩
        refine ⟨_, rfl, _, rfl, _, _, rfl, rfl, CMulW.of b2 b2, .inl ⟨_, rfl, _, rfl, _, _, rfl, rfl, hm0, _, rfl, _, _, rfl, rfl, CDivW.of (by decide) (by decide +kernel), _, _, rfl, ?_⟩⟩
        refine ⟨_, (by omega : (k' / 2).toNat < k'.toNat), rfl, k' / 2, _, _, rfl, by omega, rfl, ?_, Int.emod_emod_of_dvd _ (Int.dvd_refl _), mod_lt3000 (by omega) hb, mod_lt3000 (by omega) hb⟩
        rw [sq2, ← e, hh, c2, Int.mul_emod, Int.emod_emod_of_dvd _ (Int.dvd_refl _), ← Int.mul_emod]
        congr 1
        simp
        grind
      · refine ⟨_, rfl, _, rfl, _, _, rfl, rfl, CMulW.of b2 b2, .inl ⟨_, rfl, _, rfl, _, _, rfl, rfl, hm0, _, rfl, _, _, rfl, rfl, CDivW.of (by decide) (by decide +kernel), _, _, rfl, ?_⟩⟩
        refine ⟨_, (by omega : (k' / 2).toNat < k'.toNat), rfl, k' / 2, _, _, rfl, by omega, rfl, ?_, em, b1, mod_lt3000 (by omega) hb⟩
        rw [sq2, ← e, hh, show k' % 2 = 0 by omega]
        simp
    · have z : k' = 0 := by omega
      subst z
      have em2 : made = n ^ ((p - 1) / 2).toNat % p := by
        rw [← e, ← em]
        simp
      rw [← em2] at q
      refine ⟨_, rfl, _, _, rfl, rfl, _, rfl, ifd (fun h2 => ?_) (fun h2 => ?_)⟩
      · rw [if_pos h2] at q
        exact q
      · rw [if_neg h2] at q
        exact ⟨_, rfl, q⟩
end
end Sf

namespace Sf
open PySem PySem.Spec PyProof.Rows L2
/-- the sign by the rests: at 2 by the units modulo 8, else by one power -/
theorem sgn2_rest {s t : Nat} {u v : Int} (hu : u % 2 = 1) (hv : v % 2 = 1) : sgnAt 2 s t u v = if (u % 8 / 2 * (v % 8 / 2) + s * (if v % 8 = 3 ∨ v % 8 = 5 then 1 else 0) + t * (if u % 8 = 3 ∨ u % 8 = 5 then 1 else 0)) % 2 = 0 then 1 else -1 := by
  rw [sgn2]
  unfold par2
  have h1 := par_mul ((u - 1) / 2) ((v - 1) / 2) (u % 8 / 2) (v % 8 / 2) (by omega) (by omega)
  have sq : ∀ {w : Int}, w % 2 = 1 → ((w * w - 1) / 8) % 2 = (if w % 8 = 3 ∨ w % 8 = 5 then (1 : Int) else 0) % 2 := fun {w} h => by
    have e : w = 8 * (w / 8) + w % 8 := by omega
    have c : w % 8 = 1 ∨ w % 8 = 3 ∨ w % 8 = 5 ∨ w % 8 = 7 := by omega
    generalize w / 8 = k at e
    rcases c with c | c | c | c <;> rw [c] at e ⊢
    · have : w * w = 16 * (4 * (k * k) + k) + 1 := by rw [e]; grind
      have e2 : (w * w - 1) / 8 = 2 * (4 * (k * k) + k) := by omega
      rw [e2, if_neg (by decide)]
      omega
    · have : w * w = 16 * (4 * (k * k) + 3 * k) + 9 := by rw [e]; grind
      have e2 : (w * w - 1) / 8 = 2 * (4 * (k * k) + 3 * k) + 1 := by omega
      rw [e2, if_pos (by decide)]
      omega
    · have : w * w = 16 * (4 * (k * k) + 5 * k + 1) + 9 := by rw [e]; grind
      have e2 : (w * w - 1) / 8 = 2 * (4 * (k * k) + 5 * k + 1) + 1 := by omega
      rw [e2, if_pos (by decide)]
      omega
    · have : w * w = 16 * (4 * (k * k) + 7 * k + 3) + 1 := by rw [e]; grind
      have e2 : (w * w - 1) / 8 = 2 * (4 * (k * k) + 7 * k + 3) := by omega
      rw [e2, if_neg (by decide)]
      omega
  have h2 := par_mul (s : Int) ((v * v - 1) / 8) (s : Int) (if v % 8 = 3 ∨ v % 8 = 5 then 1 else 0) rfl (sq hv)
  have h3 := par_mul (t : Int) ((u * u - 1) / 8) (t : Int) (if u % 8 = 3 ∨ u % 8 = 5 then 1 else 0) rfl (sq hu)
  by_cases c : ((u - 1) / 2 * ((v - 1) / 2) + s * ((v * v - 1) / 8) + t * ((u * u - 1) / 8)) % 2 = 1
  · rw [if_pos c, if_neg (by omega)]
  · rw [if_neg c, if_pos (by omega)]
theorem sgn2_law {s t : Nat} {u v : Int} (hu : u % 2 = 1) (hv : v % 2 = 1) : sgnAt 2 s t u v = if ((if u % 4 = 3 ∧ v % 4 = 3 then 1 else 0) + s * (if v % 8 = 3 ∨ v % 8 = 5 then 1 else 0) + t * (if u % 8 = 3 ∨ u % 8 = 5 then 1 else 0) : Int) % 2 = 0 then 1 else -1 := by
  rw [sgn2_rest hu hv]
  have e : (u % 8 / 2 * (v % 8 / 2)) % 2 = (if u % 4 = 3 ∧ v % 4 = 3 then (1 : Int) else 0) % 2 := by
    have c1 : u % 8 = 1 ∨ u % 8 = 3 ∨ u % 8 = 5 ∨ u % 8 = 7 := by omega
    have c2 : v % 8 = 1 ∨ v % 8 = 3 ∨ v % 8 = 5 ∨ v % 8 = 7 := by omega
    have f1 : u % 4 = u % 8 % 4 := by omega
    have f2 : v % 4 = v % 8 % 4 := by omega
    rw [f1, f2]
    rcases c1 with c1 | c1 | c1 | c1 <;> rcases c2 with c2 | c2 | c2 | c2 <;> rw [c1, c2] <;> decide
  generalize (s : Int) * (if v % 8 = 3 ∨ v % 8 = 5 then 1 else 0) = x
  generalize (t : Int) * (if u % 8 = 3 ∨ u % 8 = 5 then 1 else 0) = y
  generalize u % 8 / 2 * (v % 8 / 2) = z at e ⊢
  generalize (if u % 4 = 3 ∧ v % 4 = 3 then (1 : Int) else 0) = w at e ⊢
  by_cases c : (z + x + y) % 2 = 0
  · rw [if_pos c, if_pos (by omega)]
  · rw [if_neg c, if_neg (by omega)]
section
variable {P : Program} {w : World} {K : PySem.W.Frag} {mg : Str → Option Value} {base : Heap} {f : Addr} {fd : FuncData}
def spLSign : Sp := fun vs H Q _ => ∃ a b p : Int, vs = [.int a, .int b, .int p] ∧ a ≠ 0 ∧ b ≠ 0 ∧ a.natAbs ≤ 1000000000 ∧ b.natAbs ≤ 1000000000 ∧ (p = 0 ∨ (PrP p ∧ p ≤ 1000000000)) ∧ ∀ (r : Int) (H' : Hp), HSign a b p r → Same H H' → Q (.int r) H'
set_option maxHeartbeats 8000000 in
theorem ok_lsign (F : FnD K "_law_sign" "_law_sign" s_L_sign f fd) (T : Glob mg) (C_L_bare : Cal P w K mg base 1 "_law_bare" ["_law_number", "_law_prime"] spBare) (C_L_residue : Cal P w K mg base 1 "_law_residue" ["_law_number", "_law_prime"] spResidue) : FnOk P w K mg base CX0 2 f fd ["_law_a", "_law_b", "_law_place"] spLSign := by
  refine F.ok sc_L_sign (fun vs H Q E h => ?_) (fun cdv A outer s H vs Q E hr h => ?_)
  · obtain ⟨a, b, p, rfl, _⟩ := h; rfl
  · obtain ⟨a, b, p, rfl, a0, b0, ab, bb, hp, q⟩ := h
    refine ⟨_, PSs.nox (pss_cons (ps_if (pt_cmp (pc_eqI (pv 2) pe_int)) (pss_one (ps_ret (pe_ifExp (PW.pt (pw_and (pt_cmp (pc_lt (pv 0) pe_int)) (pw_and1 (pt_cmp (pc_lt (pv 1) pe_int))))) (pe_un un_neg pe_int) pe_int))) pss_nil)
      (pss_cons (ps_asg (pe_cal C_L_bare (hr.mono (by decide)) (pa_cons (pv 0) (pa_cons (pv 2) pa_nil))) (pg_tup (by rfl) (pgs_cons (pg_name (i := 3) sc_L_sign.nd rfl (Or.inl rfl)) (pgs_cons (pg_name (i := 4) sc_L_sign.nd rfl (Or.inl rfl)) pgs_nil))))
      (pss_cons (ps_asg (pe_cal C_L_bare (hr.mono (by decide)) (pa_cons (pv 1) (pa_cons (pv 2) pa_nil))) (pg_tup (by rfl) (pgs_cons (pg_name (i := 5) sc_L_sign.nd rfl (Or.inl rfl)) (pgs_cons (pg_name (i := 6) sc_L_sign.nd rfl (Or.inl rfl)) pgs_nil))))
      (pss_cons (ps_if (pt_cmp (pc_eqI (pv 2) pe_int)) (pss_cons (ps_set (i := 7) sc_L_sign.nd rfl (Or.inl rfl) (pe_cut (pe_and (pe_cmp (pc_eqI (pe_op op_mod (pe_callTy call_int1 (by rfl) T.m_int (by decide +kernel) (pa_cons (pv 4) pa_nil)) pe_int) pe_int) rfl) (pe_one (pe_cmp (pc_eqI (pe_op op_mod (pe_callTy call_int1 (by rfl) T.m_int (by decide +kernel) (pa_cons (pv 6) pa_nil)) pe_int) pe_int) rfl)))))
      (pss_cons (ps_set (i := 8) sc_L_sign.nd rfl (Or.inl rfl) (pe_op op_add (pe_op op_add (pe_callTy call_int1 (by rfl) T.m_int (by decide +kernel) (pa_cons (pv 7) pa_nil)) (pe_op op_mulW (pv 3) (pe_callTy call_int1 (by rfl) T.m_int (by decide +kernel) (pa_cons (pe_cmpR op_in_seq (pe_op op_mod (pe_callTy call_int1 (by rfl) T.m_int (by decide +kernel) (pa_cons (pv 6) pa_nil)) pe_int) (pe_tup (pa_cons pe_int (pa_cons pe_int pa_nil))) (by rfl)) pa_nil)))) (pe_op op_mulW (pv 5) (pe_callTy call_int1 (by rfl) T.m_int (by decide +kernel) (pa_cons (pe_cmpR op_in_seq (pe_op op_mod (pe_callTy call_int1 (by rfl) T.m_int (by decide +kernel) (pa_cons (pv 4) pa_nil)) pe_int) (pe_tup (pa_cons pe_int (pa_cons pe_int pa_nil))) (by rfl)) pa_nil)))))
      (pss_one (ps_ret (pe_ifExp (pt_cmp (pc_eqI (pe_op op_mod (pe_callTy call_int1 (by rfl) T.m_int (by decide +kernel) (pa_cons (pv 8) pa_nil)) pe_int) pe_int)) pe_int (pe_un un_neg pe_int)))))) pss_nil)
      (pss_cons (ps_set (i := 9) sc_L_sign.nd rfl (Or.inl rfl) (pe_cut (pe_ifExp (pt_cmp (pc_eqI (pe_op op_mod (pe_callTy call_int1 (by rfl) T.m_int (by decide +kernel) (pa_cons (pe_op op_mulW (pv 3) (pv 5)) pa_nil)) pe_int) pe_int)) (pe_cal C_L_residue (hr.mono (by decide)) (pa_cons (pe_un un_neg pe_int) (pa_cons (pv 2) pa_nil))) pe_int)))
      (pss_cons (ps_set (i := 9) sc_L_sign.nd rfl (Or.inl rfl) (pe_op op_mulW (pv 9) (pe_cut (pe_ifExp (pt_cmp (pc_eqI (pe_op op_mod (pv 5) pe_int) pe_int)) (pe_cal C_L_residue (hr.mono (by decide)) (pa_cons (pv 4) (pa_cons (pv 2) pa_nil))) pe_int))))
      (pss_one (ps_ret (pe_op op_mulW (pv 9) (pe_cut (pe_ifExp (pt_cmp (pc_eqI (pe_op op_mod (pv 3) pe_int) pe_int)) (pe_cal C_L_residue (hr.mono (by decide)) (pa_cons (pv 6) (pa_cons (pv 2) pa_nil))) pe_int))))))))))), ?_⟩
    refine ⟨_, rfl, _, _, rfl, rfl, _, rfl, ifd (fun h => ?_) (fun h => ?_)⟩
    · have z := q _ H (.inl ⟨h, rfl⟩) (Same.refl H)
      refine ⟨_, rfl, _, _, rfl, rfl, _, rfl, ifd (fun h1 => ?_) (fun h1 => ?_)⟩
      · refine ⟨_, rfl, _, _, rfl, rfl, _, rfl, ifd (fun h2 => ?_) (fun h2 => ?_)⟩
        · rw [if_pos ⟨h1, h2⟩] at z
          exact ⟨_, rfl, z⟩
        · rw [if_neg (fun k => h2 k.2)] at z
          exact z
      · rw [if_neg (fun k => h1 k.1)] at z
        exact (if_neg (by decide)).mpr z
    · obtain ⟨hP, hp9⟩ := hp.resolve_left h
      have p2 := hP.1
      have pb : p.natAbs < 2 ^ 1000 := Nat.lt_of_le_of_lt (by omega : p.natAbs ≤ 1000000000) (by decide +kernel)
      have pb3 : p.natAbs < 2 ^ 3000 := Nat.lt_trans pb (by decide +kernel)
      refine ⟨_, rfl, _, rfl, a, p, rfl, a0, p2, pb3, fun m u x1 hS ha => ?_⟩
      refine ⟨x1, _, rfl, .inl (.inl upd_same), rfl, _, _, rfl, _, _, rfl, rfl, ?_⟩
      have e1 := same_upd (o := .tup [.int (m : Int), .int u]) ha
      generalize upd H x1 _ = H1 at e1 ⊢
      refine ⟨_, rfl, _, rfl, b, p, rfl, b0, p2, pb3, fun n v x2 hS2 hb => ?_⟩
      refine ⟨x2, _, rfl, .inl (.inl upd_same), rfl, _, _, rfl, _, _, rfl, rfl, ?_⟩
      have e2 := e1.trans (same_upd (o := .tup [.int (n : Int), .int v]) hb)
      generalize upd H1 x2 _ = H2 at e2 ⊢
      have z0 : ∀ J, Same H2 J → Q (.int (sgnAt p m n u v)) J := fun J e => q _ J (.inr ⟨h, m, n, u, v, hS, hS2, rfl⟩) (e2.trans e)
      have z := z0 H2 (Same.refl _)
      obtain ⟨s1, s2⟩ := strip_le p2 hS
      obtain ⟨s3, s4⟩ := strip_le p2 hS2
      clear q e1 e2 ha hb
      have wm : (m : Int).natAbs < 2 ^ 3000 := lt3000s (by omega) (by omega)
      have wn : (n : Int).natAbs < 2 ^ 3000 := lt3000s (by omega) (by omega)
      have r1 := rest_small (-1) p
      have r2 := rest_small u p
      have r3 := rest_small v p
      refine ⟨_, rfl, _, _, rfl, rfl, _, rfl, ifd (fun h2 => ?_) (fun h2 => ?_)⟩
      · subst h2
        have hu : u % 2 = 1 := by
          have := hS.2
          omega
        have hv : v % 2 = 1 := by
          have := hS2.2
          omega
        rw [sgn2_law hu hv] at z0
        clear z
        refine ⟨fun x H' => x = .bl (decide (u % 4 = 3 ∧ v % 4 = 3)) ∧ H2 = H', ?_, fun x H' hx => ?_⟩
        · refine ⟨_, rfl, .inl ⟨_, rfl, _, _, rfl, rfl, (by show (0 : Int) < 4; decide), _, _, rfl, rfl, _, rfl, ifd (fun c => ?_) (fun c => ?_)⟩⟩
          · refine ⟨_, rfl, .inl ⟨_, rfl, _, _, rfl, rfl, (by show (0 : Int) < 4; decide), _, _, rfl, rfl, ?_, rfl⟩⟩
            refine congrArg V.bl ?_
            show decide (v % 4 = 3) = _
            rw [decide_eq_decide]
            exact ⟨fun k => ⟨c, k⟩, fun k => k.2⟩
          · refine ⟨?_, rfl⟩
            refine congrArg V.bl ?_
            rw [decide_eq_false (fun k => c k.1)]
        obtain ⟨rfl, rfl⟩ := hx
        refine ⟨_, rfl, .inr ⟨_, rfl, ?_⟩⟩
        refine ⟨_, rfl, _, rfl, .inl ⟨_, rfl, _, _, rfl, rfl, (by show (0 : Int) < 8; decide), (by show 2 ≤ sizeLine; decide), fun y1 hy1 => ?_⟩⟩
        refine ⟨y1, _, rfl, .inr (.inl (.inl upd_same)), rfl, rfl, ?_⟩
        have wb : ∀ k : Prop, [Decidable k] → ((if k then (1 : Int) else 0)).natAbs < 2 ^ 3000 := fun k _ => lt3000s (by split <;> decide) (by split <;> decide)
        have ebl : ∀ (x : Int), (if inV (.int x) [.int 3, .int 5] = true then (1 : Int) else 0) = if x = 3 ∨ x = 5 then 1 else 0 := fun x => by
          rw [inV_two]
          by_cases c : x = 3 ∨ x = 5
          · rw [if_pos c, if_pos (decide_eq_true c)]
          · rw [if_neg c, if_neg (by rw [decide_eq_false c]; decide)]
        refine .inr ⟨_, rfl, _, _, rfl, rfl, CMulW.of wm ?_, _, _, rfl, rfl, ?_⟩
        · show (if inV (.int (v % 8)) [.int 3, .int 5] = true then (1 : Int) else 0).natAbs < _
          rw [ebl]
          exact wb _
        refine ⟨_, rfl, _, rfl, .inl ⟨_, rfl, _, _, rfl, rfl, (by show (0 : Int) < 8; decide), (by show 2 ≤ sizeLine; decide), fun y2 hy2 => ?_⟩⟩
        refine ⟨y2, _, rfl, .inr (.inl (.inl upd_same)), rfl, rfl, ?_⟩
        refine .inr ⟨_, rfl, _, _, rfl, rfl, CMulW.of wn ?_, _, _, rfl, rfl, ?_⟩
        · show (if inV (.int (u % 8)) [.int 3, .int 5] = true then (1 : Int) else 0).natAbs < _
          rw [ebl]
          exact wb _
        replace z0 := z0 _ ((same_upd (o := .tup [.int 3, .int 5]) hy1).trans (same_upd (o := .tup [.int 3, .int 5]) hy2))
        have eM : ((if decide (u % 4 = 3 ∧ v % 4 = 3) = true then (1 : Int) else 0) + (m : Int) * (if inV (.int (v % 8)) [.int 3, .int 5] = true then (1 : Int) else 0) + (n : Int) * (if inV (.int (u % 8)) [.int 3, .int 5] = true then (1 : Int) else 0)) = ((if u % 4 = 3 ∧ v % 4 = 3 then 1 else 0) + (m : Int) * (if v % 8 = 3 ∨ v % 8 = 5 then 1 else 0) + (n : Int) * (if u % 8 = 3 ∨ u % 8 = 5 then 1 else 0)) := by
          rw [ebl, ebl]
          congr 2
          by_cases c : u % 4 = 3 ∧ v % 4 = 3
          · rw [if_pos c, if_pos (decide_eq_true c)]
          · rw [if_neg c, if_neg (by rw [decide_eq_false c]; decide)]
        refine ⟨_, rfl, .inl ⟨_, rfl, _, _, rfl, rfl, (by show (0 : Int) < 2; decide), _, _, rfl, rfl, _, rfl, ifd (fun c => ?_) (fun c => ?_)⟩⟩
        · replace c : (((if decide (u % 4 = 3 ∧ v % 4 = 3) = true then (1 : Int) else 0) + (m : Int) * (if inV (.int (v % 8)) [.int 3, .int 5] = true then (1 : Int) else 0) + (n : Int) * (if inV (.int (u % 8)) [.int 3, .int 5] = true then (1 : Int) else 0))) % 2 = 0 := c
          rw [eM] at c
          rw [if_pos c] at z0
          exact z0
        · replace c : ¬ (((if decide (u % 4 = 3 ∧ v % 4 = 3) = true then (1 : Int) else 0) + (m : Int) * (if inV (.int (v % 8)) [.int 3, .int 5] = true then (1 : Int) else 0) + (n : Int) * (if inV (.int (u % 8)) [.int 3, .int 5] = true then (1 : Int) else 0))) % 2 = 0 := c
          rw [eM] at c
          rw [if_neg c] at z0
          exact ⟨_, rfl, z0⟩
      · have F1 : (if m * n % 2 = 1 then restSign (-1) p else 1).natAbs ≤ 1 := by split <;> omega
        have F2 : (if n % 2 = 1 then restSign u p else 1).natAbs ≤ 1 := by split <;> omega
        have F3 : (if m % 2 = 1 then restSign v p else 1).natAbs ≤ 1 := by split <;> omega
        have emn : (m : Int) * n = ((m * n : Nat) : Int) := (Int.natCast_mul _ _).symm
        have eS : sgnAt p m n u v = (if m * n % 2 = 1 then restSign (-1) p else 1) * (if n % 2 = 1 then restSign u p else 1) * (if m % 2 = 1 then restSign v p else 1) := by
          unfold sgnAt
          rw [if_neg h2]
        rw [eS] at z
        refine ⟨fun x H' => x = .int (if m * n % 2 = 1 then restSign (-1) p else 1) ∧ H2 = H', ?_, fun x H' hx => ?_⟩
        · refine ⟨_, rfl, _, rfl, _, _, rfl, rfl, CMulW.of wm wn, .inl ⟨_, rfl, _, _, rfl, rfl, (by show (0 : Int) < 2; decide), _, _, rfl, rfl, _, rfl, ifd (fun c => ?_) (fun c => ?_)⟩⟩
          · refine ⟨_, rfl, _, rfl, -1, p, rfl, by omega, pb, ?_, rfl⟩
            rw [if_pos (by rw [emn] at c; omega)]
          · refine ⟨?_, rfl⟩
            rw [if_neg (by rw [emn] at c; omega)]
        obtain ⟨rfl, rfl⟩ := hx
        generalize (if m * n % 2 = 1 then restSign (-1) p else 1) = f1 at F1 z ⊢
        refine ⟨_, rfl, fun x H' => x = .int (if n % 2 = 1 then restSign u p else 1) ∧ H2 = H', ?_, fun x H' hx => ?_⟩
        · refine ⟨_, rfl, _, _, rfl, rfl, (by show (0 : Int) < 2; decide), _, _, rfl, rfl, _, rfl, ifd (fun c => ?_) (fun c => ?_)⟩
          · refine ⟨_, rfl, _, rfl, u, p, rfl, by omega, pb, ?_, rfl⟩
            rw [if_pos (by omega)]
          · refine ⟨?_, rfl⟩
            rw [if_neg (by omega)]
        obtain ⟨rfl, rfl⟩ := hx
        generalize (if n % 2 = 1 then restSign u p else 1) = f2 at F2 z ⊢
        have F12 : (f1 * f2).natAbs ≤ 1 := by
          rw [Int.natAbs_mul]
          exact Nat.mul_le_mul F1 F2
        refine ⟨_, _, rfl, rfl, CMulW.of (lt3000s (by omega) (by omega)) (lt3000s (by omega) (by omega)), ?_⟩
        refine ⟨_, rfl, fun x H' => x = .int (if m % 2 = 1 then restSign v p else 1) ∧ H2 = H', ?_, fun x H' hx => ?_⟩
        · refine ⟨_, rfl, _, _, rfl, rfl, (by show (0 : Int) < 2; decide), _, _, rfl, rfl, _, rfl, ifd (fun c => ?_) (fun c => ?_)⟩
          · refine ⟨_, rfl, _, rfl, v, p, rfl, by omega, pb, ?_, rfl⟩
            rw [if_pos (by omega)]
          · refine ⟨?_, rfl⟩
            rw [if_neg (by omega)]
        obtain ⟨rfl, rfl⟩ := hx
        exact ⟨_, _, rfl, rfl, CMulW.of (lt3000s (by omega) (by omega)) (lt3000s (by omega) (by omega)), z⟩
end
end Sf

namespace Sf
open PySem PySem.Spec PyProof.Rows L2
/-- no divisor from 2 on below t -/
def NoDv (n t : Int) : Prop := 2 ≤ t ∧ ∀ k : Int, 2 ≤ k → k < t → n % k ≠ 0
theorem nodv_prime {n t : Int} (h : NoDv n t) (d : n % t = 0) : PrP t := ⟨h.1, fun k k2 hk hz => h.2 k k2 hk (mod_of_dvd d hz)⟩
/-- what is known of the primes of N while they are taken out one by one -/
structure PartJ (N : Int) (ks : List Int) (left t : Int) : Prop where
  nod : NoDv left t
  pos : 1 ≤ left
  pr : ∀ k ∈ ks, PrP k ∧ N % k = 0
  dv : ∀ p, PrP p → N % p = 0 → p ∈ ks ∨ left % p = 0
  ld : ∀ p : Int, left % p = 0 → N % p = 0
  le : left ≤ N
  len : (ks.length : Int) ≤ t - 2
  pw : 2 ^ ks.length * left ≤ N
theorem partj_start {N : Int} (h : 1 ≤ N) : PartJ N [] N 2 := ⟨⟨by decide, fun k h1 h2 => by omega⟩, h, fun k hk => (by cases hk), fun p _ d => .inr d, fun _ d => d, Int.le_refl _, (by decide), (by rw [List.length_nil, Int.pow_zero, Int.one_mul]; exact Int.le_refl _)⟩
theorem dvd_mod {a b : Int} : a % b = 0 ↔ b ∣ a := ⟨Int.dvd_of_emod_eq_zero, Int.emod_eq_zero_of_dvd⟩
theorem partj_step {N left left' t : Int} {ks : List Int} {m : Nat} (h : PartJ N ks left t) (hS : left = t ^ m * left') (hn : left' % t ≠ 0) (hp : 1 ≤ left') :
    (m = 0 → PartJ N ks left' (t + 1)) ∧ (0 < m → PrP t ∧ PartJ N (ks ++ [t]) left' (t + 1)) := by
  have dv' : left' ∣ left := ⟨t ^ m, by rw [hS, Int.mul_comm]⟩
  have t2 := h.nod.1
  have ldv : ∀ p : Int, left' % p = 0 → left % p = 0 := fun p d => dvd_mod.mpr (Int.dvd_trans (dvd_mod.mp d) dv')
  have nod : NoDv left' (t + 1) := by
    refine ⟨by omega, fun k k2 hk hz => ?_⟩
    by_cases c : k = t
    · rw [c] at hz
      exact hn hz
    · exact h.nod.2 k k2 (by omega) (ldv k hz)
  have le' : left' ≤ left := Int.le_of_dvd (by have := h.pos; omega) dv'
  constructor
  · intro m0
    rw [m0, Int.pow_zero, Int.one_mul] at hS
    subst hS
    exact ⟨nod, hp, h.pr, h.dv, h.ld, h.le, by have := h.len; omega, h.pw⟩
  · intro m0
    have td : left % t = 0 := by
      rw [dvd_mod, hS]
      obtain ⟨j, rfl⟩ : ∃ j, m = j + 1 := ⟨m - 1, by omega⟩
      rw [Int.pow_succ]
      exact ⟨t ^ j * left', by rw [Int.mul_comm (t ^ j) t, Int.mul_assoc]⟩
    have pt : PrP t := nodv_prime h.nod td
    refine ⟨pt, nod, hp, fun k hk => ?_, fun p hP d => ?_, fun p d => h.ld p (ldv p d), Int.le_trans le' h.le, ?_, ?_⟩
    · rcases List.mem_append.mp hk with hk | hk
      · exact h.pr k hk
      · rw [List.mem_singleton.mp hk]
        exact ⟨pt, h.ld t td⟩
    · rcases h.dv p hP d with c | c
      · exact .inl (List.mem_append_left _ c)
      · by_cases e : p = t
        · exact .inl (List.mem_append_right _ (by rw [e]; exact List.mem_singleton.mpr rfl))
        · right
          rw [dvd_mod] at c ⊢
          rw [hS] at c
          rcases prime_mul hP c with c | c
          · exact absurd (prime_dvd_prime hP pt (prime_pow hP c)) e
          · exact c
    · rw [List.length_append]
      have := h.len
      show ((ks.length + 1 : Nat) : Int) ≤ _
      omega
    · rw [List.length_append, show [t].length = 1 from rfl, Int.pow_succ, Int.mul_assoc]
      refine Int.le_trans (Int.mul_le_mul_of_nonneg_left ?_ (Int.le_of_lt (Int.pow_pos (by decide)))) h.pw
      rw [hS]
      refine Int.mul_le_mul_of_nonneg_right ?_ (by omega)
      obtain ⟨j, rfl⟩ : ∃ j, m = j + 1 := ⟨m - 1, by omega⟩
      have h1 : (1 : Int) ≤ t ^ j := Int.pow_pos (by omega)
      have h2 : (1 : Int) * t ≤ t ^ j * t := Int.mul_le_mul_of_nonneg_right h1 (by omega)
      rw [Int.pow_succ]
      omega
theorem partj_few {N left t : Int} {ks : List Int} (h : PartJ N ks left t) (hN : N ≤ 1000000000) : ks.length ≤ 29 := by
  rcases Nat.lt_or_ge 29 ks.length with c | c
  · exfalso
    have h1 := h.pw
    have h2 : (2 : Int) ^ ks.length * 1 ≤ 2 ^ ks.length * left := Int.mul_le_mul_of_nonneg_left h.pos (Int.le_of_lt (Int.pow_pos (by decide)))
    have h3 : (2 : Int) ^ 30 ≤ 2 ^ ks.length := by
      rw [show ks.length = 30 + (ks.length - 30) by omega, Int.pow_add]
      have h4 : (1 : Int) ≤ 2 ^ (ks.length - 30) := Int.pow_pos (by decide)
      have : (2 : Int) ^ 30 * 1 ≤ 2 ^ 30 * 2 ^ (ks.length - 30) := Int.mul_le_mul_of_nonneg_left h4 (by decide)
      omega
    have h5 : (2 : Int) ^ 30 = 1073741824 := by decide
    omega
  · exact c
section
variable {P : Program} {w : World} {K : PySem.W.Frag} {mg : Str → Option Value} {base : Heap} {f : Addr} {fd : FuncData}
abbrev Ent := Addr × Int × Int
/-- pairs of integers that stand in a list -/
def EntAt (H : Hp) (D : Addr) (es : List Ent) : Prop := H D = some (.lst (es.map fun e => V.ref e.1)) ∧ ∀ e ∈ es, H e.1 = some (.tup [.int e.2.1, .int e.2.2])
structure LPartP (vs : List V) (H : Hp) (Q : VK) : Prop where
  ex : ∃ n : Int, vs = [.int n] ∧ n ≠ 0 ∧ n.natAbs ≤ 1000000000 ∧ ∀ (L : Addr) (es : List Ent) (H' : Hp), Same H H' → EntAt H' L es → es.length ≤ 30 → (∀ e ∈ es, PrP e.2.1 ∧ n % e.2.1 = 0) → (∀ p, PrP p → n % p = 0 → p ∈ es.map (·.2.1)) → Q (.ref L) H'
def spLPart : Sp := fun vs H Q _ => LPartP vs H Q
set_option maxHeartbeats 8000000 in
theorem ok_lparts (F : FnD K "_law_parts" "_law_parts" s_L_parts f fd) (T : Glob mg) : FnOk P w K mg base CX0 1 f fd ["_law_number"] spLPart := by
  refine F.ok sc_L_parts (fun vs H Q E h => ?_) (fun cdv A outer s H vs Q E hr h => ?_)
  · obtain ⟨n, rfl, _⟩ := h.ex; rfl
  · obtain ⟨n, rfl, n0, nb, q⟩ := h.ex
    refine ⟨_, PSs.nox (pss_cons (ps_par3 (i := 1) (j := 2) (l := 3) (by rfl) sc_L_parts.nd rfl rfl rfl (by decide) (by decide) (by decide) rfl rfl rfl (pa_cons (pe_lst pa_nil) (pa_cons (pe_callB call_abs (by rfl) T.m_abs (by decide +kernel) (pa_cons (pv 0) pa_nil)) (pa_cons pe_int pa_nil))) (by rfl))
      (pss_cons (ps_while PassesOwn.never (pt_cmp (pc_le (pe_op op_mulW (pv 3) (pv 3)) (pv 2))) (pss_cons (ps_set (i := 4) sc_L_parts.nd rfl (Or.inl rfl) pe_int)
      (pss_cons (ps_while PassesOwn.never (pt_cmp (pc_eqI (pe_op op_mod (pe_callTy call_int1 (by rfl) T.m_int (by decide +kernel) (pa_cons (pv 2) pa_nil)) (pv 3)) pe_int)) (pss_one (ps_par (i := 2) (j := 4) (by rfl) sc_L_parts.nd rfl rfl (by decide) rfl rfl (pa_cons (pe_op op_fdivW (pv 2) (pv 3)) (pa_cons (pe_op op_add (pv 4) pe_int) pa_nil)) (by rfl))))
      (pss_cons (ps_if (pt_cmp (pc_gt (pv 4) pe_int)) (pss_one (ps_expr (pe_bm PySem.F.plainAttrs_list PySem.F.slot_list_append PySem.F.type_list_append mt_append (pv 1) (pa_cons (pe_tup (pa_cons (pv 3) (pa_cons (pv 4) pa_nil))) pa_nil)))) pss_nil)
      (pss_one (ps_set (i := 3) sc_L_parts.nd rfl (Or.inl rfl) (pe_op op_add (pv 3) pe_int)))))))
      (pss_one (ps_ret (pe_op op_cat (pv 1) (pe_cut (pe_ifExp (pt_cmp (pc_gt (pv 2) pe_int)) (pe_lst (pa_cons (pe_tup (pa_cons (pv 2) (pa_cons pe_int pa_nil))) pa_nil)) (pe_lst pa_nil)))))))), ?_⟩
    obtain ⟨N, eN, hN1, hN2⟩ : ∃ N : Int, (if n < 0 then -n else n) = N ∧ 1 ≤ N ∧ N ≤ 1000000000 := ⟨_, rfl, by split <;> omega, by split <;> omega⟩
    have nN : ∀ p : Int, n % p = 0 ↔ N % p = 0 := fun p => by
      rw [dvd_mod, dvd_mod, ← eN]
      split
      · exact Int.dvd_neg.symm
      · exact Iff.rfl
    refine ⟨(by show 0 ≤ sizeLine; decide), fun D hD => ⟨_, rfl, n, rfl, _, _, _, rfl, ?_⟩⟩
    rw [eN]
    refine ⟨fun c σ H' => ∃ (es : List Ent) (left t : Int) (v4 : Option V), σ = [some (.int n), some (.ref D), some (.int left), some (.int t), v4] ∧ Same H H' ∧ EntAt H' D es ∧ PartJ N (es.map (·.2.1)) left t ∧ t ≤ 31625 ∧ c = (31626 - t).toNat, ⟨_, [], N, 2, none, rfl, same_upd hD, ⟨upd_same, fun e h => by cases h⟩, partj_start hN1, by decide, rfl⟩, ?_⟩
    rintro c σ H1 ⟨es, left, t, v4, rfl, e1, hE, hJ, t5, rfl⟩
    have t2 := hJ.nod.1
    have l1 := hJ.pos
    have lN := hJ.le
    have wt : t.natAbs < 2 ^ 3000 := lt3000s (by omega) (by omega)
    refine ⟨_, rfl, _, rfl, _, _, rfl, rfl, CMulW.of wt wt, _, rfl, t * t, left, rfl, rfl, _, rfl, ifd (fun h => ⟨fun σ' H' => ∃ m', m' < (31626 - t).toNat ∧ ∃ (es : List Ent) (left t : Int) (v4 : Option V), σ' = [some (.int n), some (.ref D), some (.int left), some (.int t), v4] ∧ Same H H' ∧ EntAt H' D es ∧ PartJ N (es.map (·.2.1)) left t ∧ t ≤ 31625 ∧ m' = (31626 - t).toNat, fun _ _ z => z, ?_⟩) (fun h => ?_)⟩
    · have tb : t ≤ 31622 := by
        by_cases c : t ≤ 31622
        · exact c
        · have : 31623 * 31623 ≤ t * t := Int.mul_le_mul (by omega) (by omega) (by decide) (by omega)
          omega
      refine ⟨fun c2 σ H' => H1 = H' ∧ ∃ (m : Nat) (u : Int), σ = [some (.int n), some (.ref D), some (.int u), some (.int t), some (.int (m : Int))] ∧ left = t ^ m * u ∧ 1 ≤ u ∧ c2 = u.natAbs, ⟨_, rfl, 0, left, rfl, by rw [Int.pow_zero, Int.one_mul], l1, rfl⟩, ?_⟩
      rintro c2 σ _ ⟨rfl, m, u, rfl, eu, u1, rfl⟩
      refine ⟨_, rfl, .inl ⟨_, rfl, _, rfl, _, _, rfl, rfl, (by omega), _, _, rfl, rfl, _, rfl, ifd (fun hd => ⟨fun σ' H' => ∃ m', m' < u.natAbs ∧ H1 = H' ∧ ∃ (m : Nat) (u : Int), σ' = [some (.int n), some (.ref D), some (.int u), some (.int t), some (.int (m : Int))] ∧ left = t ^ m * u ∧ 1 ≤ u ∧ m' = u.natAbs, fun _ _ z => z, ?_⟩) (fun hd => ?_)⟩⟩
      · have hl := strip_less (by omega : u ≠ 0) t2 hd
        have up1 : 1 ≤ u / t := by
          have := Int.ediv_nonneg (by omega : 0 ≤ u) (by omega : 0 ≤ t)
          have := hl.2.1
          omega
        refine ⟨_, rfl, _, rfl, _, _, rfl, rfl, CDivW.of (by omega) wt, _, rfl, _, _, rfl, rfl, _, _, rfl, ?_⟩
        refine ⟨_, hl.1, rfl, m + 1, u / t, rfl, ?_, up1, rfl⟩
        rw [eu, Int.pow_succ, Int.mul_assoc, ← hl.2.2]
      · obtain ⟨J1, J2⟩ := partj_step (m := m) hJ eu hd u1
        refine ⟨_, rfl, _, _, rfl, rfl, _, rfl, ifd (fun hm => ?_) (fun hm => ?_)⟩
        · obtain ⟨pt, J3⟩ := J2 (by omega)
          refine ⟨_, rfl, .inl ⟨rfl, _, SqL.of hE.1⟩, _, rfl, _, rfl, (by show 2 ≤ sizeLine; decide), fun tt htt => ?_⟩
          have e2 := same_upd (o := .tup [.int t, .int (m : Int)]) htt
          have hu : upd H1 tt (.tup [.int t, .int (m : Int)]) tt = some (.tup [.int t, .int (m : Int)]) := upd_same
          have hD2 := e2 _ _ hE.1
          have hes : ∀ e ∈ es, upd H1 tt (.tup [.int t, .int (m : Int)]) e.1 = some (.tup [.int e.2.1, .int e.2.2]) := fun e he => e2 _ _ (hE.2 e he)
          generalize upd H1 tt (.tup [.int t, .int (m : Int)]) = H2 at e2 hu hD2 hes ⊢
          have neD : ∀ x o, H2 x = some (.tup o) → x ≠ D := fun x o hx z => by
            rw [z, hD2] at hx
            cases hx
          have lk := hJ.len
          rw [List.length_map] at lk
          refine ⟨D, _, _, rfl, rfl, hD2, ?_, ?_⟩
          · rw [List.length_map]
            exact Nat.lt_of_lt_of_le (by omega : es.length < 100000) (by decide)
          refine ⟨_, rfl, _, _, rfl, rfl, ?_⟩
          refine ⟨_, (by omega : (31626 - (t + 1)).toNat < (31626 - t).toNat), es ++ [(tt, t, (m : Int))], u, t + 1, _, rfl, ?_, ⟨?_, ?_⟩, ?_, by omega, rfl⟩
          · intro b o eb
            rw [upd_ne (ne_of_none eb hD)]
            exact e2 _ _ (e1 _ _ eb)
          · rw [upd_same, List.map_append]
            rfl
          · intro e he
            rcases List.mem_append.mp he with he | he
            · rw [upd_ne (neD _ _ (hes e he))]
              exact hes e he
            · rw [List.mem_singleton.mp he, upd_ne (neD _ _ hu)]
              exact hu
          · rw [List.map_append]
            exact J3
        · refine ⟨_, rfl, _, _, rfl, rfl, ?_⟩
          exact ⟨_, (by omega : (31626 - (t + 1)).toNat < (31626 - t).toNat), es, u, t + 1, _, rfl, e1, hE, J1 (by omega), by omega, rfl⟩
    · have hlast : 1 < left → PrP left := fun hl => prp_of_trial (by omega) t2 hJ.nod.2 (by omega)
      refine ⟨_, rfl, fun x H' => ∃ (M : Addr) (es2 : List Ent), x = .ref M ∧ Same H1 H' ∧ EntAt H' M es2 ∧ ((es2 = [] ∧ left = 1) ∨ ∃ a, es2 = [(a, left, 1)] ∧ 1 < left), ?_, fun x H' hx => ?_⟩
      · refine ⟨_, rfl, _, _, rfl, rfl, _, rfl, ifd (fun hl => ?_) (fun hl => ?_)⟩
        · refine ⟨_, rfl, (by show 2 ≤ sizeLine; decide), fun a ha => ⟨(by show 1 ≤ sizeLine; decide), fun M hM => ?_⟩⟩
          have g1 := same_upd (o := .tup [.int left, .int 1]) ha
          have g2 := same_upd (o := .lst [.ref a]) hM
          refine ⟨M, [(a, left, 1)], rfl, g1.trans g2, ⟨upd_same, fun e he => ?_⟩, .inr ⟨a, rfl, hl⟩⟩
          rw [List.mem_singleton.mp he]
          exact g2 _ _ upd_same
        · refine ⟨(by show 0 ≤ sizeLine; decide), fun M hM => ⟨M, [], rfl, same_upd hM, ⟨upd_same, fun e he => by cases he⟩, .inl ⟨rfl, by omega⟩⟩⟩
      · obtain ⟨M, es2, rfl, g, hE2, hc⟩ := hx
        have lk := partj_few hJ hN2
        rw [List.length_map] at lk
        have l2 : es2.length ≤ 1 := by
          rcases hc with ⟨rfl, _⟩ | ⟨a, rfl, _⟩
          · exact Nat.zero_le _
          · exact Nat.le_refl _
        refine ⟨D, M, _, _, rfl, rfl, g _ _ hE.1, hE2.1, ?_, fun L hL => ?_⟩
        · rw [List.length_map, List.length_map]
          exact Nat.le_trans (by omega : es.length + es2.length ≤ 100000) (by decide)
        have g3 := same_upd (o := .lst (es.map (fun e => V.ref e.1) ++ es2.map fun e => V.ref e.1)) hL
        refine q L (es ++ es2) _ (e1.trans (g.trans g3)) ⟨by rw [upd_same, List.map_append], fun e he => ?_⟩ (by rw [List.length_append]; omega) (fun e he => ?_) (fun p hp hd => ?_)
        · rcases List.mem_append.mp he with he | he
          · exact g3 _ _ (g _ _ (hE.2 e he))
          · exact g3 _ _ (hE2.2 e he)
        · rcases List.mem_append.mp he with he | he
          · obtain ⟨k1, k2⟩ := hJ.pr e.2.1 (List.mem_map.mpr ⟨e, he, rfl⟩)
            exact ⟨k1, (nN _).mpr k2⟩
          · rcases hc with ⟨rfl, _⟩ | ⟨a, rfl, hl⟩
            · cases he
            · rw [List.mem_singleton.mp he]
              exact ⟨hlast hl, (nN _).mpr (hJ.ld left Int.emod_self)⟩
        · rw [List.map_append]
          rcases hJ.dv p hp ((nN p).mp hd) with c | c
          · exact List.mem_append_left _ c
          · rcases hc with ⟨rfl, hl⟩ | ⟨a, rfl, hl⟩
            · rw [hl, dvd_mod] at c
              exact absurd c (prime_one hp)
            · rw [dvd_mod] at c
              rw [prime_dvd_prime hp (hlast hl) c]
              exact List.mem_append_right _ (List.mem_singleton.mpr rfl)
end
end Sf

namespace Sf
open PySem PySem.Spec PyProof.Rows L2
theorem neg_placeA {a b p : Int} (hp : p = 0 ∨ PrP p) (h : HSign a b p (-1)) : p = 0 ∨ p = 2 ∨ (PrP p ∧ (a % p = 0 ∨ b % p = 0)) := by
  rcases hp with e | hp
  · exact .inl e
  · by_cases c : p = 2
    · exact .inr (.inl c)
    · by_cases c1 : a % p = 0
      · exact .inr (.inr ⟨hp, .inl c1⟩)
      · by_cases c2 : b % p = 0
        · exact .inr (.inr ⟨hp, .inr c2⟩)
        · exact absurd (sign_far hp c c1 c2 h) (by decide)
theorem prime2 : PrP 2 := ⟨by decide, fun k h1 h2 => by omega⟩
/-- what is sorted: 0, 2, and the primes of both numbers -/
structure NearL (a b : Int) (D : List Int) : Prop where
  asc : D.Pairwise (· < ·)
  ok : ∀ p ∈ D, p = 0 ∨ (PrP p ∧ p ≤ 1000000000)
  all : ∀ p, p = 0 ∨ p = 2 ∨ (PrP p ∧ (a % p = 0 ∨ b % p = 0)) → p ∈ D
theorem nearL_places {a b : Int} {D m : List Int} (h : NearL a b D) (hs : m.Sublist D) (hm : ∀ k, k ∈ m ↔ k ∈ D ∧ HSign a b k (-1)) : PlacesOf a b m := by
  refine ⟨h.asc.sublist hs, fun p => ?_⟩
  rw [hm]
  constructor
  · rintro ⟨h1, h2⟩
    exact ⟨(h.ok p h1).imp id (·.1), h2⟩
  · rintro ⟨h1, h2⟩
    exact ⟨h.all p (neg_placeA h1 h2), h2⟩
theorem dv_le {n p : Int} (n0 : n ≠ 0) (nb : n.natAbs ≤ 1000000000) (p2 : 2 ≤ p) (d : n % p = 0) : p ≤ 1000000000 := by
  obtain ⟨k, hk⟩ := Int.dvd_of_emod_eq_zero d
  have k0 : k ≠ 0 := fun z => n0 (by rw [hk, z, Int.mul_zero])
  have e : n.natAbs = p.natAbs * k.natAbs := by rw [hk]; exact Int.natAbs_mul _ _
  have : p.natAbs * 1 ≤ p.natAbs * k.natAbs := Nat.mul_le_mul_left _ (by omega)
  omega
section
variable {P : Program} {w : World} {K : PySem.W.Frag} {mg : Str → Option Value} {base : Heap} {f : Addr} {fd : FuncData}
structure LPlP (vs : List V) (H : Hp) (Q : VK) : Prop where
  ex : ∃ a b : Int, vs = [.int a, .int b] ∧ a ≠ 0 ∧ b ≠ 0 ∧ a.natAbs ≤ 1000000000 ∧ b.natAbs ≤ 1000000000 ∧ ∀ (l : List Int) (t : Addr) (H' : Hp), PlacesOf a b l → l.length ≤ 70 → Same H H' → H' t = some (.tup (l.map V.int)) → Q (.ref t) H'
def spLPl : Sp := fun vs H Q _ => LPlP vs H Q
set_option maxHeartbeats 8000000 in
theorem ok_lplaces (F : FnD K "_law_places" "_law_places" s_L_places f fd) (T : Glob mg) (C_L_parts : Cal P w K mg base 1 "_law_parts" ["_law_number"] spLPart) (C_L_sign : Cal P w K mg base 2 "_law_sign" ["_law_a", "_law_b", "_law_place"] spLSign) : FnOk P w K mg base CX0 3 f fd ["_law_a", "_law_b"] spLPl := by
  refine F.ok sc_L_places (fun vs H Q E h => ?_) (fun cdv A outer s H vs Q E hr h => ?_)
  · obtain ⟨a, b, rfl, _⟩ := h.ex; rfl
  · obtain ⟨a, b, rfl, a0, b0, ab, bb, q⟩ := h.ex
    have hu := hu_of hr
    refine ⟨_, PSs.nox (pss_cons (ps_set (i := 2) sc_L_places.nd rfl (Or.inl rfl) (pe_callB (cr_sortedSet rfl) (by rfl) T.m_sorted (by decide +kernel) (pa_cons (pe_callTy (cr_setL rfl) (by rfl) T.m_set (by decide +kernel) (pa_cons (pe_op op_cat (pe_op op_cat (pe_lst (pa_cons pe_int (pa_cons pe_int pa_nil))) (pe_lc rfl sc_L_places.nd (own := [("_law_part", 3)]) (pi_list (pe_cal C_L_parts (hr.mono (by decide)) (pa_cons (pv 0) pa_nil))) (blkOk_by (N := ["_law_a", "_law_b", "_law_near", "_law_part", "_law_place"]) (sc := defScope s_L_places) (by decide +kernel)) (fun _ _ _ _ _ => pg_name (i := 3) sc_L_places.nd rfl (Or.inl rfl)) (fun _ _ _ _ _ => pts_nil) (fun _ _ _ _ _ => (pe_ix (r := rIxT K) ix_tup (pv 3) pe_int (fun _ _ => rfl))))) (pe_lc rfl sc_L_places.nd (own := [("_law_part", 3)]) (pi_list (pe_cal C_L_parts (hr.mono (by decide)) (pa_cons (pv 1) pa_nil))) (blkOk_by (N := ["_law_a", "_law_b", "_law_near", "_law_part", "_law_place"]) (sc := defScope s_L_places) (by decide +kernel)) (fun _ _ _ _ _ => pg_name (i := 3) sc_L_places.nd rfl (Or.inl rfl)) (fun _ _ _ _ _ => pts_nil) (fun _ _ _ _ _ => (pe_ix (r := rIxT K) ix_tup (pv 3) pe_int (fun _ _ => rfl))))) pa_nil)) pa_nil)))
      (pss_one (ps_ret (pe_callTy call_tuple_of (by rfl) T.m_tuple (by decide +kernel) (pa_cons (pe_lc rfl sc_L_places.nd (own := [("_law_place", 4)]) (pi_list (pv 2)) (blkOk_by (N := ["_law_a", "_law_b", "_law_near", "_law_part", "_law_place"]) (sc := defScope s_L_places) (by decide +kernel)) (fun _ _ _ _ _ => pg_name (i := 4) sc_L_places.nd rfl (Or.inl rfl)) (fun _ _ _ _ _ => pts_one (pt_cmp (pc_eqI (pe_cal C_L_sign (hr.mono (by decide)) (pa_cons (pv 0) (pa_cons (pv 1) (pa_cons (pv 4) pa_nil)))) (pe_un un_neg pe_int)))) (fun _ _ _ _ _ => (pv 4))) pa_nil))))), ?_⟩
    refine ⟨(by show 2 ≤ sizeLine; decide), fun L1 h1 => ?_⟩
    have g1 := same_upd (o := .lst [.int 0, .int 2]) h1
    have k1 : upd H L1 (.lst [.int 0, .int 2]) L1 = some (.lst (([0, 2] : List Int).map V.int)) := upd_same
    generalize upd H L1 _ = H1 at g1 k1 ⊢
    refine ⟨_, rfl, ⟨a, rfl, a0, ab, fun La es H2 e2 hE hl hpr hall => ?_⟩⟩
    refine ⟨La, rfl, ⟨_, SqL.of hE.1⟩, fun D hD => lc_list (K := K) (a := La) (xs := es.map fun e => V.ref e.1) (fun i H' => Same H2 H' ∧ H' D = some (.lst (((es.map (·.2.1)).take i).map V.int))) ⟨same_upd hD, upd_same⟩ (fun i H' _ hp => SqL.of (hp.1 _ _ hE.1)) (fun i v H' hv hp => ?_) (fun H3 hp => ?_)⟩
    · obtain ⟨e3, hd⟩ := hp
      rw [List.getElem?_map] at hv
      obtain ⟨e, he, rfl⟩ := Option.map_eq_some_iff.mp hv
      have hz := e3 _ _ (hE.2 e (List.mem_of_getElem? he))
      refine ⟨rfl, ?_⟩
      refine ⟨_, rfl, e.1, _, 0, .int e.2.1, rfl, rfl, SqT.of hz, rfl, ?_⟩
      refine ⟨_, hd, ?_, ?_, ?_⟩
      · rw [List.length_map]
        have := List.length_take_le' i (es.map (·.2.1))
        rw [List.length_map] at this
        exact Nat.lt_of_le_of_lt (by omega : ((es.map (·.2.1)).take i).length ≤ 100) (by decide)
      · intro b' o eb
        rw [upd_ne (ne_of_none eb hD)]
        exact e3 _ _ eb
      · rw [upd_same, List.take_add_one, List.getElem?_map, he, List.map_append]
        rfl
    obtain ⟨e3, hd⟩ := hp
    rw [List.length_map, List.take_of_length_le (by rw [List.length_map]; exact Nat.le_refl _)] at hd
    have k1' := e3 _ _ (e2 _ _ k1)
    refine ⟨L1, D, _, _, rfl, rfl, k1', hd, ?_, fun L2 h2 => ?_⟩
    · rw [List.length_map, List.length_map, List.length_map]
      exact Nat.le_trans (show 2 + es.length ≤ 100 by omega) (by decide)
    have g2 := same_upd (o := .lst (([0, 2] : List Int).map V.int ++ (es.map (·.2.1)).map V.int)) h2
    have k2 : upd H3 L2 (.lst (([0, 2] : List Int).map V.int ++ (es.map (·.2.1)).map V.int)) L2 = some (.lst (([0, 2] ++ es.map (·.2.1) : List Int).map V.int)) := by rw [upd_same, List.map_append]
    generalize upd H3 L2 _ = H4 at g2 k2 ⊢
    refine ⟨_, rfl, ⟨b, rfl, b0, bb, fun Lb fs H5 e5 hE' hl' hpr' hall' => ?_⟩⟩
    refine ⟨Lb, rfl, ⟨_, SqL.of hE'.1⟩, fun D2 hD2 => lc_list (K := K) (a := Lb) (xs := fs.map fun e => V.ref e.1) (fun i H' => Same H5 H' ∧ H' D2 = some (.lst (((fs.map (·.2.1)).take i).map V.int))) ⟨same_upd hD2, upd_same⟩ (fun i H' _ hp => SqL.of (hp.1 _ _ hE'.1)) (fun i v H' hv hp => ?_) (fun H6 hp => ?_)⟩
    · obtain ⟨e3, hd⟩ := hp
      rw [List.getElem?_map] at hv
      obtain ⟨e, he, rfl⟩ := Option.map_eq_some_iff.mp hv
      have hz := e3 _ _ (hE'.2 e (List.mem_of_getElem? he))
      refine ⟨rfl, ?_⟩
      refine ⟨_, rfl, e.1, _, 0, .int e.2.1, rfl, rfl, SqT.of hz, rfl, ?_⟩
      refine ⟨_, hd, ?_, ?_, ?_⟩
      · rw [List.length_map]
        have := List.length_take_le' i (fs.map (·.2.1))
        rw [List.length_map] at this
        exact Nat.lt_of_le_of_lt (by omega : ((fs.map (·.2.1)).take i).length ≤ 100) (by decide)
      · intro b' o eb
        rw [upd_ne (ne_of_none eb hD2)]
        exact e3 _ _ eb
      · rw [upd_same, List.take_add_one, List.getElem?_map, he, List.map_append]
        rfl
    obtain ⟨e6, hd2⟩ := hp
    rw [List.length_map, List.take_of_length_le (by rw [List.length_map]; exact Nat.le_refl _)] at hd2
    have k2' := e6 _ _ (e5 _ _ k2)
    refine ⟨L2, D2, _, _, rfl, rfl, k2', hd2, ?_, fun L3 h3 => ?_⟩
    · rw [List.length_map, List.length_append, List.length_map, List.length_map, List.length_map]
      exact Nat.le_trans (show 2 + es.length + fs.length ≤ 100 by omega) (by decide)
    generalize hns : ([0, 2] ++ es.map (·.2.1)) ++ fs.map (·.2.1) = ns at *
    have hlen : ns.length ≤ 62 := by
      rw [← hns, List.length_append, List.length_append, List.length_map, List.length_map]
      show 2 + es.length + fs.length ≤ 62
      omega
    have g3 := same_upd (o := .lst (([0, 2] ++ es.map (·.2.1) : List Int).map V.int ++ (fs.map (·.2.1)).map V.int)) h3
    have k3 : upd H6 L3 (.lst (([0, 2] ++ es.map (·.2.1) : List Int).map V.int ++ (fs.map (·.2.1)).map V.int)) L3 = some (.lst (ns.map V.int)) := by rw [upd_same, ← hns, ← List.map_append]
    have eH := g1.trans (e2.trans (e3.trans (g2.trans (e5.trans (e6.trans g3)))))
    generalize upd H6 L3 _ = H7 at g3 k3 eH ⊢
    refine ⟨L3, ns, rfl, SqL.of k3, by omega, fun y n hn hy => ?_⟩
    refine ⟨y, _, n, rfl, upd_same, by omega, fun D3 z hD3 hm hDl hz => ?_⟩
    have hN : NearL a b D3 := by
      have mem : ∀ k, k ∈ D3 ↔ k ∈ ns := fun k => (hm k).trans decide_eq_true_iff
      refine ⟨hD3, fun p hp => ?_, fun p hp => ?_⟩
      · have hp' := (mem p).mp hp
        rw [← hns] at hp'
        rcases List.mem_append.mp hp' with hp' | hp'
        · rcases List.mem_append.mp hp' with hp' | hp'
          · rcases List.mem_cons.mp hp' with e | hp'
            · exact .inl e
            · rw [List.mem_singleton.mp hp']
              exact .inr ⟨prime2, by decide⟩
          · obtain ⟨e, he, rfl⟩ := List.mem_map.mp hp'
            obtain ⟨q1, q2⟩ := hpr e he
            exact .inr ⟨q1, dv_le a0 ab q1.1 q2⟩
        · obtain ⟨e, he, rfl⟩ := List.mem_map.mp hp'
          obtain ⟨q1, q2⟩ := hpr' e he
          exact .inr ⟨q1, dv_le b0 bb q1.1 q2⟩
      · rw [mem, ← hns]
        rcases hp with rfl | rfl | ⟨hP, hd | hd⟩
        · exact List.mem_append_left _ (List.mem_append_left _ (by decide))
        · exact List.mem_append_left _ (List.mem_append_left _ (by decide))
        · exact List.mem_append_left _ (List.mem_append_right _ (hall p hP hd))
        · exact List.mem_append_right _ (hall' p hP hd)
    have eZ := (eH.trans (same_upd (o := SetO w y (fun j => decide (j ∈ ns)) n) hy)).trans (same_upd (o := .lst (D3.map V.int)) hz)
    have kz : upd (upd H7 y (SetO w y (fun j => decide (j ∈ ns)) n)) z (.lst (D3.map V.int)) z = some (.lst (D3.map V.int)) := upd_same
    change gName 2 (V.ref z) _ (upd (upd H7 y (SetO w y (fun j => decide (j ∈ ns)) n)) z (.lst (D3.map V.int))) _
    generalize upd (upd H7 y (SetO w y (fun j => decide (j ∈ ns)) n)) z (.lst (D3.map V.int)) = H8 at eZ kz ⊢
    refine ⟨_, rfl, z, rfl, ⟨_, SqL.of kz⟩, fun D4 hD4 => lc_list (K := K) (a := z) (xs := D3.map V.int) (fun i H' => Same H8 H' ∧ ∃ m : List Int, H' D4 = some (.lst (m.map V.int)) ∧ m.Sublist (D3.take i) ∧ ∀ k, k ∈ m ↔ k ∈ D3.take i ∧ HSign a b k (-1)) ⟨same_upd hD4, [], upd_same, List.Sublist.refl _, fun k => ⟨fun z => (by cases z), fun z => absurd z.1 (by simp)⟩⟩ (fun i H' _ hp => SqL.of (hp.1 _ _ kz)) (fun i v H' hv hp => ?_) (fun H9 hp => ?_)⟩
    · obtain ⟨e9, m, hmd, msub, hmm⟩ := hp
      rw [List.getElem?_map] at hv
      obtain ⟨k, hk, rfl⟩ := Option.map_eq_some_iff.mp hv
      have kP := hN.ok k (List.mem_of_getElem? hk)
      have et : D3.take (i + 1) = D3.take i ++ [k] := by rw [List.take_add_one, hk]; rfl
      refine ⟨rfl, ?_⟩
      refine ⟨_, rfl, _, rfl, _, rfl, a, b, k, rfl, a0, b0, ab, bb, kP, fun r H6 hr e6 => ?_⟩
      refine ⟨_, rfl, _, _, rfl, rfl, _, rfl, ifd (fun h => ?_) (fun h => ?_)⟩
      · have h : r = -1 := h
        subst h
        refine ⟨_, rfl, m.map V.int, e6 _ _ hmd, ?_, ?_, m ++ [k], ?_, ?_, fun j => ?_⟩
        · rw [List.length_map]
          have k1 := msub.length_le
          have k2 := List.length_take_le' i D3
          exact Nat.lt_of_le_of_lt (by omega : m.length ≤ 70) (by decide)
        · intro b' o e
          rw [upd_ne (ne_of_none e hD4)]
          exact e6 _ _ (e9 _ _ e)
        · rw [upd_same, List.map_append]; rfl
        · rw [et]
          exact msub.append (List.Sublist.refl _)
        · rw [et, List.mem_append, List.mem_append, hmm, List.mem_singleton]
          constructor
          · rintro (h | h)
            · exact ⟨.inl h.1, h.2⟩
            · exact ⟨.inr h, h ▸ hr⟩
          · rintro ⟨h | h, h2⟩
            · exact .inl ⟨h, h2⟩
            · exact .inr h
      · refine ⟨e9.trans e6, m, e6 _ _ hmd, ?_, fun j => ?_⟩
        · rw [et]
          exact msub.trans (List.sublist_append_left _ _)
        · rw [et, List.mem_append, hmm, List.mem_singleton]
          constructor
          · rintro h
            exact ⟨.inl h.1, h.2⟩
          · rintro ⟨h1 | h1, h2⟩
            · exact ⟨h1, h2⟩
            · subst h1
              exact absurd (hsign_unique (kP.imp id (·.1)) hr h2) h
    · obtain ⟨e9, m, hmd, msub, hmm⟩ := hp
      rw [List.length_map, List.take_length] at msub hmm
      refine ⟨D4, m.map V.int, rfl, .inl ⟨SqL.of hmd, fun t ht => ?_⟩⟩
      have hl := nearL_places hN msub hmm
      have ml := msub.length_le
      exact q m t _ hl (by omega) (eZ.trans (e9.trans (same_upd ht))) upd_same
end
end Sf

namespace Sf
open PySem PySem.Spec PyProof.Rows L2
section
variable {P : Program} {w : World} {K : PySem.W.Frag} {mg : Str → Option Value} {base : Heap} {f : Addr} {fd : FuncData} {CR CA CF : Addr}
def spIsAlg (CA : Addr) : Sp := fun vs H Q _ => ∃ x a b, vs = [.ref x] ∧ AlgAt CA H x a b ∧ Q .non H
theorem ok_check_algebra (F : FnD K "check_algebra" "check_algebra" s_P_check_algebra f fd) (T : Glob mg) (R : AlgK K CA) (G_Algebra : mg "Algebra" = some (.ref CA)) : FnOk P w K mg base CX0 1 f fd ["value"] (spIsAlg CA) := by
  refine F.ok sc_P_check_algebra (fun vs H Q E h => ?_) (fun cdv A outer s H vs Q E hr h => ?_)
  · obtain ⟨x, a, b, rfl, _⟩ := h; rfl
  · obtain ⟨x, a, b, rfl, hx, q⟩ := h
    refine ⟨_, PSs.nox (pss_one (ps_if (pt_not (pt_val (pe_callB call_isi (by rfl) T.m_isinstance (by decide +kernel) (pa_cons (pv 0) (pa_cons (pe_glob (v := .ref _) rfl G_Algebra rfl) pa_nil))))) (pss_one ps_never) pss_nil)), ?_⟩
    exact ⟨_, rfl, _, .ref CA, _, _, true, rfl, .own CA, R.own.ty hx.ins, R.own.kk, _, rfl, q⟩
def spSide (CA : Addr) : Sp := fun vs H Q _ => ∃ (al : Addr) (a b : Int), vs = [.ref al] ∧ AlgAt CA H al a b ∧ a.natAbs ≤ 10000 ∧ b.natAbs ≤ 10000 ∧ Q .non H
theorem ok_check_side (F : FnD K "check_side" "check_side" s_P_check_side f fd) (T : Glob mg) (R : AlgK K CA) : FnOk P w K mg base CX0 1 f fd ["algebra"] (spSide CA) := by
  refine F.ok sc_P_check_side (fun vs H Q E h => ?_) (fun cdv A outer s H vs Q E hr h => ?_)
  · obtain ⟨al, a, b, rfl, _⟩ := h; rfl
  · obtain ⟨al, a, b, rfl, hA, a1, b1, q⟩ := h
    obtain ⟨tM, hc_MAX_SIDE⟩ := T.m_MAX_SIDE
    refine ⟨_, PSs.nox (pss_one (ps_if (pt_cmp (pc_gt (pe_callB (call_max2 rfl) (by rfl) T.m_max (by decide +kernel) (pa_cons (pe_callB call_abs (by rfl) T.m_abs (by decide +kernel) (pa_cons (pe_fld (pv 0) rfl) pa_nil)) (pa_cons (pe_callB call_abs (by rfl) T.m_abs (by decide +kernel) (pa_cons (pe_fld (pv 0) rfl) pa_nil)) pa_nil))) (pe_glob (v := .int 10000) rfl hc_MAX_SIDE ⟨_, rfl⟩))) (pss_one ps_never) pss_nil)), ?_⟩
    obtain ⟨dx, pl, l, hx, _⟩ := hA.ex
    refine ⟨_, rfl, al, CA, dx, _, .int a, rfl, hx, R.own.cls, R.n2, rfl, a, rfl, _, rfl, al, CA, dx, _, .int b, rfl, hx, R.own.cls, R.n3, rfl, b, rfl, _, _, rfl, ?_⟩
    refine ⟨_, _, rfl, rfl, _, rfl, ifd (fun c => ?_) (fun c => q)⟩
    exfalso
    revert c
    repeat' split
    all_goals omega
structure SidesP (CA : Addr) (vs : List V) (H : Hp) (Q : VK) : Prop where
  ex : ∃ (al be : Addr) (a b c d : Int), vs = [.ref al, .ref be] ∧ AlgAt CA H al a b ∧ AlgAt CA H be c d ∧ a.natAbs ≤ 10000 ∧ b.natAbs ≤ 10000 ∧ c.natAbs ≤ 10000 ∧ d.natAbs ≤ 10000 ∧ Q .non H
def spSides (CA : Addr) : Sp := fun vs H Q _ => SidesP CA vs H Q
theorem ok_check_sides (F : FnD K "check_sides" "check_sides" s_P_check_sides f fd) (C_P_check_algebra : Cal P w K mg base 1 "check_algebra" ["value"] (spIsAlg CA)) (C_P_check_side : Cal P w K mg base 1 "check_side" ["algebra"] (spSide CA)) : FnOk P w K mg base CX0 2 f fd ["one", "other"] (spSides CA) := by
  refine F.ok sc_P_check_sides (fun vs H Q E h => ?_) (fun cdv A outer s H vs Q E hr h => ?_)
  · obtain ⟨al, be, a, b, c, d, rfl, _⟩ := h.ex; rfl
  · obtain ⟨al, be, a, b, c, d, rfl, hA, hB, a1, b1, c1, d1, q⟩ := h.ex
    refine ⟨_, PSs.nox (pss_cons (ps_expr (pe_cal C_P_check_algebra (hr.mono (by decide)) (pa_cons (pv 0) pa_nil)))
      (pss_cons (ps_expr (pe_cal C_P_check_algebra (hr.mono (by decide)) (pa_cons (pv 1) pa_nil)))
      (pss_cons (ps_expr (pe_cal C_P_check_side (hr.mono (by decide)) (pa_cons (pv 0) pa_nil)))
      (pss_one (ps_expr (pe_cal C_P_check_side (hr.mono (by decide)) (pa_cons (pv 1) pa_nil))))))), ?_⟩
    refine ⟨_, rfl, al, a, b, rfl, hA, _, rfl, be, c, d, rfl, hB, ?_⟩
    exact ⟨_, rfl, al, a, b, rfl, hA, a1, b1, _, rfl, be, c, d, rfl, hB, c1, d1, q⟩
end
end Sf

namespace Sf
open PySem PySem.Spec PyProof.Rows L2
/-- the places of small numbers are small -/
theorem place_le4 {a b p : Int} {l : List Int} (h : PlacesOf a b l) (a0 : a ≠ 0) (b0 : b ≠ 0) (a1 : a.natAbs ≤ 10000) (b1 : b.natAbs ≤ 10000) (hp : p ∈ l) : 0 ≤ p ∧ p ≤ 10000 := by
  obtain ⟨g, n⟩ := (h.2 p).mp hp
  rcases g with e | g
  · omega
  · refine ⟨by have := g.1; omega, ?_⟩
    by_cases c : p = 2
    · omega
    · have dv : ∀ {n : Int}, n ≠ 0 → n % p = 0 → p ≤ n.natAbs := fun {n} n0 d => by
        obtain ⟨k, hk⟩ := Int.dvd_of_emod_eq_zero d
        have k0 : k ≠ 0 := fun z => n0 (by rw [hk, z, Int.mul_zero])
        have p2 := g.1
        have e : n.natAbs = p.natAbs * k.natAbs := by rw [hk]; exact Int.natAbs_mul _ _
        have : p.natAbs * 1 ≤ p.natAbs * k.natAbs := Nat.mul_le_mul_left _ (by omega)
        omega
      by_cases ca : a % p = 0
      · have := dv a0 ca
        omega
      · by_cases cb : b % p = 0
        · have := dv b0 cb
          omega
        · exact absurd (sign_far g c ca cb n) (by decide)
theorem asc_few : ∀ {l : List Int} {lo hi : Int}, l.Pairwise (· < ·) → (∀ x ∈ l, lo ≤ x ∧ x ≤ hi) → (l.length : Int) ≤ max 0 (hi - lo + 1)
  | [], _, _, _, _ => by
    show ((0 : Nat) : Int) ≤ _
    omega
  | x :: l, lo, hi, h, g => by
    have hx := g x (by simp)
    have ih := asc_few (l := l) (lo := x + 1) (hi := hi) (List.Pairwise.of_cons h) fun y hy => ⟨by have := List.rel_of_pairwise_cons h hy; omega, (g y (List.mem_cons_of_mem _ hy)).2⟩
    rw [List.length_cons]
    push_cast
    omega
theorem places_few {a b : Int} {l : List Int} (h : PlacesOf a b l) (a0 : a ≠ 0) (b0 : b ≠ 0) (a1 : a.natAbs ≤ 10000) (b1 : b.natAbs ≤ 10000) : l.length ≤ 10001 := by
  have := asc_few (lo := 0) (hi := 10000) h.1 fun x hx => place_le4 h a0 b0 a1 b1 hx
  omega
/-! the places of two algebras, and the product of the primes among them -/
/-- the places of two algebras, ascending -/
def JoinL (a b c d : Int) (D : List Int) : Prop := D.Pairwise (· < ·) ∧ ∀ p, p ∈ D ↔ (p = 0 ∨ PrP p) ∧ (HSign a b p (-1) ∨ HSign c d p (-1))
theorem join_of {a b c d : Int} {l m D : List Int} (h : PlacesOf a b l) (g : PlacesOf c d m) (hD : D.Pairwise (· < ·)) (hm : ∀ p, p ∈ D ↔ p ∈ l ∨ p ∈ m) : JoinL a b c d D := ⟨hD, fun p => by
  rw [hm, h.2, g.2]
  constructor
  · rintro (z | z)
    · exact ⟨z.1, .inl z.2⟩
    · exact ⟨z.1, .inr z.2⟩
  · rintro ⟨z, y | y⟩
    · exact .inl ⟨z, y⟩
    · exact .inr ⟨z, y⟩⟩
theorem join_le4 {a b c d p : Int} {D : List Int} (h : JoinL a b c d D) (a0 : a ≠ 0) (b0 : b ≠ 0) (c0 : c ≠ 0) (d0 : d ≠ 0) (a1 : a.natAbs ≤ 10000) (b1 : b.natAbs ≤ 10000) (c1 : c.natAbs ≤ 10000) (d1 : d.natAbs ≤ 10000) (hp : p ∈ D) : 0 ≤ p ∧ p ≤ 10000 := by
  obtain ⟨g, n⟩ := (h.2 p).mp hp
  have key : ∀ {a b : Int}, a ≠ 0 → b ≠ 0 → a.natAbs ≤ 10000 → b.natAbs ≤ 10000 → HSign a b p (-1) → 0 ≤ p ∧ p ≤ 10000 := fun {a b} a0 b0 a1 b1 n => by
    rcases neg_placeA g n with e | e | ⟨hP, e⟩
    · omega
    · omega
    · have dv : ∀ {n : Int}, n ≠ 0 → n % p = 0 → p ≤ n.natAbs := fun {n} n0 d => by
        obtain ⟨k, hk⟩ := Int.dvd_of_emod_eq_zero d
        have k0 : k ≠ 0 := fun z => n0 (by rw [hk, z, Int.mul_zero])
        have p2 := hP.1
        have e : n.natAbs = p.natAbs * k.natAbs := by rw [hk]; exact Int.natAbs_mul _ _
        have : p.natAbs * 1 ≤ p.natAbs * k.natAbs := Nat.mul_le_mul_left _ (by omega)
        omega
      have := hP.1
      rcases e with e | e
      · have := dv a0 e
        omega
      · have := dv b0 e
        omega
  rcases n with n | n
  · exact key a0 b0 a1 b1 n
  · exact key c0 d0 c1 d1 n
theorem disc_pos : ∀ l : List Int, 0 < discOf l
  | [] => by decide
  | p :: l => by
    show 0 < (if p > 0 then p else 1) * discOf l
    have := disc_pos l
    split
    · exact Int.mul_pos (by assumption) this
    · omega
theorem disc_no {p : Int} (hp : PrP p) : ∀ {l : List Int}, (∀ x ∈ l, x = 0 ∨ PrP x) → p ∉ l → ¬ p ∣ discOf l
  | [], _, _, z => prime_one hp z
  | x :: l, h, n, z => by
    rcases prime_mul hp (show p ∣ (if x > 0 then x else 1) * discOf l from z) with y | y
    · split at y
      · have hx := (h x (by simp)).resolve_left (by omega)
        exact n (by rw [prime_dvd_prime hp hx y]; simp)
      · exact prime_one hp y
    · exact disc_no hp (fun q hq => h q (List.mem_cons_of_mem _ hq)) (fun q => n (List.mem_cons_of_mem _ q)) y
theorem disc_split {p : Int} (hp : PrP p) : ∀ {l : List Int}, l.Pairwise (· < ·) → (∀ x ∈ l, x = 0 ∨ PrP x) → p ∈ l → ∃ q, discOf l = p * q ∧ ¬ p ∣ q
  | [], _, _, hm => by cases hm
  | x :: l, ha, h, hm => by
    obtain ⟨a1, a2⟩ := List.pairwise_cons.mp ha
    rcases List.mem_cons.mp hm with e | e
    · subst e
      have := hp.1
      refine ⟨discOf l, ?_, disc_no hp (fun q hq => h q (List.mem_cons_of_mem _ hq)) (fun z => by have := a1 p z; omega)⟩
      show (if p > 0 then p else 1) * discOf l = _
      rw [if_pos (by omega)]
    · obtain ⟨q, e1, e2⟩ := disc_split hp a2 (fun q hq => h q (List.mem_cons_of_mem _ hq)) e
      refine ⟨(if x > 0 then x else 1) * q, ?_, fun z => ?_⟩
      · show (if x > 0 then x else 1) * discOf l = _
        rw [e1]
        exact Int.mul_left_comm ..
      · rcases prime_mul hp z with y | y
        · split at y
          · have hx := (h x (by simp)).resolve_left (by omega)
            have := prime_dvd_prime hp hx y
            have := a1 p e
            omega
          · exact prime_one hp y
        · exact e2 y
theorem disc_dvd {M : Int} : ∀ {l : List Int}, l.Pairwise (· < ·) → (∀ x ∈ l, x = 0 ∨ PrP x) → (∀ x ∈ l, PrP x → x ∣ M) → discOf l ∣ M
  | [], _, _, _ => ⟨M, (Int.one_mul _).symm⟩
  | x :: l, ha, h, g => by
    obtain ⟨a1, a2⟩ := List.pairwise_cons.mp ha
    have h' : ∀ y ∈ l, y = 0 ∨ PrP y := fun q hq => h q (List.mem_cons_of_mem _ hq)
    obtain ⟨k, hk⟩ := disc_dvd (M := M) a2 h' fun q hq => g q (List.mem_cons_of_mem _ hq)
    show (if x > 0 then x else 1) * discOf l ∣ M
    split
    · have hx := (h x (by simp)).resolve_left (by omega)
      have d := g x (by simp) hx
      rw [hk] at d
      rcases prime_mul hx d with y | ⟨j, hj⟩
      · exact absurd y (disc_no hx h' fun z => by have := a1 x z; omega)
      · exact ⟨j, by rw [hk, hj, ← Int.mul_assoc, Int.mul_comm (discOf l)]⟩
    · exact ⟨k, by rw [hk, Int.one_mul]⟩
theorem disc_len1 : ∀ {l : List Int}, (∀ x ∈ l, PrP x) → (2 : Int) ^ l.length ≤ discOf l
  | [], _ => by decide
  | x :: l, h => by
    have ih := disc_len1 (l := l) fun y hy => h y (List.mem_cons_of_mem _ hy)
    have hx := (h x (by simp)).1
    show 2 ^ (l.length + 1) ≤ (if x > 0 then x else 1) * discOf l
    rw [if_pos (by omega), Int.pow_succ, Int.mul_comm]
    have p0 : (0 : Int) < 2 ^ l.length := pow_pos_int (by decide) _
    exact Int.mul_le_mul hx ih (by omega) (by omega)
theorem disc_len : ∀ {l : List Int}, l.Pairwise (· < ·) → (∀ x ∈ l, x = 0 ∨ PrP x) → (2 : Int) ^ l.length ≤ 2 * discOf l
  | [], _, _ => by decide
  | x :: l, ha, h => by
    obtain ⟨a1, a2⟩ := List.pairwise_cons.mp ha
    have x0 : 0 ≤ x := by
      rcases h x (by simp) with e | e
      · omega
      · have := e.1
        omega
    have hl : ∀ y ∈ l, PrP y := fun y hy => (h y (List.mem_cons_of_mem _ hy)).resolve_left (by have := a1 y hy; omega)
    have ih := disc_len1 hl
    show (2 : Int) ^ (l.length + 1) ≤ 2 * ((if x > 0 then x else 1) * discOf l)
    rw [Int.pow_succ, Int.mul_comm]
    have dp := disc_pos l
    have : discOf l ≤ (if x > 0 then x else 1) * discOf l := by
      split
      · have := Int.mul_le_mul_of_nonneg_right (show 1 ≤ x by omega) (show 0 ≤ discOf l by omega)
        omega
      · omega
    omega
theorem place_dvd {a b p : Int} (hp : PrP p) (n : HSign a b p (-1)) : p ∣ 2 * a * b := by
  rcases neg_placeA (.inr hp) n with e | e | ⟨_, e | e⟩
  · have := hp.1
    omega
  · rw [e, Int.mul_assoc]
    exact Int.dvd_mul_right ..
  · exact Int.dvd_trans (Int.dvd_trans (Int.dvd_of_emod_eq_zero e) (Int.dvd_mul_left ..)) (Int.dvd_mul_right ..)
  · exact Int.dvd_trans (Int.dvd_of_emod_eq_zero e) (Int.dvd_mul_left ..)
/-- the places of small numbers are few -/
theorem places_few29 {a b : Int} {l : List Int} (h : PlacesOf a b l) (a0 : a ≠ 0) (b0 : b ≠ 0) (a1 : a.natAbs ≤ 10000) (b1 : b.natAbs ≤ 10000) : l.length ≤ 28 := by
  have ok : ∀ x ∈ l, x = 0 ∨ PrP x := fun x hx => ((h.2 x).mp hx).1
  have d := disc_dvd (M := 2 * a * b) h.1 ok fun x hx hp => place_dvd hp ((h.2 x).mp hx).2
  have ln := disc_len h.1 ok
  have ne : 2 * a * b ≠ 0 := Int.mul_ne_zero (by omega) b0
  have le : discOf l ≤ (2 * a * b).natAbs := Int.le_of_dvd (by omega) (Int.dvd_natAbs.mpr d)
  have bd : (2 * a * b).natAbs ≤ 20000 * 10000 := by
    rw [Int.natAbs_mul]
    exact Nat.mul_le_mul (by omega) b1
  rcases Nat.lt_or_ge 28 l.length with z | z
  · have g : ((2 ^ 29 : Nat) : Int) ≤ ((2 ^ l.length : Nat) : Int) := Int.ofNat_le.mpr (Nat.pow_le_pow_right (by decide) z)
    rw [Int.natCast_pow, Int.natCast_pow] at g
    have : ((2 : Nat) : Int) ^ 29 = 536870912 := by decide
    have e2 : ((2 : Nat) : Int) ^ l.length = 2 ^ l.length := rfl
    omega
  · exact z
theorem join_ok {a b c d : Int} {D : List Int} (h : JoinL a b c d D) : ∀ x ∈ D, x = 0 ∨ PrP x := fun x hx => ((h.2 x).mp hx).1
end Sf

namespace Sf
open PySem PySem.Spec PyProof.Rows L2
section
variable {P : Program} {w : World} {K : PySem.W.Frag} {mg : Str → Option Value} {base : Heap} {f : Addr} {fd : FuncData} {CR CA CF : Addr}
structure BothP (CA : Addr) (vs : List V) (H : Hp) (Q : VK) : Prop where
  ex : ∃ (al be : Addr) (a b c d : Int), vs = [.ref al, .ref be] ∧ AlgAt CA H al a b ∧ AlgAt CA H be c d ∧ a.natAbs ≤ 10000 ∧ b.natAbs ≤ 10000 ∧ c.natAbs ≤ 10000 ∧ d.natAbs ≤ 10000 ∧
    ∀ (D : List Int) (z : Addr) (H' : Hp), JoinL a b c d D → D.length ≤ 10001 → Same H H' → H' z = some (.lst (D.map V.int)) → Q (.ref z) H'
def spBoth (CA : Addr) : Sp := fun vs H Q _ => BothP CA vs H Q
set_option maxHeartbeats 8000000 in
theorem ok_places_of_both (F : FnD K "places_of_both" "places_of_both" s_P_places_of_both f fd) (T : Glob mg) (RA : AlgK K CA) : FnOk P w K mg base CX0 3 f fd ["one", "other"] (spBoth CA) := by
  refine F.ok sc_P_places_of_both (fun vs H Q E h => ?_) (fun cdv A outer s H vs Q E hr h => ?_)
  · obtain ⟨al, be, a, b, c, d, rfl, _⟩ := h.ex; rfl
  · obtain ⟨al, be, a, b, c, d, rfl, hA, hB, a1, b1, c1, d1, q⟩ := h.ex
    have hu := hu_of hr
    refine ⟨_, PSs.nox (pss_one (ps_ret (pe_callB (cr_sortedSet rfl) (by rfl) T.m_sorted (by decide +kernel) (pa_cons (pe_callTy (cr_setL rfl) (by rfl) T.m_set (by decide +kernel) (pa_cons (pe_lst (StX.pa_star (pe_fld (pv 0) rfl) (StX.pa_star (pe_fld (pv 1) rfl) pa_nil))) pa_nil)) pa_nil)))), ?_⟩
    obtain ⟨dA, pl, l, g1, g2, hP, a0, b0, _⟩ := id hA.ex
    obtain ⟨dB, pm, m, k1, k2, hR, c0, d0, _⟩ := id hB.ex
    refine ⟨_, rfl, al, CA, dA, _, .ref pl, rfl, g1, RA.own.cls, RA.n1, rfl, ?_⟩
    refine ⟨pl, l.map V.int, rfl, .inl (SqT.of g2), ?_⟩
    refine ⟨_, rfl, be, CA, dB, _, .ref pm, rfl, k1, RA.own.cls, RA.n1, rfl, ?_⟩
    refine ⟨pm, m.map V.int, rfl, .inl (SqT.of k2), ?_⟩
    have fl := places_few29 hP a0 b0 a1 b1
    have fm := places_few29 hR c0 d0 c1 d1
    have eL : l.map V.int ++ (m.map V.int ++ []) = (l ++ m).map V.int := by rw [List.append_nil, List.map_append]
    refine ⟨?_, fun x hx => ?_⟩
    · rw [eL, List.length_map, List.length_append]
      exact Nat.le_trans (by omega : l.length + m.length ≤ 56) (by decide)
    rw [eL]
    refine ⟨x, l ++ m, rfl, SqL.of upd_same, ?_, fun y n hn hy => ?_⟩
    · rw [List.length_append]; omega
    rw [List.length_append] at hn
    refine ⟨y, _, n, rfl, upd_same, by omega, fun D z hD hm hDl hz => ?_⟩
    have hJ : JoinL a b c d D := join_of hP hR hD fun p => by rw [hm, decide_eq_true_iff, List.mem_append]
    have few := asc_few (lo := 0) (hi := 10000) hD fun p hp => join_le4 hJ a0 b0 c0 d0 a1 b1 c1 d1 hp
    exact q D z _ hJ (by omega) (((same_upd hx).trans (same_upd hy)).trans (same_upd hz)) upd_same
end
end Sf

namespace Sf
open PySem PySem.Spec PyProof.Rows L2
/-! algebras with given places -/
/-- the signs that a pair of numbers must have -/
def HP (n F z : Int) (S : List Int) : Prop := (∀ p ∈ S, HSign n F p (-1)) ∧ ∀ p, p = 0 ∨ p = 2 ∨ p = z → p ≠ 1 → p ∈ S ∨ HSign n F p 1
/-- the product of the primes, with the sign of the real place -/
def freeOf (S : List Int) : Int := if (0 : Int) ∈ S then -discOf S else discOf S
theorem free_ne (S : List Int) : freeOf S ≠ 0 := by
  have := disc_pos S
  unfold freeOf
  split <;> omega
theorem free_abs (S : List Int) : ((freeOf S).natAbs : Int) = discOf S := by
  have := disc_pos S
  unfold freeOf
  split <;> omega
theorem free_dvd {S : List Int} {p : Int} : p ∣ freeOf S ↔ p ∣ discOf S := by
  unfold freeOf
  split
  · exact Int.dvd_neg
  · exact Iff.rfl
structure PlS (S : List Int) : Prop where
  asc : S.Pairwise (· < ·)
  ok : ∀ x ∈ S, x = 0 ∨ PrP x
/-- what has these signs has just these places -/
theorem hp_places {n z : Int} {S : List Int} (h : PlS S) (hn : n = z ∨ n = -z) (hz : z = 1 ∨ PrP z) (g : HP n (freeOf S) z S) : PlacesOf n (freeOf S) S := by
  refine ⟨h.asc, fun p => ⟨fun hp => ⟨h.ok p hp, g.1 p hp⟩, fun ⟨hp, s⟩ => ?_⟩⟩
  have near : p = 0 ∨ p = 2 ∨ p = z → p ≠ 1 → p ∈ S := fun a b => (g.2 p a b).resolve_right fun k => absurd (hsign_unique hp s k) (by decide)
  rcases neg_placeA hp s with e | e | ⟨hP, e | e⟩
  · exact near (.inl e) (by omega)
  · exact near (.inr (.inl e)) (by omega)
  · have p2 := hP.1
    have dz : p ∣ z := by
      have := Int.dvd_of_emod_eq_zero e
      rcases hn with k | k
      · exact k ▸ this
      · exact Int.dvd_neg.mp (k ▸ this)
    rcases hz with k | k
    · exact absurd (k ▸ dz) (prime_one hP)
    · exact near (.inr (.inr (prime_dvd_prime hP k dz))) (by omega)
  · exact Decidable.byContradiction fun k => disc_no hP h.ok k (free_dvd.mp (Int.dvd_of_emod_eq_zero e))
def insI (q : Int) : List Int → List Int
  | [] => [q]
  | x :: l => if q < x then q :: x :: l else x :: insI q l
theorem insI_len (q : Int) : ∀ l : List Int, (insI q l).length = l.length + 1
  | [] => rfl
  | x :: l => by
    unfold insI
    split
    · rfl
    · rw [List.length_cons, insI_len q l, List.length_cons]
theorem insI_mem (q p : Int) : ∀ l : List Int, p ∈ insI q l ↔ p = q ∨ p ∈ l
  | [] => by unfold insI; simp
  | x :: l => by
    unfold insI
    split
    · simp
    · rw [List.mem_cons, insI_mem q p l, List.mem_cons]
      constructor
      · rintro (a | a | a)
        · exact .inr (.inl a)
        · exact .inl a
        · exact .inr (.inr a)
      · rintro (a | a | a)
        · exact .inr (.inl a)
        · exact .inl a
        · exact .inr (.inr a)
theorem insI_asc {q : Int} : ∀ {l : List Int}, l.Pairwise (· < ·) → q ∉ l → (insI q l).Pairwise (· < ·)
  | [], _, _ => by unfold insI; simp
  | x :: l, h, n => by
    obtain ⟨a1, a2⟩ := List.pairwise_cons.mp h
    unfold insI
    split
    · rename_i c
      refine List.pairwise_cons.mpr ⟨fun y hy => ?_, h⟩
      rcases List.mem_cons.mp hy with e | e
      · omega
      · have := a1 y e
        omega
    · rename_i c
      refine List.pairwise_cons.mpr ⟨fun y hy => ?_, insI_asc a2 fun z => n (List.mem_cons_of_mem _ z)⟩
      rcases (insI_mem q y l).mp hy with e | e
      · have : q ≠ x := fun z => n (by rw [z]; simp)
        omega
      · exact a1 y e
/-- a prime that serves for places -/
structure Serves (q : Int) (S : List Int) : Prop where
  pr : PrP q
  m8 : q % 8 = 3
  out : q ∉ S
  no : ∀ p ∈ S, p = 0 ∨ p = 2 ∨ restSign (-q) p = -1
theorem strip_zero {n p : Int} (h : ¬ p ∣ n) : Strip n p 0 n := ⟨by rw [Int.pow_zero, Int.one_mul], fun z => h (Int.dvd_of_emod_eq_zero z)⟩
theorem hp_exists {S : List Int} (h : PlS S) (ev : S.length % 2 = 0) {q : Int} (hq : Serves q S) : HP (-q) (freeOf S) q S := by
  have q2 := hq.pr.1
  have m8 := hq.m8
  have F0 := free_ne S
  have away : ∀ {p : Int}, PrP p → p ≠ q → ¬ p ∣ -q := fun hp ne d => ne (prime_dvd_prime hp hq.pr (Int.dvd_neg.mp d))
  have ne2 : (2 : Int) ≠ q := by omega
  have own : ∀ p ∈ S, HSign (-q) (freeOf S) p (-1) := fun p hp => by
    rcases h.ok p hp with e | hP
    · refine .inl ⟨e, ?_⟩
      have : (0 : Int) ∈ S := e ▸ hp
      have dp := disc_pos S
      unfold freeOf
      rw [if_pos this, if_pos (by omega)]
    · have npq : p ≠ q := fun z => hq.out (z ▸ hp)
      obtain ⟨u, e1, e2⟩ := disc_split hP h.asc h.ok hp
      obtain ⟨v, f1, f2⟩ : ∃ v, freeOf S = p * v ∧ ¬ p ∣ v := by
        unfold freeOf
        split
        · exact ⟨-u, by rw [e1, Int.mul_neg], fun z => e2 (Int.dvd_neg.mp z)⟩
        · exact ⟨u, e1, e2⟩
      have p2 := hP.1
      refine .inr ⟨by omega, 0, 1, -q, v, strip_zero (away hP npq), ⟨by rw [f1, Int.pow_succ, Int.pow_zero, Int.one_mul], fun z => f2 (Int.dvd_of_emod_eq_zero z)⟩, ?_⟩
      unfold sgnAt
      by_cases c : p = 2
      · rw [if_pos c]
        refine (if_pos ?_).symm
        obtain ⟨k, hk⟩ : ∃ k, -q = 8 * k + 5 := ⟨-q / 8, by omega⟩
        rw [hk]
        have a1 : (8 * k + 5 - 1) / 2 = 2 * (2 * k + 1) := by omega
        have a2 : ((8 * k + 5) * (8 * k + 5) - 1) / 8 = 8 * (k * k) + 10 * k + 3 := by
          have : (8 * k + 5) * (8 * k + 5) = 8 * (8 * (k * k) + 10 * k + 3) + 1 := by
            have e : 8 * k * (8 * k) = 64 * (k * k) := by rw [Int.mul_assoc, Int.mul_left_comm k 8 k, ← Int.mul_assoc]; rfl
            rw [Int.add_mul, Int.mul_add, Int.mul_add, e]
            omega
          omega
        rw [a1, a2, Int.mul_assoc]
        generalize (2 * k + 1) * ((v - 1) / 2) = X
        generalize k * k = Y
        push_cast
        omega
      · rw [if_neg c]
        have s := ((hq.no p hp).resolve_left (by omega)).resolve_left c
        rw [s]
        rfl
  refine ⟨own, fun p hp p1 => ?_⟩
  by_cases m : p ∈ S
  · exact .inl m
  refine .inr ?_
  rcases hp with e | e | e
  · subst e
    refine .inl ⟨rfl, ?_⟩
    have dp := disc_pos S
    unfold freeOf
    rw [if_neg m, if_neg (by omega)]
  · subst e
    have nF : ¬ (2 : Int) ∣ freeOf S := fun z => disc_no prime2 h.ok m (free_dvd.mp z)
    refine .inr ⟨by decide, 0, 0, -q, freeOf S, strip_zero (away prime2 ne2), strip_zero nF, ?_⟩
    unfold sgnAt
    rw [if_pos rfl]
    refine (if_neg ?_).symm
    obtain ⟨k, hk⟩ : ∃ k, (-q - 1) / 2 = 2 * k := ⟨(-q - 1) / 4, by omega⟩
    rw [hk, Int.mul_assoc]
    generalize k * ((freeOf S - 1) / 2) = X
    push_cast
    omega
  · subst e
    obtain ⟨r, hr⟩ := hsign_some (a := -p) (b := freeOf S) (by omega) F0 (.inr hq.pr)
    rcases hsign_sq (.inr hq.pr) hr with e | e
    · exact e ▸ hr
    · subst e
      exfalso
      have hL : PlacesOf (-p) (freeOf S) (insI p S) := by
        refine ⟨insI_asc h.asc m, fun x => ?_⟩
        rw [insI_mem]
        constructor
        · rintro (e | e)
          · exact ⟨.inr (e ▸ hq.pr), e ▸ hr⟩
          · exact ⟨h.ok x e, own x e⟩
        · rintro ⟨hx, s⟩
          refine Decidable.or_iff_not_imp_left.mpr fun nx => Decidable.byContradiction fun ns => ?_
          rcases neg_placeA hx s with e | e | ⟨hP, e | e⟩
          · subst e
            have dp := disc_pos S
            have k : HSign (-p) (freeOf S) 0 1 := .inl ⟨rfl, by unfold freeOf; rw [if_neg ns, if_neg (by omega)]⟩
            exact absurd (hsign_unique (.inl rfl) s k) (by decide)
          · subst e
            have nF : ¬ (2 : Int) ∣ freeOf S := fun z => disc_no prime2 h.ok ns (free_dvd.mp z)
            have k : HSign (-p) (freeOf S) 2 1 := by
              refine .inr ⟨by decide, 0, 0, -p, freeOf S, strip_zero (away prime2 ne2), strip_zero nF, ?_⟩
              unfold sgnAt
              rw [if_pos rfl]
              refine (if_neg ?_).symm
              obtain ⟨k, hk⟩ : ∃ k, (-p - 1) / 2 = 2 * k := ⟨(-p - 1) / 4, by omega⟩
              rw [hk, Int.mul_assoc]
              generalize k * ((freeOf S - 1) / 2) = X
              push_cast
              omega
            exact absurd (hsign_unique (.inr prime2) s k) (by decide)
          · exact nx (prime_dvd_prime hP hq.pr (Int.dvd_neg.mp (Int.dvd_of_emod_eq_zero e)))
          · exact disc_no hP h.ok ns (free_dvd.mp (Int.dvd_of_emod_eq_zero e))
      have z := even_all (by omega) F0 hL
      rw [insI_len] at z
      omega
/-- no place of (1, 1) -/
theorem places_one : PlacesOf 1 1 [] := by
  refine ⟨.nil, fun p => ⟨fun z => by (cases z), fun ⟨hp, s⟩ => ?_⟩⟩
  exfalso
  have one : ∀ {p : Int}, PrP p → ¬ (1 : Int) % p = 0 := fun hp z => prime_one hp (Int.dvd_of_emod_eq_zero z)
  rcases neg_placeA hp s with e | e | ⟨hP, e | e⟩
  · subst e
    exact absurd (hsign_unique (.inl rfl) s (.inl ⟨rfl, rfl⟩)) (by decide)
  · subst e
    exact absurd (hsign_unique (.inr prime2) s (.inr ⟨by decide, 0, 0, 1, 1, ⟨by decide, by decide⟩, ⟨by decide, by decide⟩, rfl⟩)) (by decide)
  · exact one hP e
  · exact one hP e
end Sf

namespace Sf
open PySem PySem.Spec PyProof.Rows L2
theorem flat_intsB (l : List Int) : (l.map V.int).all flatV = true := by
  rw [List.all_map, List.all_eq_true]
  intro x _
  rfl
section
variable {P : Program} {w : World} {K : PySem.W.Frag} {mg : Str → Option Value} {base : Heap} {f : Addr} {fd : FuncData} {CR CA CF : Addr}
structure HasPlP (vs : List V) (H : Hp) (Q : VK) : Prop where
  ex : ∃ (n F z : Int) (t : Addr) (S : List Int), vs = [.int n, .int F, .int z, .ref t] ∧ H t = some (.tup (S.map V.int)) ∧ n ≠ 0 ∧ F ≠ 0 ∧ n.natAbs ≤ 1000000000 ∧ F.natAbs ≤ 1000000000 ∧ (z = 1 ∨ PrP z) ∧ z ≤ 1000000000 ∧ (∀ p ∈ S, p = 0 ∨ (PrP p ∧ p ≤ 1000000000)) ∧ S.length ≤ 100 ∧
    ∀ (r : Bool) (H' : Hp), Same H H' → (r = true ↔ HP n F z S) → Q (.bl r) H'
def spHasPl : Sp := fun vs H Q _ => HasPlP vs H Q
set_option maxHeartbeats 8000000 in
theorem ok_has_places (F : FnD K "has_places" "has_places" s_P_has_places f fd) (T : Glob mg) (C_P_sign : Cal P w K mg base 4 "sign" ["a", "b", "place"] spSign) : FnOk P w K mg base CX0 5 f fd ["number", "free", "size", "places"] spHasPl := by
  refine F.ok sc_P_has_places (fun vs H Q E h => ?_) (fun cdv A outer s H vs Q E hr h => ?_)
  · obtain ⟨n, F, z, t, S, rfl, _⟩ := h.ex; rfl
  · obtain ⟨n, F, z, t, S, rfl, ht, n0, F0, n1, F1, hz, z1, hS, hl, q⟩ := h.ex
    refine ⟨_, PSs.nox (pss_cons (ps_if (pt_not (pt_val (pe_callB (cr_all rfl) (by rfl) T.m_all (by decide +kernel) (pa_cons (pe_lc rfl sc_P_has_places.nd (own := [("place", 4)]) (pi_tup (pv 3)) (blkOk_by (N := ["number", "free", "size", "places", "place"]) (sc := defScope s_P_has_places) (by decide +kernel)) (fun _ _ _ _ _ => pg_name (i := 4) sc_P_has_places.nd rfl (Or.inl rfl)) (fun _ _ _ _ _ => pts_nil) (fun _ _ _ _ _ => (pe_cmp (pc_eqI (pe_cal C_P_sign (hr.mono (by decide)) (pa_cons (pv 0) (pa_cons (pv 1) (pa_cons (pv 4) pa_nil)))) (pe_un un_neg pe_int)) rfl))) pa_nil)))) (pss_one (ps_ret pe_bl)) pss_nil)
      (pss_one (ps_ret (pe_callB (cr_all rfl) (by rfl) T.m_all (by decide +kernel) (pa_cons (pe_lc rfl sc_P_has_places.nd (own := [("place", 4)]) (pi_tup (pe_tup (pa_cons pe_int (pa_cons pe_int (pa_cons (pv 2) pa_nil))))) (blkOk_by (N := ["number", "free", "size", "places", "place"]) (sc := defScope s_P_has_places) (by decide +kernel)) (fun _ _ _ _ _ => pg_name (i := 4) sc_P_has_places.nd rfl (Or.inl rfl)) (fun _ _ _ _ _ => pts_one (pt_cmp (pc_neI (pv 4) pe_int))) (fun _ _ _ _ _ => (pe_or (pe_cmpR (r := rIn K false) op_in_seq (pv 4) (pv 3) (by rfl)) (pe_one (pe_cmp (pc_eqI (pe_cal C_P_sign (hr.mono (by decide)) (pa_cons (pv 0) (pa_cons (pv 1) (pa_cons (pv 4) pa_nil)))) pe_int) rfl))))) pa_nil))))), ?_⟩
    refine ⟨_, rfl, t, rfl, ⟨_, SqT.of ht⟩, fun D hD => lc_tup (K := K) (a := t) (xs := S.map V.int) (fun i H' => Same H H' ∧ ∃ bs : List Bool, bs.length = i ∧ H' D = some (.lst (bs.map V.bl)) ∧ (bs.all id = true ↔ ∀ p ∈ S.take i, HSign n F p (-1))) ⟨same_upd hD, [], rfl, upd_same, by simp⟩ (fun i H' _ hp => SqT.of (hp.1 _ _ ht)) (fun i v H' hv hP => ?_) (fun H' hP => ?_)⟩
    · obtain ⟨e1, bs, lb, hd, iff⟩ := hP
      obtain ⟨p, hpi, rfl⟩ := int_of_map hv
      have il : i < S.length := (List.getElem?_eq_some_iff.mp hpi).1
      have hpp := hS p (List.mem_of_getElem? hpi)
      refine ⟨rfl, ?_⟩
      refine ⟨_, rfl, _, rfl, _, rfl, ⟨n, F, p, rfl, n0, F0, n1, F1, hpp, fun r H6 hr e6 => ⟨1, rfl, _, _, rfl, rfl, ?_⟩⟩⟩
      refine ⟨_, e6 _ _ hd, ?_, ?_, bs ++ [decide (r = -1)], by rw [List.length_append, lb]; rfl, ?_, ?_⟩
      · rw [List.length_map, lb]
        exact Nat.lt_of_le_of_lt (by omega : i ≤ 100) (by decide)
      · intro b o eb
        rw [upd_ne (ne_of_none eb hD)]
        exact e6 _ _ (e1 _ _ eb)
      · rw [upd_same, List.map_append]
        rfl
      · rw [List.all_append, Bool.and_eq_true, iff, List.take_add_one, hpi]
        constructor
        · rintro ⟨h1, h2⟩ p' hp'
          rcases List.mem_append.mp hp' with k | k
          · exact h1 p' k
          · have : p' = p := by simpa using k
            have h3 : r = -1 := by simpa using h2
            rw [this, ← h3]
            exact hr
        · intro h
          refine ⟨fun p' hp' => h p' (List.mem_append_left _ hp'), ?_⟩
          have := hsign_unique (hpp.imp id (·.1)) hr (h p (List.mem_append_right _ (by simp)))
          simpa using this
    · obtain ⟨e1, bs, lb, hd, iff⟩ := hP
      rw [List.length_map, List.take_length] at iff
      refine ⟨D, bs, rfl, SqL.of hd, _, rfl, ?_⟩
      by_cases c1 : bs.all id = true
      · have hS1 := iff.mp c1
        refine (if_neg (by rw [c1]; decide)).mpr ?_
        refine ⟨_, rfl, (by show 3 ≤ sizeLine; decide), fun t3 h3 => ?_⟩
        have e3 := same_upd (o := .tup (([0, 2, z] : List Int).map V.int)) h3
        have g3 : upd H' t3 (.tup (([0, 2, z] : List Int).map V.int)) t3 = some (.tup (([0, 2, z] : List Int).map V.int)) := upd_same
        have e13 := e1.trans e3
        generalize hH3 : upd H' t3 _ = H3
        rw [show upd H' t3 (.tup (([0, 2, z] : List Int).map V.int)) = H3 from hH3] at e13 g3
        have hS3 := e13 _ _ ht
        refine ⟨t3, rfl, ⟨_, SqT.of g3⟩, fun D2 hD2 => lc_tup (K := K) (a := t3) (xs := ([0, 2, z] : List Int).map V.int) (fun i H' => Same H3 H' ∧ ∃ bs : List Bool, bs.length ≤ i ∧ H' D2 = some (.lst (bs.map V.bl)) ∧ (bs.all id = true ↔ ∀ p ∈ ([0, 2, z] : List Int).take i, p ≠ 1 → p ∈ S ∨ HSign n F p 1)) ⟨same_upd hD2, [], Nat.le_refl _, upd_same, by simp⟩ (fun i H' _ hp => SqT.of (hp.1 _ _ g3)) (fun i v H5 hv hP => ?_) (fun H5 hP => ?_)⟩
        · obtain ⟨e5, bs2, lb2, hd2, iff2⟩ := hP
          obtain ⟨p, hpi, rfl⟩ := int_of_map hv
          have hmem := List.mem_of_getElem? hpi
          have il : i < 3 := (List.getElem?_eq_some_iff.mp hpi).1
          have step : ∀ r : Bool, p ≠ 1 → (r = true ↔ p ∈ S ∨ HSign n F p 1) → ((bs2 ++ [r]).all id = true ↔ ∀ p ∈ ([0, 2, z] : List Int).take (i + 1), p ≠ 1 → p ∈ S ∨ HSign n F p 1) := fun r p1 hr => by
            rw [List.all_append, Bool.and_eq_true, iff2, List.take_add_one, hpi]
            constructor
            · rintro ⟨h1, h2⟩ p' hp' k1
              rcases List.mem_append.mp hp' with k | k
              · exact h1 p' k k1
              · have e : p' = p := by simpa using k
                have h3 : r = true := by simpa using h2
                rw [e]
                exact hr.mp h3
            · intro h
              refine ⟨fun p' hp' => h p' (List.mem_append_left _ hp'), ?_⟩
              have := hr.mpr (h p (List.mem_append_right _ (by simp)) p1)
              simp [this]
          have out : ∀ (r : Bool) (H6 : Hp), Same H5 H6 → p ≠ 1 → (r = true ↔ p ∈ S ∨ HSign n F p 1) → ∃ acc, H6 D2 = some (.lst acc) ∧ acc.length < sizeLine ∧ (Same H3 (upd H6 D2 (.lst (acc ++ [.bl r]))) ∧ ∃ bs : List Bool, bs.length ≤ i + 1 ∧ upd H6 D2 (.lst (acc ++ [.bl r])) D2 = some (.lst (bs.map V.bl)) ∧ (bs.all id = true ↔ ∀ p ∈ ([0, 2, z] : List Int).take (i + 1), p ≠ 1 → p ∈ S ∨ HSign n F p 1)) := fun r H6 e6 p1 hr => by
            refine ⟨_, e6 _ _ hd2, ?_, ?_, bs2 ++ [r], by rw [List.length_append]; show bs2.length + 1 ≤ _; omega, ?_, step r p1 hr⟩
            · rw [List.length_map]
              exact Nat.lt_of_le_of_lt (by omega : bs2.length ≤ 3) (by decide)
            · intro b o eb
              rw [upd_ne (ne_of_none eb hD2)]
              exact e6 _ _ (e5 _ _ eb)
            · rw [upd_same, List.map_append]
              rfl
          refine ⟨rfl, _, rfl, _, _, rfl, rfl, _, rfl, ifn (fun p1 => ?_) (fun p1 => ?_)⟩
          · refine ⟨_, rfl, _, rfl, t, _, rfl, .inr (SqT.of (e5 _ _ hS3)), rfl, flat_intsB S, _, rfl, ?_⟩
            by_cases hm : p ∈ S
            · exact (if_pos (by rw [inV_ints, decide_eq_true hm]; rfl)).mpr (out true H5 (Same.refl _) p1 ⟨fun _ => .inl hm, fun _ => rfl⟩)
            · refine (if_neg (by rw [inV_ints, decide_eq_false hm]; decide)).mpr ?_
              have hpp : p = 0 ∨ (PrP p ∧ p ≤ 1000000000) := by
                have c : p = 0 ∨ p = 2 ∨ p = z := by simpa using hmem
                rcases c with e | e | e
                · exact .inl e
                · exact .inr ⟨e ▸ prime2, by omega⟩
                · exact .inr ⟨e ▸ hz.resolve_left (by omega), by omega⟩
              refine ⟨_, rfl, _, rfl, _, rfl, ⟨n, F, p, rfl, n0, F0, n1, F1, hpp, fun r H6 hr e6 => ⟨_, _, rfl, rfl, ?_⟩⟩⟩
              refine out (decide (r = 1)) H6 e6 p1 ?_
              rw [decide_eq_true_iff]
              constructor
              · exact fun e => .inr (e ▸ hr)
              · rintro (k | k)
                · exact absurd k hm
                · exact hsign_unique (hpp.imp id (·.1)) hr k
          · exact ⟨e5, bs2, by omega, hd2, by
              rw [iff2, List.take_add_one, hpi]
              constructor
              · intro h p' hp' k
                rcases List.mem_append.mp hp' with m | m
                · exact h p' m k
                · have : p' = p := by simpa using m
                  exact absurd (this.trans p1) k
              · exact fun h p' hp' => h p' (List.mem_append_left _ hp')⟩
        · obtain ⟨e5, bs2, lb2, hd2, iff2⟩ := hP
          refine ⟨D2, bs2, rfl, SqL.of hd2, ?_⟩
          refine q _ H5 (e13.trans e5) ?_
          rw [iff2]
          constructor
          · exact fun h => ⟨hS1, fun p hp p1 => h p (by rcases hp with e | e | e <;> simp [e]) p1⟩
          · exact fun h p hp p1 => h.2 p (by simpa using hp) p1
      · refine (if_pos (by cases h : bs.all id <;> simp_all)).mpr ?_
        exact q false _ e1 ⟨fun z => Bool.noConfusion z, fun z => absurd (iff.mpr z.1) c1⟩
end
end Sf

namespace Sf
open PySem PySem.Spec PyProof.Rows L2
section
variable {P : Program} {w : World} {K : PySem.W.Frag} {mg : Str → Option Value} {base : Heap} {f : Addr} {fd : FuncData} {CR CA CF : Addr}
structure WithP (CA : Addr) (vs : List V) (H : Hp) (Q : VK) : Prop where
  ex : ∃ (t : Addr) (S : List Int), vs = [.ref t] ∧ H t = some (.tup (S.map V.int)) ∧ PlS S ∧ S.length % 2 = 0 ∧ S.length ≤ 60 ∧ discOf S ≤ 100000000 ∧ (∃ q, Serves q S ∧ q ≤ 1000000000) ∧
    ∀ (al : Addr) (a b : Int) (H' : Hp), PlacesOf a b S → AlgAt CA H' al a b → Same H H' → Q (.ref al) H'
def spWith (CA : Addr) : Sp := fun vs H Q _ => WithP CA vs H Q
set_option maxHeartbeats 8000000 in
theorem ok_algebra_with (F : FnD K "algebra_with" "algebra_with" s_P_algebra_with f fd) (T : Glob mg) (C_P_product_of_primes : Cal P w K mg base 1 "product_of_primes" ["places"] spDisc) (C_P_has_places : Cal P w K mg base 5 "has_places" ["number", "free", "size", "places"] spHasPl) (C_P_is_prime : Cal P w K mg base 2 "is_prime" ["value"] (spIsPrime K)) (N_Algebra_2 : CalC P w K mg base 6 "Algebra" CA ["self", "a", "b"] [] (spAlgInit CA)) :
    FnOk P w K mg base CX0 8 f fd ["places"] (spWith CA) := by
  refine F.ok sc_P_algebra_with (fun vs H Q E h => ?_) (fun cdv A outer s H vs Q E hr h => ?_)
  · obtain ⟨t, S, rfl, _⟩ := h.ex; rfl
  · obtain ⟨t, S, rfl, ht, hS, ev, hl, hd, ⟨q0, hq, hq9⟩, q⟩ := h.ex
    refine ⟨_, PSs.nox (pss_cons (ps_if (pt_not (pt_truth (pv 0) (by intro _; rfl))) (pss_one (ps_ret (pe_new N_Algebra_2 (hr.mono (by decide)) (pa_cons pe_int (pa_cons pe_int pa_nil))))) pss_nil)
      (pss_cons (ps_set (i := 1) sc_P_algebra_with.nd rfl (Or.inl rfl) (pe_cal C_P_product_of_primes (hr.mono (by decide)) (pa_cons (pv 0) pa_nil)))
      (Evl.pss_cut (ps_if (pt_cmpR op_in_seq pe_int (pv 0) (by rfl)) (pss_one (ps_set (i := 1) sc_P_algebra_with.nd rfl (Or.inl rfl) (pe_un un_neg (pv 1)))) pss_nil)
      (pss_cons (ps_set (i := 2) sc_P_algebra_with.nd rfl (Or.inl rfl) pe_int)
      (pss_one (ps_while PassesOwn.never (pt_val pe_bl) (pss_cons (ps_for PassesOwn.never rfl (pi_tup (pe_tup (pa_cons (pe_un un_neg (pv 2)) (pa_cons (pv 2) pa_nil)))) (pg_name (i := 3) sc_P_algebra_with.nd rfl (Or.inl rfl)) (pss_one (ps_if (pt_val (pe_cal C_P_has_places (hr.mono (by decide)) (pa_cons (pv 3) (pa_cons (pv 1) (pa_cons (pv 2) (pa_cons (pv 0) pa_nil)))))) (pss_one (ps_ret (pe_new N_Algebra_2 (hr.mono (by decide)) (pa_cons (pv 3) (pa_cons (pv 1) pa_nil))))) pss_nil)))
      (pss_cons (ps_set (i := 2) sc_P_algebra_with.nd rfl (Or.inl rfl) (pe_op op_add (pv 2) pe_int))
      (pss_one (ps_while PassesOwn.never (pt_not (pt_val (pe_cal C_P_is_prime (hr.mono (by decide)) (pa_cons (pv 2) pa_nil)))) (pss_one (ps_set (i := 2) sc_P_algebra_with.nd rfl (Or.inl rfl) (pe_op op_add (pv 2) pe_int))))))))))))), ?_⟩
    have dp := disc_pos S
    have dle : ∀ p ∈ S, p ≤ 1000000000 := fun p hp => by
      rcases hS.ok p hp with e | e
      · omega
      · obtain ⟨u, e1, _⟩ := disc_split e hS.asc hS.ok hp
        have p2 := e.1
        have := Int.le_of_dvd dp ⟨u, e1⟩
        omega
    have hS9 : ∀ p ∈ S, p = 0 ∨ (PrP p ∧ p ≤ 1000000000) := fun p hp => (hS.ok p hp).imp id fun k => ⟨k, dle p hp⟩
    refine ⟨_, rfl, _, .inr (.inl ⟨_, SqT.of ht, rfl⟩), ?_⟩
    by_cases hne : S = []
    · subst hne
      refine (if_pos rfl).mpr ?_
      exact fun al dal hal hdal nda => new_alg (by decide) (by decide) (by decide) (by decide) hal hdal nda fun H1 e1 hA => ⟨rfl, q al 1 1 H1 places_one hA e1⟩
    refine (if_neg (by cases S with | nil => exact absurd rfl hne | cons x l => exact fun z => Bool.noConfusion z)).mpr ?_
    refine ⟨_, rfl, t, S, rfl, ht, by omega, dle, ?_⟩
    refine ⟨fun σ H' => H = H' ∧ σ = [some (.ref t), some (.int (freeOf S)), none, none], ?_, ?_⟩
    · refine ⟨_, rfl, t, _, rfl, .inr (SqT.of ht), rfl, flat_intsB S, _, rfl, ?_⟩
      by_cases h0 : (0 : Int) ∈ S
      · refine (if_pos (by rw [inV_ints, decide_eq_true h0]; rfl)).mpr ?_
        refine ⟨_, rfl, _, rfl, rfl, ?_⟩
        unfold freeOf
        rw [if_pos h0]
        rfl
      · refine (if_neg (by rw [inV_ints, decide_eq_false h0]; decide)).mpr ?_
        refine ⟨rfl, ?_⟩
        unfold freeOf
        rw [if_neg h0]
        rfl
    rintro σ _ ⟨rfl, rfl⟩
    have F0 := free_ne S
    have F1 : (freeOf S).natAbs ≤ 1000000000 := by
      have := free_abs S
      omega
    have q2 := hq.pr.1
    have out : ∀ (n z : Int) (G : Hp), Same H G → (n = z ∨ n = -z) → (z = 1 ∨ PrP z) → z ≤ 1000000000 → HP n (freeOf S) z S → ∀ (al dal : Addr), G al = none → G dal = none → dal ≠ al → AlgInitP CA [.ref al, .int n, .int (freeOf S)] (upd (upd G dal (.own al)) al (.ins CA dal [])) (fun v H2 => v = .non ∧ Q (.ref al) H2) := fun n z G e hn hz z9 hp al dal hal hdal nda => by
      have z1 : 1 ≤ z := by
        rcases hz with k | k
        · omega
        · have := k.1
          omega
      exact new_alg (by omega) F0 (by omega) F1 hal hdal nda fun H1 e1 hA => ⟨rfl, q al n (freeOf S) H1 (hp_places hS hn hz hp) hA (e.trans e1)⟩
    have hex := hp_exists hS ev hq
    generalize freeOf S = f0 at *
    refine ⟨fun c σ H' => Same H H' ∧ ∃ (z : Int) (v : Option V), σ = [some (.ref t), some (.int f0), some (.int z), v] ∧ (z = 1 ∨ PrP z) ∧ z ≤ q0 ∧ c = (q0 - z).toNat, ⟨_, Same.refl _, 1, none, rfl, .inl rfl, by omega, rfl⟩, ?_⟩
    rintro c σ H1 ⟨e1, z, v, rfl, hz, zq, rfl⟩
    refine ⟨true, rfl, (if_pos rfl).mpr ⟨_, fun _ _ z => z, ?_⟩⟩
    have z1 : 1 ≤ z := by
      rcases hz with k | k
      · omega
      · have := k.1
        omega
    refine ⟨_, rfl, _, rfl, _, rfl, (by show 2 ≤ sizeLine; decide), fun t2 h2 => ?_⟩
    have g2 : upd H1 t2 (.tup (([-z, z] : List Int).map V.int)) t2 = some (.tup (([-z, z] : List Int).map V.int)) := upd_same
    have e2 := e1.trans (same_upd (o := .tup (([-z, z] : List Int).map V.int)) h2)
    generalize hH2 : upd H1 t2 _ = H2
    rw [show upd H1 t2 (.tup (([-z, z] : List Int).map V.int)) = H2 from hH2] at e2 g2
    refine ⟨t2, rfl, ⟨_, SqT.of g2⟩, for_tup (K := K) (a := t2) (xs := ([-z, z] : List Int).map V.int) (fun i σ H' => Same H2 H' ∧ ∃ v, σ = [some (.ref t), some (.int f0), some (.int z), v] ∧ (1 ≤ i → ¬ HP (-z) f0 z S)) ⟨Same.refl _, v, rfl, fun k => absurd k (by decide)⟩ (fun i σ H' _ hp => SqT.of (hp.1 _ _ g2)) ?_ ?_⟩
    · rintro i y σ H3 hi ⟨e3, v', rfl, hno⟩
      obtain ⟨n, hpi, rfl⟩ := int_of_map hi
      have il : i < 2 := (List.getElem?_eq_some_iff.mp hpi).1
      have hn : n = z ∨ n = -z := by
        have := List.mem_of_getElem? hpi
        have c : n = -z ∨ n = z := by simpa using this
        exact c.symm
      have e13 := e2.trans e3
      refine ⟨_, rfl, _, rfl, _, rfl, _, rfl, ⟨n, f0, z, t, S, rfl, e13 _ _ ht, by omega, F0, by omega, F1, hz, by omega, hS9, by omega, fun r H4 e4 hr => ?_⟩⟩
      refine ⟨_, rfl, ?_⟩
      cases r with
      | true =>
        refine (if_pos rfl).mpr ?_
        exact ⟨_, rfl, _, rfl, out n z H4 (e13.trans e4) hn hz (by omega) (hr.mp rfl)⟩
      | false =>
        refine (if_neg (by decide)).mpr ?_
        refine ⟨e3.trans e4, _, rfl, fun _ => ?_⟩
        rcases Nat.lt_or_ge 0 i with c | c
        · exact hno c
        · have : i = 0 := by omega
          subst this
          have : n = -z := by simpa using hpi.symm
          subst this
          exact fun k => Bool.noConfusion (hr.mpr k)
    · rintro σ H3 ⟨e3, v', rfl, hno⟩
      have nz : z ≠ q0 := fun e => hno (by show 1 ≤ 2; decide) (by rw [e]; exact hex)
      have e13 := e2.trans e3
      clear hno hex out
      refine ⟨_, rfl, _, _, rfl, rfl, ?_⟩
      refine ⟨fun c σ H' => Same H H' ∧ ∃ w : Int, σ = [some (.ref t), some (.int f0), some (.int w), v'] ∧ z < w ∧ w ≤ q0 ∧ c = (q0 - w).toNat, ⟨_, e13, z + 1, rfl, by omega, by omega, rfl⟩, ?_⟩
      rintro c σ H4 ⟨e4, w, rfl, zw, wq, rfl⟩
      refine ⟨_, rfl, .int w, true, rfl, .int w, fun _ => ⟨w, rfl⟩, fun r hr => ⟨_, rfl, ?_⟩⟩
      cases r with
      | true =>
        obtain ⟨w', e, hw, _⟩ := hr.mp rfl
        cases e
        exact (if_neg (by decide)).mpr ⟨(q0 - w).toNat, by omega, e4, w, v', rfl, .inr hw, wq, rfl⟩
      | false =>
        have nw : w ≠ q0 := fun e => Bool.noConfusion (hr.mpr ⟨w, rfl, e ▸ hq.pr, by omega⟩)
        refine (if_pos rfl).mpr ⟨_, fun _ _ z => z, ?_⟩
        exact ⟨_, rfl, _, _, rfl, rfl, (q0 - (w + 1)).toNat, by omega, e4, w + 1, rfl, by omega, by omega, rfl⟩
end
end Sf

namespace Sf
open PySem PySem.Spec PyProof.Rows L2
/-! what stands in one of two ascending lists alone -/
def SymL (l m D : List Int) : Prop := D.Pairwise (· < ·) ∧ ∀ p, p ∈ D ↔ (p ∈ l ∧ p ∉ m) ∨ (p ∈ m ∧ p ∉ l)
theorem sym_uni {l m D D' : List Int} (h : SymL l m D) (h' : SymL l m D') : D = D' := asc_unique h.1 h'.1 fun p => (h.2 p).trans (h'.2 p).symm
theorem sym_comm {l m D : List Int} (h : SymL l m D) : SymL m l D := ⟨h.1, fun p => (h.2 p).trans ⟨fun z => z.symm, fun z => z.symm⟩⟩
theorem sym_self {l D : List Int} (h : SymL l l D) : D = [] := List.eq_nil_iff_forall_not_mem.mpr fun p hp => by
  rcases (h.2 p).mp hp with z | z
  · exact z.2 z.1
  · exact z.2 z.1
theorem sym_assoc {l m n A B D D' : List Int} (hA : SymL l m A) (hB : SymL m n B) (h : SymL A n D) (h' : SymL l B D') : D = D' := asc_unique h.1 h'.1 fun p => by
  rw [h.2, h'.2, hA.2, hB.2]
  by_cases c1 : p ∈ l <;> by_cases c2 : p ∈ m <;> by_cases c3 : p ∈ n <;> simp [c1, c2, c3]
theorem len_split (f : Int → Bool) : ∀ l : List Int, l.length = (l.filter f).length + (l.filter fun x => !f x).length
  | [] => rfl
  | x :: l => by
    have ih := len_split f l
    cases h : f x
    · rw [List.filter_cons_of_neg (by simp [h]), List.filter_cons_of_pos (by simp [h]), List.length_cons, List.length_cons]
      omega
    · rw [List.filter_cons_of_pos h, List.filter_cons_of_neg (by simp [h]), List.length_cons, List.length_cons]
      omega
theorem sym_even {l m D : List Int} (hl : l.Pairwise (· < ·)) (hm : m.Pairwise (· < ·)) (h : SymL l m D) (el : l.length % 2 = 0) (em : m.length % 2 = 0) : D.length % 2 = 0 := by
  have f1 := len_split (fun p => decide (p ∈ m)) l
  have f2 := len_split (fun p => decide (p ∈ l)) m
  have f3 := len_split (fun p => decide (p ∈ l)) D
  have g1 : l.filter (fun p => decide (p ∈ m)) = m.filter (fun p => decide (p ∈ l)) := asc_unique (hl.sublist List.filter_sublist) (hm.sublist List.filter_sublist) fun p => by
    rw [List.mem_filter, List.mem_filter, decide_eq_true_iff, decide_eq_true_iff]
    exact And.comm
  have g2 : D.filter (fun p => decide (p ∈ l)) = l.filter (fun p => !decide (p ∈ m)) := asc_unique (h.1.sublist List.filter_sublist) (hl.sublist List.filter_sublist) fun p => by
    rw [List.mem_filter, List.mem_filter, h.2]
    by_cases c1 : p ∈ l <;> by_cases c2 : p ∈ m <;> simp [c1, c2]
  have g3 : D.filter (fun p => !decide (p ∈ l)) = m.filter (fun p => !decide (p ∈ l)) := asc_unique (h.1.sublist List.filter_sublist) (hm.sublist List.filter_sublist) fun p => by
    rw [List.mem_filter, List.mem_filter, h.2]
    by_cases c1 : p ∈ l <;> by_cases c2 : p ∈ m <;> simp [c1, c2]
  rw [g1] at f1
  rw [g2, g3] at f3
  omega
theorem sym_len {l m D : List Int} (hl : l.Pairwise (· < ·)) (hm : m.Pairwise (· < ·)) (h : SymL l m D) : D.length ≤ l.length + m.length := by
  have f1 := List.length_filter_le (fun p => !decide (p ∈ m)) l
  have f2 := List.length_filter_le (fun p => !decide (p ∈ l)) m
  have f3 := len_split (fun p => decide (p ∈ l)) D
  have g2 : D.filter (fun p => decide (p ∈ l)) = l.filter (fun p => !decide (p ∈ m)) := asc_unique (h.1.sublist List.filter_sublist) (hl.sublist List.filter_sublist) fun p => by
    rw [List.mem_filter, List.mem_filter, h.2]
    by_cases c1 : p ∈ l <;> by_cases c2 : p ∈ m <;> simp [c1, c2]
  have g3 : D.filter (fun p => !decide (p ∈ l)) = m.filter (fun p => !decide (p ∈ l)) := asc_unique (h.1.sublist List.filter_sublist) (hm.sublist List.filter_sublist) fun p => by
    rw [List.mem_filter, List.mem_filter, h.2]
    by_cases c1 : p ∈ l <;> by_cases c2 : p ∈ m <;> simp [c1, c2]
  rw [g2, g3] at f3
  omega
/-- the places of (a, b) and (a, c) make those of (a, b c) -/
theorem sym_mul {a b c : Int} {l m D e : List Int} (a0 : a ≠ 0) (b0 : b ≠ 0) (c0 : c ≠ 0) (hl : PlacesOf a b l) (hm : PlacesOf a c m) (h : SymL l m D) (he : PlacesOf a (b * c) e) : D = e := asc_unique h.1 he.1 fun p => by
  rw [h.2, hl.2, hm.2, he.2]
  by_cases hp : p = 0 ∨ PrP p
  · obtain ⟨r, hr⟩ := hsign_some a0 b0 hp
    obtain ⟨s, hs⟩ := hsign_some a0 c0 hp
    have ht := hsign_mulA hp b0 c0 hr hs
    have u1 : ∀ {x y : Int}, HSign x y p 1 → ¬ HSign x y p (-1) := fun k k' => absurd (hsign_unique hp k k') (by decide)
    rcases hsign_sq hp hr with e1 | e1 <;> rcases hsign_sq hp hs with e2 | e2 <;> subst e1 e2
    · have := u1 hr; have := u1 hs; have := u1 ht; simp_all
    · have := u1 hr; have : HSign a (b * c) p (-1) := ht; simp_all
    · have := u1 hs; have : HSign a (b * c) p (-1) := ht; simp_all
    · have := u1 (show HSign a (b * c) p 1 from ht); simp_all
  · simp [hp]
/-- what is joined is covered -/
theorem sym_disc {a b c d M : Int} {l m D : List Int} (hl : PlacesOf a b l) (hm : PlacesOf c d m) (h : SymL l m D) (M0 : M ≠ 0) (hM : ∀ p, PrP p → p ∈ D → p ∣ M) : discOf D ≤ M.natAbs := by
  have ok : ∀ x ∈ D, x = 0 ∨ PrP x := fun x hx => by
    rcases (h.2 x).mp hx with z | z
    · exact ((hl.2 x).mp z.1).1
    · exact ((hm.2 x).mp z.1).1
  have d := disc_dvd (M := M) h.1 ok fun x hx hp => hM x hp hx
  exact Int.le_of_dvd (by omega) (Int.dvd_natAbs.mpr d)
theorem sym_pls {a b c d : Int} {l m D : List Int} (hl : PlacesOf a b l) (hm : PlacesOf c d m) (h : SymL l m D) : PlS D := ⟨h.1, fun x hx => by
  rcases (h.2 x).mp hx with z | z
  · exact ((hl.2 x).mp z.1).1
  · exact ((hm.2 x).mp z.1).1⟩
/-- what joined asks of two algebras -/
def JoinOk (a b c d : Int) : Prop := ∀ l m D, PlacesOf a b l → PlacesOf c d m → SymL l m D → discOf D ≤ 100000000 ∧ ∃ q, Serves q D ∧ q ≤ 1000000000
def q59 : Int := 2404147
theorem trial59 : ((List.range 1600).all fun k => decide (k < 2) || 2404147 % k != 0) = true := by decide +kernel
theorem pr59 : PrP q59 := prp_of_trial (d := 1600) (by decide) (by decide) (fun k h1 h2 => by
  have h := List.all_eq_true.mp trial59 k.toNat (List.mem_range.mpr (by omega))
  rw [Bool.or_eq_true] at h
  rcases h with h | h
  · have := of_decide_eq_true h
    omega
  · intro z
    have n0 : (2404147 : Nat) % k.toNat ≠ 0 := by simpa using h
    have e : ((k.toNat : Nat) : Int) = k := by omega
    unfold q59 at z
    rw [← e] at z
    exact n0 (Int.ofNat_eq_zero.mp (show ((2404147 % k.toNat : Nat) : Int) = 0 by rw [Int.natCast_emod]; exact z))) (by decide)
theorem no59 : ((List.range 60).all fun n => decide (n < 3) || decide (restSign (-q59) (n : Int) = -1) || ([2, 3, 5, 7].any fun k => decide (k < n) && decide (n % k = 0))) = true := by unfold restSign q59; decide +kernel
theorem serves59 {S : List Int} (h : PlS S) (b : ∀ p ∈ S, p ≤ 59) : Serves q59 S where
  pr := pr59
  m8 := by decide
  out := fun z => absurd (b _ z) (by decide)
  no := fun p hp => by
    rcases h.ok p hp with e | hP
    · exact .inl e
    have p2 := hP.1
    have p59 := b p hp
    by_cases c2 : p = 2
    · exact .inr (.inl c2)
    refine .inr (.inr ?_)
    have t := List.all_eq_true.mp no59 p.toNat (List.mem_range.mpr (by omega))
    have e : ((p.toNat : Nat) : Int) = p := by omega
    rw [Bool.or_eq_true, Bool.or_eq_true, e] at t
    rcases t with (t | t) | t
    · have := of_decide_eq_true t
      omega
    · exact of_decide_eq_true t
    · exfalso
      obtain ⟨k, hk, t⟩ := List.any_eq_true.mp t
      rw [Bool.and_eq_true] at t
      have t1 := of_decide_eq_true t.1
      have t2 := of_decide_eq_true t.2
      have k2 : 2 ≤ k := by
        have c : k = 2 ∨ k = 3 ∨ k = 5 ∨ k = 7 := by simpa using hk
        omega
      refine hP.2 (k : Int) (by omega) (by omega) ?_
      have z : ((p.toNat % k : Nat) : Int) = 0 := by rw [t2]; rfl
      rw [Int.natCast_emod, e] at z
      exact z
theorem le_of_dv {p n : Int} {m : Nat} (n0 : n ≠ 0) (b : n.natAbs ≤ m) (d : p ∣ n) : p ≤ m := by
  have := Int.le_of_dvd (by omega) (Int.dvd_natAbs.mpr d)
  omega
theorem small_join {a b c d : Int} (a0 : a ≠ 0) (b0 : b ≠ 0) (c0 : c ≠ 0) (d0 : d ≠ 0) (a1 : a.natAbs ≤ 60) (b1 : b.natAbs ≤ 60) (c1 : c.natAbs ≤ 60) (d1 : d.natAbs ≤ 60) : JoinOk a b c d := fun l m D hl hm h => by
  have mul_bd : ∀ {i j : Int} {m k : Nat}, i.natAbs ≤ m → j.natAbs ≤ k → (i * j).natAbs ≤ m * k := fun h1 h2 => by rw [Int.natAbs_mul]; exact Nat.mul_le_mul h1 h2
  have b2 := mul_bd (mul_bd (mul_bd (mul_bd (i := 2) (m := 2) (by decide) a1) b1) c1) d1
  have M0 : 2 * a * b * c * d ≠ 0 := Int.mul_ne_zero (Int.mul_ne_zero (Int.mul_ne_zero (by omega) b0) c0) d0
  have dl : ∀ {p : Int}, p ∣ 2 * a * b → p ∣ 2 * a * b * c * d := fun h => Int.dvd_trans (Int.dvd_trans h (Int.dvd_mul_right ..)) (Int.dvd_mul_right ..)
  have dr : ∀ {p : Int}, p ∣ 2 * c * d → p ∣ 2 * a * b * c * d := fun ⟨k, hk⟩ => ⟨a * b * k, by
    rw [show 2 * a * b * c * d = a * b * (2 * c * d) by simp only [Int.mul_assoc, Int.mul_left_comm, Int.mul_comm], hk]
    exact Int.mul_left_comm ..⟩
  refine ⟨?_, q59, serves59 (sym_pls hl hm h) (fun p hp => ?_), by decide⟩
  · have := sym_disc hl hm h M0 fun p hP hp => by
      rcases (h.2 p).mp hp with z | z
      · exact dl (place_dvd hP ((hl.2 p).mp z.1).2)
      · exact dr (place_dvd hP ((hm.2 p).mp z.1).2)
    omega
  · have key : ∀ {a b : Int}, a ≠ 0 → b ≠ 0 → a.natAbs ≤ 60 → b.natAbs ≤ 60 → (p = 0 ∨ PrP p) → HSign a b p (-1) → p ≤ 59 := fun {a b} a0 b0 a1 b1 g n => by
      rcases neg_placeA g n with e | e | ⟨hP, e | e⟩
      · omega
      · omega
      · have := le_of_dv a0 a1 (Int.dvd_of_emod_eq_zero e)
        have n60 : p ≠ 60 := fun z => hP.2 2 (by decide) (by omega) (by omega)
        omega
      · have := le_of_dv b0 b1 (Int.dvd_of_emod_eq_zero e)
        have n60 : p ≠ 60 := fun z => hP.2 2 (by decide) (by omega) (by omega)
        omega
    rcases (h.2 p).mp hp with z | z
    · exact key a0 b0 a1 b1 ((hl.2 p).mp z.1).1 ((hl.2 p).mp z.1).2
    · exact key c0 d0 c1 d1 ((hm.2 p).mp z.1).1 ((hm.2 p).mp z.1).2
end Sf

namespace Sf
open PySem PySem.Spec PyProof.Rows L2
section
variable {P : Program} {w : World} {K : PySem.W.Frag} {mg : Str → Option Value} {base : Heap} {f : Addr} {fd : FuncData} {CR CA CF : Addr}
structure OneP (CA : Addr) (vs : List V) (H : Hp) (Q : VK) : Prop where
  ex : ∃ (al be : Addr) (a b c d : Int), vs = [.ref al, .ref be] ∧ AlgAt CA H al a b ∧ AlgAt CA H be c d ∧ a.natAbs ≤ 10000 ∧ b.natAbs ≤ 10000 ∧ c.natAbs ≤ 10000 ∧ d.natAbs ≤ 10000 ∧
    ∀ (l m D : List Int) (t : Addr) (H' : Hp), PlacesOf a b l → PlacesOf c d m → SymL l m D → D.length ≤ 56 → Same H H' → H' t = some (.tup (D.map V.int)) → Q (.ref t) H'
def spOne (CA : Addr) : Sp := fun vs H Q _ => OneP CA vs H Q
set_option maxHeartbeats 8000000 in
theorem ok_places_of_one (F : FnD K "places_of_one" "places_of_one" s_P_places_of_one f fd) (T : Glob mg) (RA : AlgK K CA) (C_P_places_of_both : Cal P w K mg base 3 "places_of_both" ["one", "other"] (spBoth CA)) : FnOk P w K mg base CX0 4 f fd ["one", "other"] (spOne CA) := by
  refine F.ok sc_P_places_of_one (fun vs H Q E h => ?_) (fun cdv A outer s H vs Q E hr h => ?_)
  · obtain ⟨al, be, a, b, c, d, rfl, _⟩ := h.ex; rfl
  · obtain ⟨al, be, a, b, c, d, rfl, hA, hB, a1, b1, c1, d1, q⟩ := h.ex
    refine ⟨_, PSs.nox (pss_cons (ps_set (i := 2) sc_P_places_of_one.nd rfl (Or.inl rfl) (pe_cal C_P_places_of_both (hr.mono (by decide)) (pa_cons (pv 0) (pa_cons (pv 1) pa_nil))))
      (pss_one (ps_ret (pe_callTy call_tuple_of (by rfl) T.m_tuple (by decide +kernel) (pa_cons (pe_lc rfl sc_P_places_of_one.nd (own := [("place", 3)]) (pi_list (pv 2)) (blkOk_by (N := ["one", "other", "both", "place"]) (sc := defScope s_P_places_of_one) (by decide +kernel)) (fun _ _ _ _ _ => pg_name (i := 3) sc_P_places_of_one.nd rfl (Or.inl rfl)) (fun _ _ _ _ _ => pts_one (pt_cmpR op_ne (pe_cmpR (r := rIn K false) op_in_seq (pv 3) (pe_fldK (K := K) rfl (pv 0) rfl) (by rfl)) (pe_cmpR (r := rIn K false) op_in_seq (pv 3) (pe_fldK (K := K) rfl (pv 1) rfl) (by rfl)) (nomark _))) (fun _ _ _ _ _ => (pv 3))) pa_nil))))), ?_⟩
    refine ⟨_, rfl, _, rfl, al, be, a, b, c, d, rfl, hA, hB, a1, b1, c1, d1, fun D z H1 hJ hl e1 hz => ?_⟩
    obtain ⟨dA, pl, l, g1, g2, hP, a0, b0, _⟩ := id hA.ex
    obtain ⟨dB, pm, m, k1, k2, hR, c0, d0, _⟩ := id hB.ex
    have fl := places_few29 hP a0 b0 a1 b1
    have fm := places_few29 hR c0 d0 c1 d1
    refine ⟨_, rfl, z, rfl, ⟨_, SqL.of hz⟩, fun X hX => lc_list (K := K) (a := z) (xs := D.map V.int) (fun i H' => Same H1 H' ∧ ∃ S : List Int, H' X = some (.lst (S.map V.int)) ∧ S.Sublist (D.take i) ∧ ∀ p, p ∈ S ↔ p ∈ D.take i ∧ ((p ∈ l ∧ p ∉ m) ∨ (p ∈ m ∧ p ∉ l))) ⟨same_upd hX, [], upd_same, List.Sublist.refl _, fun p => by simp⟩ (fun i H' _ hp => SqL.of (hp.1 _ _ hz)) (fun i v H' hv hP2 => ?_) (fun H' hP2 => ?_)⟩
    · obtain ⟨e2, S, hs, sub, mem⟩ := hP2
      obtain ⟨p, hpi, rfl⟩ := int_of_map hv
      have e12 := e1.trans e2
      refine ⟨rfl, ?_⟩
      refine ⟨_, rfl, _, rfl, al, CA, dA, _, .ref pl, rfl, e12 _ _ g1, RA.own.cls, RA.n1, rfl, pl, _, rfl, .inr (SqT.of (e12 _ _ g2)), rfl, flat_intsB l, ?_⟩
      refine ⟨_, rfl, _, rfl, be, CA, dB, _, .ref pm, rfl, e12 _ _ k1, RA.own.cls, RA.n1, rfl, pm, _, rfl, .inr (SqT.of (e12 _ _ k2)), rfl, flat_intsB m, ?_⟩
      have et : D.take (i + 1) = D.take i ++ [p] := by rw [List.take_add_one, hpi]; rfl
      have sl := sub.length_le
      have tl := List.length_take_le' i D
      rw [inV_ints, inV_ints]
      refine ⟨rfl, _, rfl, ?_⟩
      by_cases hin : (p ∈ l ∧ p ∉ m) ∨ (p ∈ m ∧ p ∉ l)
      · refine (if_pos (by rcases hin with ⟨h1, h2⟩ | ⟨h1, h2⟩ <;> simp [h1, h2])).mpr ⟨_, rfl, _, hs, ?_, ?_, S ++ [p], ?_, ?_, fun x => ?_⟩
        · rw [List.length_map]
          exact Nat.lt_of_le_of_lt (by omega : S.length ≤ 10001) (by decide)
        · intro b o eb
          rw [upd_ne (ne_of_none eb hX)]
          exact e2 _ _ eb
        · rw [upd_same, List.map_append]
          rfl
        · rw [et]
          exact sub.append (List.Sublist.refl _)
        · rw [et, List.mem_append, List.mem_append, mem, List.mem_singleton]
          constructor
          · rintro (h | h)
            · exact ⟨.inl h.1, h.2⟩
            · exact ⟨.inr h, h ▸ hin⟩
          · rintro ⟨h | h, h2⟩
            · exact .inl ⟨h, h2⟩
            · exact .inr h
      · refine (if_neg (by by_cases h1 : p ∈ l <;> by_cases h2 : p ∈ m <;> simp_all)).mpr ⟨e2, S, hs, ?_, fun x => ?_⟩
        · rw [et]
          exact sub.trans (List.sublist_append_left _ _)
        · rw [et, List.mem_append, mem, List.mem_singleton]
          constructor
          · exact fun h => ⟨.inl h.1, h.2⟩
          · rintro ⟨h | h, h2⟩
            · exact ⟨h, h2⟩
            · exact absurd (h ▸ h2) hin
    · obtain ⟨e2, S, hs, sub, mem⟩ := hP2
      rw [List.length_map, List.take_length] at sub mem
      have hS : SymL l m S := ⟨hJ.1.sublist sub, fun p => by
        rw [mem, hJ.2]
        constructor
        · exact fun z => z.2
        · refine fun z => ⟨?_, z⟩
          rcases z with z | z
          · exact ⟨((hP.2 p).mp z.1).1, .inl ((hP.2 p).mp z.1).2⟩
          · exact ⟨((hR.2 p).mp z.1).1, .inr ((hR.2 p).mp z.1).2⟩⟩
      refine ⟨X, S.map V.int, rfl, .inl ⟨SqL.of hs, fun t ht => ?_⟩⟩
      refine q l m S t _ hP hR hS (by have := sym_len hP.1 hR.1 hS; omega) ((e1.trans e2).trans (same_upd ht)) upd_same
theorem ok_joined_places (F : FnD K "joined_places" "joined_places" s_P_joined_places f fd) (C_P_check_sides : Cal P w K mg base 2 "check_sides" ["one", "other"] (spSides CA)) (C_P_places_of_one : Cal P w K mg base 4 "places_of_one" ["one", "other"] (spOne CA)) : FnOk P w K mg base CX0 5 f fd ["one", "other"] (spOne CA) := by
  refine F.ok sc_P_joined_places (fun vs H Q E h => ?_) (fun cdv A outer s H vs Q E hr h => ?_)
  · obtain ⟨al, be, a, b, c, d, rfl, _⟩ := h.ex; rfl
  · obtain ⟨al, be, a, b, c, d, rfl, hA, hB, a1, b1, c1, d1, q⟩ := h.ex
    refine ⟨_, PSs.nox (pss_cons (ps_expr (pe_cal C_P_check_sides (hr.mono (by decide)) (pa_cons (pv 0) (pa_cons (pv 1) pa_nil))))
      (pss_one (ps_ret (pe_cal C_P_places_of_one (hr.mono (by decide)) (pa_cons (pv 0) (pa_cons (pv 1) pa_nil)))))), ?_⟩
    refine ⟨_, rfl, _, rfl, al, be, a, b, c, d, rfl, hA, hB, a1, b1, c1, d1, ?_⟩
    exact ⟨_, rfl, _, rfl, al, be, a, b, c, d, rfl, hA, hB, a1, b1, c1, d1, q⟩
structure AlikeP (CA : Addr) (vs : List V) (H : Hp) (Q : VK) : Prop where
  ex : ∃ (al be : Addr) (a b c d : Int), vs = [.ref al, .ref be] ∧ AlgAt CA H al a b ∧ AlgAt CA H be c d ∧ a.natAbs ≤ 10000 ∧ b.natAbs ≤ 10000 ∧ c.natAbs ≤ 10000 ∧ d.natAbs ≤ 10000 ∧
    ∀ (l m : List Int), PlacesOf a b l → PlacesOf c d m → Q (.bl (decide (l = m))) H
def spAlike (CA : Addr) : Sp := fun vs H Q _ => AlikeP CA vs H Q
theorem eqv_tupsB (a b : List Int) : PyData.eqv (.tuple (a.map PyData.int)) (.tuple (b.map PyData.int)) = decide (a = b) := by
  rw [← eqv_ints a b]
  unfold PyData.eqv
  rfl
theorem ok_are_alike (F : FnD K "are_alike" "are_alike" s_P_are_alike f fd) (RA : AlgK K CA) (C_P_check_sides : Cal P w K mg base 2 "check_sides" ["one", "other"] (spSides CA)) : FnOk P w K mg base CX0 3 f fd ["one", "other"] (spAlike CA) := by
  refine F.ok sc_P_are_alike (fun vs H Q E h => ?_) (fun cdv A outer s H vs Q E hr h => ?_)
  · obtain ⟨al, be, a, b, c, d, rfl, _⟩ := h.ex; rfl
  · obtain ⟨al, be, a, b, c, d, rfl, hA, hB, a1, b1, c1, d1, q⟩ := h.ex
    refine ⟨_, PSs.nox (pss_cons (ps_expr (pe_cal C_P_check_sides (hr.mono (by decide)) (pa_cons (pv 0) (pa_cons (pv 1) pa_nil))))
      (pss_one (ps_ret (pe_cmpR (op_eqD hr.units) (pe_fld (pv 0) rfl) (pe_fld (pv 1) rfl) (nomark _))))), ?_⟩
    obtain ⟨dA, pl, l, g1, g2, hP, a0, b0, _⟩ := id hA.ex
    obtain ⟨dB, pm, m, k1, k2, hR, c0, d0, _⟩ := id hB.ex
    refine ⟨_, rfl, _, rfl, al, be, a, b, c, d, rfl, hA, hB, a1, b1, c1, d1, ?_⟩
    refine ⟨_, rfl, al, CA, dA, _, .ref pl, rfl, g1, RA.own.cls, RA.n1, rfl, _, rfl, be, CA, dB, _, .ref pm, rfl, k1, RA.own.cls, RA.n1, rfl, ?_⟩
    refine ⟨_, _, dp_tup (SqT.of g2), dp_tup (SqT.of k2), shp_tup _, shp_tup _, ?_⟩
    rw [eqv_tupsB]
    exact q l m hP hR
structure JoinedP (CA : Addr) (vs : List V) (H : Hp) (Q : VK) : Prop where
  ex : ∃ (al be : Addr) (a b c d : Int), vs = [.ref al, .ref be] ∧ AlgAt CA H al a b ∧ AlgAt CA H be c d ∧ a.natAbs ≤ 10000 ∧ b.natAbs ≤ 10000 ∧ c.natAbs ≤ 10000 ∧ d.natAbs ≤ 10000 ∧ JoinOk a b c d ∧
    ∀ (l m D : List Int) (ga : Addr) (x y : Int) (H' : Hp), PlacesOf a b l → PlacesOf c d m → SymL l m D → PlacesOf x y D → AlgAt CA H' ga x y → Same H H' → Q (.ref ga) H'
def spJoined (CA : Addr) : Sp := fun vs H Q _ => JoinedP CA vs H Q
theorem ok_joined (F : FnD K "joined" "joined" s_P_joined f fd) (T : Glob mg) (C_P_check_sides : Cal P w K mg base 2 "check_sides" ["one", "other"] (spSides CA)) (C_P_places_of_one : Cal P w K mg base 4 "places_of_one" ["one", "other"] (spOne CA)) (C_P_product_of_primes : Cal P w K mg base 1 "product_of_primes" ["places"] spDisc) (C_P_algebra_with : Cal P w K mg base 8 "algebra_with" ["places"] (spWith CA)) : FnOk P w K mg base CX0 9 f fd ["one", "other"] (spJoined CA) := by
  refine F.ok sc_P_joined (fun vs H Q E h => ?_) (fun cdv A outer s H vs Q E hr h => ?_)
  · obtain ⟨al, be, a, b, c, d, rfl, _⟩ := h.ex; rfl
  · obtain ⟨al, be, a, b, c, d, rfl, hA, hB, a1, b1, c1, d1, ok, q⟩ := h.ex
    obtain ⟨tM, hc_MAX_JOINED⟩ := T.m_MAX_JOINED
    refine ⟨_, PSs.nox (pss_cons (ps_expr (pe_cal C_P_check_sides (hr.mono (by decide)) (pa_cons (pv 0) (pa_cons (pv 1) pa_nil))))
      (pss_cons (ps_set (i := 2) sc_P_joined.nd rfl (Or.inl rfl) (pe_cal C_P_places_of_one (hr.mono (by decide)) (pa_cons (pv 0) (pa_cons (pv 1) pa_nil))))
      (pss_cons (ps_if (pt_cmp (pc_gt (pe_cal C_P_product_of_primes (hr.mono (by decide)) (pa_cons (pv 2) pa_nil)) (pe_glob (v := .int 100000000) rfl hc_MAX_JOINED ⟨_, rfl⟩))) (pss_one ps_never) pss_nil)
      (pss_one (ps_ret (pe_cal C_P_algebra_with (hr.mono (by decide)) (pa_cons (pv 2) pa_nil))))))), ?_⟩
    obtain ⟨dA, pl, l0, g1, g2, hP, a0, b0, _⟩ := id hA.ex
    obtain ⟨dB, pm, m0, k1, k2, hR, c0, d0, _⟩ := id hB.ex
    refine ⟨_, rfl, _, rfl, al, be, a, b, c, d, rfl, hA, hB, a1, b1, c1, d1, ?_⟩
    refine ⟨_, rfl, _, rfl, al, be, a, b, c, d, rfl, hA, hB, a1, b1, c1, d1, fun l m D t H1 hl hm hS hlen e1 ht => ?_⟩
    obtain ⟨dd, hq⟩ := ok l m D hl hm hS
    have hp := sym_pls hl hm hS
    have dp := disc_pos D
    have ev := sym_even hl.1 hm.1 hS (even_all a0 b0 hl) (even_all c0 d0 hm)
    have dle : ∀ p ∈ D, p ≤ 1000000000 := fun p hp' => by
      rcases hp.ok p hp' with e | e
      · omega
      · obtain ⟨u, e1, _⟩ := disc_split e hp.asc hp.ok hp'
        have := Int.le_of_dvd dp ⟨u, e1⟩
        omega
    refine ⟨_, rfl, t, D, rfl, ht, by omega, dle, ?_⟩
    refine ⟨_, _, rfl, rfl, _, rfl, ifd (fun h => absurd h (by omega)) (fun _ => ?_)⟩
    exact ⟨_, rfl, t, D, rfl, ht, hp, ev, by omega, dd, hq, fun ga x y H2 hx hG e2 => q l m D ga x y H2 hl hm hS hx hG (e1.trans e2)⟩
end
end Sf

namespace Sf
open PySem PySem.Spec PyProof.Rows L2
theorem perm_asc {l m D : List Int} (hl : l.Pairwise (· < ·)) (hm : m.Pairwise (· < ·)) (hp : D.Perm (l.filter (fun p => !decide (p ∈ m)) ++ m.filter fun p => !decide (p ∈ l))) (hd : D.Pairwise (· ≤ ·)) : SymL l m D := by
  have mem : ∀ p, p ∈ D ↔ (p ∈ l ∧ p ∉ m) ∨ (p ∈ m ∧ p ∉ l) := fun p => by
    rw [hp.mem_iff, List.mem_append, List.mem_filter, List.mem_filter]
    simp
  refine ⟨?_, mem⟩
  have nd : (l.filter (fun p => !decide (p ∈ m)) ++ m.filter fun p => !decide (p ∈ l)).Nodup := by
    refine List.nodup_append.mpr ⟨asc_nodup (hl.sublist List.filter_sublist), asc_nodup (hm.sublist List.filter_sublist), fun x hx y hy e => ?_⟩
    subst e
    have h1 := (List.mem_filter.mp hx).1
    have h2 := (List.mem_filter.mp hy).2
    simp [h1] at h2
  have nd' : D.Nodup := hp.nodup_iff.mpr nd
  exact List.Pairwise.imp₂ (fun x y (h1 : x ≤ y) (h2 : x ≠ y) => by omega) hd nd'
section
variable {P : Program} {w : World} {K : PySem.W.Frag} {mg : Str → Option Value} {base : Heap} {f : Addr} {fd : FuncData} {CR CA CF : Addr}
structure ApartP (vs : List V) (H : Hp) (Q : VK) : Prop where
  ex : ∃ (t1 t2 : Addr) (l m : List Int), vs = [.ref t1, .ref t2] ∧ H t1 = some (.tup (l.map V.int)) ∧ H t2 = some (.tup (m.map V.int)) ∧ l.Pairwise (· < ·) ∧ m.Pairwise (· < ·) ∧ l.length ≤ 1000 ∧ m.length ≤ 1000 ∧
    ∀ (D : List Int) (t : Addr) (H' : Hp), SymL l m D → Same H H' → H' t = some (.tup (D.map V.int)) → Q (.ref t) H'
def spApart : Sp := fun vs H Q _ => ApartP vs H Q
set_option maxHeartbeats 8000000 in
theorem ok_apart (F : FnD K "_law_apart" "_law_apart" s_L_apart f fd) (T : Glob mg) : FnOk P w K mg base CX0 1 f fd ["_law_one", "_law_other"] spApart := by
  refine F.ok sc_L_apart (fun vs H Q E h => ?_) (fun cdv A outer s H vs Q E hr h => ?_)
  · obtain ⟨t1, t2, l, m, rfl, _⟩ := h.ex; rfl
  · obtain ⟨t1, t2, l, m, rfl, h1, h2, al, am, ll, lm, q⟩ := h.ex
    refine ⟨_, PSs.nox (pss_one (ps_ret (pe_callTy call_tuple_of (by rfl) T.m_tuple (by decide +kernel) (pa_cons (pe_callB cr_sortedI (by rfl) T.m_sorted (by decide +kernel) (pa_cons (pe_op op_cat (pe_lc rfl sc_L_apart.nd (own := [("_law_place", 2)]) (pi_tup (pv 0)) (blkOk_by (N := ["_law_one", "_law_other", "_law_place"]) (sc := defScope s_L_apart) (by decide +kernel)) (fun _ _ _ _ _ => pg_name (i := 2) sc_L_apart.nd rfl (Or.inl rfl)) (fun _ _ _ _ _ => pts_one (pt_cmpR (r := rIn K true) op_notIn_seq (pv 2) (pv 1) (by rfl))) (fun _ _ _ _ _ => (pv 2))) (pe_lc rfl sc_L_apart.nd (own := [("_law_place", 2)]) (pi_tup (pv 1)) (blkOk_by (N := ["_law_one", "_law_other", "_law_place"]) (sc := defScope s_L_apart) (by decide +kernel)) (fun _ _ _ _ _ => pg_name (i := 2) sc_L_apart.nd rfl (Or.inl rfl)) (fun _ _ _ _ _ => pts_one (pt_cmpR (r := rIn K true) op_notIn_seq (pv 2) (pv 0) (by rfl))) (fun _ _ _ _ _ => (pv 2)))) pa_nil)) pa_nil)))), ?_⟩
    have step : ∀ {l : List Int} {i : Nat} {p : Int} (g : Int → Bool), l[i]? = some p → (l.take (i + 1)).filter g = (l.take i).filter g ++ cond (g p) [p] [] := fun {l i p} g h => by
      rw [List.take_add_one, h, List.filter_append]
      cases e : g p <;> simp [e]
    refine ⟨_, rfl, t1, rfl, ⟨_, SqT.of h1⟩, fun X hX => lc_tup (K := K) (a := t1) (xs := l.map V.int) (fun i H' => Same H H' ∧ H' X = some (.lst (((l.take i).filter fun p => !decide (p ∈ m)).map V.int))) ⟨same_upd hX, upd_same⟩ (fun i H' _ hp => SqT.of (hp.1 _ _ h1)) (fun i v H' hv hP => ?_) (fun H1 hP => ?_)⟩
    · obtain ⟨e1, hx⟩ := hP
      obtain ⟨p, hpi, rfl⟩ := int_of_map hv
      have st := step (fun p => !decide (p ∈ m)) hpi
      refine ⟨rfl, ?_⟩
      refine ⟨_, rfl, _, rfl, t2, _, rfl, .inr (SqT.of (e1 _ _ h2)), rfl, flat_intsB m, ?_⟩
      refine ⟨_, rfl, ?_⟩
      by_cases hm : p ∈ m
      · rw [show (!decide (p ∈ m)) = false by simp [hm], cond_false, List.append_nil] at st
        refine (if_neg (by rw [inV_ints]; simp [hm])).mpr ⟨e1, ?_⟩
        rw [st]
        exact hx
      · rw [show (!decide (p ∈ m)) = true by simp [hm], cond_true] at st
        refine (if_pos (by rw [inV_ints]; simp [hm])).mpr ⟨_, rfl, _, hx, ?_, ?_, ?_⟩
        · rw [List.length_map]
          have k1 := List.length_filter_le (fun p => !decide (p ∈ m)) (l.take i)
          have k2 := List.length_take_le' i l
          exact Nat.lt_of_le_of_lt (by omega : _ ≤ 1000) (by decide)
        · intro b o eb
          rw [upd_ne (ne_of_none eb hX)]
          exact e1 _ _ eb
        · rw [upd_same, st, List.map_append]
          rfl
    obtain ⟨e1, hx⟩ := hP
    rw [List.length_map, List.take_length] at hx
    refine ⟨_, rfl, t2, rfl, ⟨_, SqT.of (e1 _ _ h2)⟩, fun Y hY => lc_tup (K := K) (a := t2) (xs := m.map V.int) (fun i H' => Same H1 H' ∧ H' Y = some (.lst (((m.take i).filter fun p => !decide (p ∈ l)).map V.int))) ⟨same_upd hY, upd_same⟩ (fun i H' _ hp => SqT.of (hp.1 _ _ (e1 _ _ h2))) (fun i v H' hv hP => ?_) (fun H' hP => ?_)⟩
    · obtain ⟨e2, hy⟩ := hP
      obtain ⟨p, hpi, rfl⟩ := int_of_map hv
      have st := step (fun p => !decide (p ∈ l)) hpi
      refine ⟨rfl, ?_⟩
      refine ⟨_, rfl, _, rfl, t1, _, rfl, .inr (SqT.of (e2 _ _ (e1 _ _ h1))), rfl, flat_intsB l, ?_⟩
      refine ⟨_, rfl, ?_⟩
      by_cases hm : p ∈ l
      · rw [show (!decide (p ∈ l)) = false by simp [hm], cond_false, List.append_nil] at st
        refine (if_neg (by rw [inV_ints]; simp [hm])).mpr ⟨e2, ?_⟩
        rw [st]
        exact hy
      · rw [show (!decide (p ∈ l)) = true by simp [hm], cond_true] at st
        refine (if_pos (by rw [inV_ints]; simp [hm])).mpr ⟨_, rfl, _, hy, ?_, ?_, ?_⟩
        · rw [List.length_map]
          have k1 := List.length_filter_le (fun p => !decide (p ∈ l)) (m.take i)
          have k2 := List.length_take_le' i m
          exact Nat.lt_of_le_of_lt (by omega : _ ≤ 1000) (by decide)
        · intro b o eb
          rw [upd_ne (ne_of_none eb hY)]
          exact e2 _ _ eb
        · rw [upd_same, st, List.map_append]
          rfl
    obtain ⟨e2, hy⟩ := hP
    rw [List.length_map, List.take_length] at hy
    refine ⟨X, Y, _, _, rfl, rfl, e2 _ _ hx, hy, ?_, fun Z hZ => ?_⟩
    · rw [List.length_map, List.length_map]
      have k1 := List.length_filter_le (fun p => !decide (p ∈ m)) l
      have k2 := List.length_filter_le (fun p => !decide (p ∈ l)) m
      exact Nat.le_trans (by omega : _ ≤ 2000) (by decide)
    rw [← List.map_append]
    refine ⟨Z, _, rfl, SqL.of upd_same, fun D z hp hd hz => ?_⟩
    refine ⟨z, D.map V.int, rfl, .inl ⟨SqL.of upd_same, fun t ht => ?_⟩⟩
    exact q D t _ (perm_asc al am hp hd) ((((e1.trans e2).trans (same_upd hZ)).trans (same_upd hz)).trans (same_upd ht)) upd_same
end
end Sf

namespace Sf
open PySem PySem.Spec PyProof.Rows L2
section
variable {P : Program} {w : World} {K : PySem.W.Frag} {mg : Str → Option Value} {base : Heap} {f : Addr} {fd : FuncData}
structure DrawP (vs : List V) (H : Hp) (Q : VK) : Prop where
  ex : ∃ (p : Addr) (n : Nat) (m : Int), vs = [.ref p, .int m] ∧ Sk p n H ∧ n ≤ 900000 ∧ 1 ≤ m ∧ m ≤ 1000 ∧ ∀ (z : Int) (H' : Hp), z ≠ 0 → (z.natAbs : Int) ≤ m → Keep p H H' → Sk p (n + 2) H' → Q (.int z) H'
def spDraw : Sp := fun vs H Q _ => DrawP vs H Q
theorem ok_drawn (F : FnD K "_law_drawn" "_law_drawn" s_L_drawn f fd) (T : Glob mg) (C_L_pour : Cal P w K mg base 1 "_law_pour" ["_law_jug_here", "_law_many"] spTake) : FnOk P w K mg base CX0 2 f fd ["_law_jug_here", "_law_most"] spDraw := by
  refine F.ok sc_L_drawn (fun vs H Q E h => ?_) (fun cdv A outer s H vs Q E hr h => ?_)
  · obtain ⟨p, n, m, rfl, _⟩ := h.ex; rfl
  · obtain ⟨p, n, m, rfl, hs, hn, m0, m1, q⟩ := h.ex
    refine ⟨_, PSs.nox (pss_cons (ps_set (i := 2) sc_L_drawn.nd rfl (Or.inl rfl) (pe_op op_add pe_int (pe_cal C_L_pour (hr.mono (by decide)) (pa_cons (pv 0) (pa_cons (pv 1) pa_nil)))))
      (pss_one (ps_ret (pe_ifExp (pt_cmp (pc_eqI (pe_cal C_L_pour (hr.mono (by decide)) (pa_cons (pv 0) (pa_cons pe_int pa_nil))) pe_int)) (pv 2) (pe_un un_neg (pv 2)))))), ?_⟩
    refine ⟨_, rfl, _, rfl, take_of hs (by omega) m0 (Int.lt_trans (by omega : m < 1000001) (by decide +kernel)) fun t H2 t0 t1 k2 s2 _ => ?_⟩
    refine ⟨_, _, rfl, rfl, ?_⟩
    refine ⟨_, rfl, take_of s2 (by omega) (by decide) (by decide +kernel) fun r H3 r0 r1 k3 s3 _ => ?_⟩
    refine ⟨_, _, rfl, rfl, _, rfl, ifd (fun h => ?_) (fun h => ?_)⟩
    · exact ⟨_, rfl, q _ _ (by omega) (by omega) (k2.trans k3) s3⟩
    · exact ⟨_, rfl, _, rfl, q (-(1 + t)) _ (by omega) (by omega) (k2.trans k3) s3⟩
structure KPairP (vs : List V) (H : Hp) (Q : VK) : Prop where
  ex : ∃ (p : Addr) (n : Nat), vs = [.ref p] ∧ Sk p n H ∧ n ≤ 800000 ∧ ∀ (a b : Int) (t : Addr) (H' : Hp), a ≠ 0 → b ≠ 0 → a.natAbs ≤ 60 → b.natAbs ≤ 60 → Keep p H H' → Sk p (n + 5) H' → H' t = some (.tup [.int a, .int b]) → Q (.ref t) H'
def spKPair : Sp := fun vs H Q _ => KPairP vs H Q
theorem ok_small_pair (F : FnD K "_law_small_pair" "_law_small_pair" s_L_small_pair f fd) (T : Glob mg) (C_L_of : Cal P w K mg base 2 "_law_of" ["_law_jug_here", "_law_items"] (spOneOf K)) (C_L_drawn : Cal P w K mg base 2 "_law_drawn" ["_law_jug_here", "_law_most"] spDraw) : FnOk P w K mg base CX0 3 f fd ["_law_jug_here"] spKPair := by
  refine F.ok sc_L_small_pair (fun vs H Q E h => ?_) (fun cdv A outer s H vs Q E hr h => ?_)
  · obtain ⟨p, n, rfl, _⟩ := h.ex; rfl
  · obtain ⟨p, n, rfl, hs, hn, q⟩ := h.ex
    refine ⟨_, PSs.nox (pss_cons (ps_set (i := 1) sc_L_small_pair.nd rfl (Or.inl rfl) (pe_cal C_L_of (hr.mono (by decide)) (pa_cons (pv 0) (pa_cons (pe_lst (pa_cons pe_int (pa_cons pe_int (pa_cons pe_int (pa_cons pe_int pa_nil))))) pa_nil))))
      (pss_one (ps_ret (pe_tup (pa_cons (pe_cal C_L_drawn (hr.mono (by decide)) (pa_cons (pv 0) (pa_cons (pv 1) pa_nil))) (pa_cons (pe_cal C_L_drawn (hr.mono (by decide)) (pa_cons (pv 0) (pa_cons (pv 1) pa_nil))) pa_nil)))))), ?_⟩
    refine ⟨_, rfl, (by show 4 ≤ sizeLine; decide), fun b hb => one_of_new hs (by omega) hb (by show 1 ≤ 4; decide) (by show 4 ≤ 1000000; decide) fun x H1 hv k1 s1 => ?_⟩
    obtain ⟨u, rfl, u0, u1⟩ : ∃ u : Int, x = .int u ∧ 1 ≤ u ∧ u ≤ 60 := by
      have c : x = .int 3 ∨ x = .int 12 ∨ x = .int 30 ∨ x = .int 60 := by simpa using hv
      rcases c with e | e | e | e <;> exact ⟨_, e, by omega, by omega⟩
    have k1 : Keep p H H1 := k1
    refine ⟨_, rfl, _, rfl, ⟨p, n + 1, u, rfl, s1, by omega, u0, by omega, fun a H2 a0 a1 k2 s2 => ?_⟩⟩
    refine ⟨_, rfl, _, rfl, ⟨p, n + 1 + 2, u, rfl, s2, by omega, u0, by omega, fun b2 H3 b0 b1 k3 s3 => ?_⟩⟩
    exact ⟨(by show 2 ≤ sizeLine; decide), fun t ht => q a b2 t _ a0 b0 (by omega) (by omega) (((k1.trans k2).trans k3).trans (Keep.new ht)) (s3.same (same_upd ht)) upd_same⟩
end
end Sf

namespace Sf
open PySem PySem.Spec PyProof.Rows L2
section
variable {P : Program} {w : World} {K : PySem.W.Frag} {mg : Str → Option Value} {base : Heap} {f : Addr} {fd : FuncData} {CR CA CF : Addr}
structure IsJP (CA : Addr) (vs : List V) (H : Hp) (Q : VK) : Prop where
  ex : ∃ (al be : Addr) (a b c d : Int), vs = [.ref al, .ref be] ∧ AlgAt CA H al a b ∧ AlgAt CA H be c d ∧ a.natAbs ≤ 10000 ∧ b.natAbs ≤ 10000 ∧ c.natAbs ≤ 10000 ∧ d.natAbs ≤ 10000 ∧ JoinOk a b c d ∧ ∀ H', Same H H' → Q (.bl true) H'
def spIsJ (CA : Addr) : Sp := fun vs H Q _ => IsJP CA vs H Q
set_option maxHeartbeats 8000000 in
theorem ok_is_joined (F : FnD K "_law_is_joined" "_law_is_joined" s_L_is_joined f fd) (T : Glob mg) (RA : AlgK K CA) (C_L_places : Cal P w K mg base 3 "_law_places" ["_law_a", "_law_b"] spLPl) (C_L_apart : Cal P w K mg base 1 "_law_apart" ["_law_one", "_law_other"] spApart) (C_P_joined_places : Cal P w K mg base 5 "joined_places" ["one", "other"] (spOne CA)) (C_P_joined : Cal P w K mg base 9 "joined" ["one", "other"] (spJoined CA)) : FnOk P w K mg base CX0 10 f fd ["_law_one", "_law_other"] (spIsJ CA) := by
  refine F.ok sc_L_is_joined (fun vs H Q E h => ?_) (fun cdv A outer s H vs Q E hr h => ?_)
  · obtain ⟨al, be, a, b, c, d, rfl, _⟩ := h.ex; rfl
  · obtain ⟨al, be, a, b, c, d, rfl, hA, hB, a1, b1, c1, d1, ok, q⟩ := h.ex
    refine ⟨_, PSs.nox (pss_cons (ps_set (i := 2) sc_L_is_joined.nd rfl (Or.inl rfl) (pe_cal C_L_apart (hr.mono (by decide)) (pa_cons (pe_cal C_L_places (hr.mono (by decide)) (pa_cons (pe_fld (pv 0) rfl) (pa_cons (pe_fld (pv 0) rfl) pa_nil))) (pa_cons (pe_cal C_L_places (hr.mono (by decide)) (pa_cons (pe_fld (pv 1) rfl) (pa_cons (pe_fld (pv 1) rfl) pa_nil))) pa_nil))))
      (pss_cons (ps_if (PW.pt (pw_or (pt_cmpR (op_neD hr.units) (pe_cal C_P_joined_places (hr.mono (by decide)) (pa_cons (pv 0) (pa_cons (pv 1) pa_nil))) (pv 2) (nomark _)) (pw_or1 (pt_cmp (pc_neI (pe_op op_mod (pe_callB call_len_seq (by rfl) T.m_len (by decide +kernel) (pa_cons (pv 2) pa_nil)) pe_int) pe_int))))) (pss_one (ps_ret pe_bl)) pss_nil)
      (pss_cons (ps_set (i := 3) sc_L_is_joined.nd rfl (Or.inl rfl) (pe_cal C_P_joined (hr.mono (by decide)) (pa_cons (pv 0) (pa_cons (pv 1) pa_nil))))
      (pss_cons (ps_if (PW.pt (pw_or (pt_cmp (pc_gt (pe_callB call_abs (by rfl) T.m_abs (by decide +kernel) (pa_cons (pe_fld (pv 3) rfl) pa_nil)) (pe_op op_powW pe_int pe_int))) (pw_or1 (pt_cmp (pc_gt (pe_callB call_abs (by rfl) T.m_abs (by decide +kernel) (pa_cons (pe_fld (pv 3) rfl) pa_nil)) (pe_op op_powW pe_int pe_int)))))) (pss_one (ps_ret pe_bl)) pss_nil)
      (pss_one (ps_ret (pe_and (pe_cmpR (op_eqD hr.units) (pe_cal C_L_places (hr.mono (by decide)) (pa_cons (pe_fld (pv 3) rfl) (pa_cons (pe_fld (pv 3) rfl) pa_nil))) (pv 2) (nomark _)) (pe_one (pe_cmpR (op_eqD hr.units) (pe_fld (pv 3) rfl) (pv 2) (nomark _)))))))))), ?_⟩
    obtain ⟨dA, pl, l0, g1, g2, hP, a0, b0, _⟩ := id hA.ex
    obtain ⟨dB, pm, m0, k1, k2, hR, c0, d0, _⟩ := id hB.ex
    refine ⟨_, rfl, al, CA, dA, _, .int a, rfl, g1, RA.own.cls, RA.n2, rfl, _, rfl, al, CA, dA, _, .int b, rfl, g1, RA.own.cls, RA.n3, rfl, ⟨a, b, rfl, a0, b0, by omega, by omega, fun l t1 H1 hP1 hl1 e1 ht1 => ?_⟩⟩
    refine ⟨_, rfl, be, CA, dB, _, .int c, rfl, e1 _ _ k1, RA.own.cls, RA.n2, rfl, _, rfl, be, CA, dB, _, .int d, rfl, e1 _ _ k1, RA.own.cls, RA.n3, rfl, ⟨c, d, rfl, c0, d0, by omega, by omega, fun m t2 H2 hP2 hl2 e2 ht2 => ?_⟩⟩
    have e12 := e1.trans e2
    refine ⟨t1, t2, l, m, rfl, e2 _ _ ht1, ht2, hP1.1, hP2.1, by omega, by omega, fun D t H3 hD e3 ht => ?_⟩
    have e13 := e12.trans e3
    have ev := sym_even hP1.1 hP2.1 hD (even_all a0 b0 hP1) (even_all c0 d0 hP2)
    have dl := sym_len hP1.1 hP2.1 hD
    clear e1 e2 e12 ht1 ht2
    replace hA := hA.same e13
    replace hB := hB.same e13
    refine ⟨_, rfl, _, rfl, al, be, a, b, c, d, rfl, hA, hB, a1, b1, c1, d1, fun l' m' D' t' H4 hl' hm' hD' hlen' e4 ht' => ?_⟩
    obtain rfl := places_unique hP1 hl'
    obtain rfl := places_unique hP2 hm'
    obtain rfl := sym_uni hD hD'
    replace hA := hA.same e4
    replace hB := hB.same e4
    replace ht := e4 _ _ ht
    have e14 := e13.trans e4
    clear e3 e4 e13
    refine ⟨_, rfl, _, _, dp_tup (SqT.of ht'), dp_tup (SqT.of ht), shp_tup _, shp_tup _, _, rfl, ?_⟩
    rw [eqv_tupsB, decide_eq_true rfl]
    refine iteF ?_
    refine ⟨_, rfl, t, _, rfl, .inr (SqT.of ht), _, _, rfl, rfl, (by show (0 : Int) < 2; decide), _, _, rfl, rfl, _, rfl, ifn (fun z => absurd (by rw [List.length_map]; omega) z) (fun _ => ?_)⟩
    refine ⟨_, rfl, _, rfl, al, be, a, b, c, d, rfl, hA, hB, a1, b1, c1, d1, ok, fun l' m' D' ga x y H5 hl' hm' hD' hx hG e5 => ?_⟩
    obtain rfl := places_unique hP1 hl'
    obtain rfl := places_unique hP2 hm'
    obtain rfl := sym_uni hD hD'
    replace ht := e5 _ _ ht
    obtain ⟨dG, pg, n0, j1, j2, hN, x0, y0, x9, y9⟩ := id hG.ex
    obtain rfl := places_unique hx hN
    have p9 : CPowW 10 9 := ⟨by decide, by decide +kernel⟩
    have e9 : (10 : Int) ^ (9 : Int).toNat = 1000000000 := by decide
    refine ⟨_, rfl, ga, CA, dG, _, .int x, rfl, j1, RA.own.cls, RA.n2, rfl, x, rfl, _, _, rfl, rfl, p9, _, _, rfl, rfl, _, rfl, ifd (fun h => absurd h (by rw [e9]; split <;> omega)) (fun _ => ?_)⟩
    refine ⟨_, rfl, ga, CA, dG, _, .int y, rfl, j1, RA.own.cls, RA.n3, rfl, y, rfl, _, _, rfl, rfl, p9, _, _, rfl, rfl, _, rfl, ifd (fun h => absurd h (by rw [e9]; split <;> omega)) (fun _ => ?_)⟩
    refine ⟨_, rfl, ga, CA, dG, _, .int x, rfl, j1, RA.own.cls, RA.n2, rfl, _, rfl, ga, CA, dG, _, .int y, rfl, j1, RA.own.cls, RA.n3, rfl, ⟨x, y, rfl, x0, y0, x9, y9, fun l' t6 H6 hl' hll' e6 ht6 => ?_⟩⟩
    obtain rfl := places_unique hx hl'
    refine ⟨_, rfl, _, _, dp_tup (SqT.of ht6), dp_tup (SqT.of (e6 _ _ ht)), shp_tup _, shp_tup _, ?_⟩
    rw [eqv_tupsB, decide_eq_true rfl]
    refine ⟨_, rfl, (if_pos rfl).mpr ?_⟩
    refine ⟨_, rfl, ga, CA, dG, _, .ref pg, rfl, e6 _ _ j1, RA.own.cls, RA.n1, rfl, _, rfl, _, _, dp_tup (SqT.of (e6 _ _ j2)), dp_tup (SqT.of (e6 _ _ ht)), shp_tup _, shp_tup _, ?_⟩
    rw [eqv_tupsB, decide_eq_true rfl]
    exact q _ ((e14.trans e5).trans e6)
end
end Sf

namespace Sf
open PySem PySem.Spec PyProof.Rows L2
theorem keep_atA {p c : Addr} {n : Nat} {H H' : Hp} {o : HO} (s : Sk p n H) (k : Keep p H H') (h : H c = some o) (no : ∀ xs, o ≠ .lst xs) : H' c = some o := by
  refine k _ _ h fun z => ?_
  obtain ⟨xs, hp, _⟩ := s
  rw [z, hp] at h
  exact no _ (Option.some.inj h).symm
theorem AlgAt.keepA {CA p x : Addr} {n : Nat} {H H' : Hp} {a b : Int} (h : AlgAt CA H x a b) (s : Sk p n H) (k : Keep p H H') : AlgAt CA H' x a b := by
  obtain ⟨dx, pl, l, h1, h2, h3⟩ := h.ex
  exact ⟨dx, pl, l, keep_atA s k h1 (fun _ => HO.noConfusion), keep_atA s k h2 (fun _ => HO.noConfusion), h3⟩
theorem AlgAt.updL {CA x L : Addr} {H : Hp} {a b : Int} {xs ys : List V} (h : AlgAt CA H x a b) (g : H L = some (.lst xs)) : AlgAt CA (upd H L (.lst ys)) x a b := by
  obtain ⟨dx, pl, l, h1, h2, h3⟩ := h.ex
  refine ⟨dx, pl, l, ?_, ?_, h3⟩
  · rw [upd_ne fun z => ?_]
    · exact h1
    · rw [z, g] at h1
      cases h1
  · rw [upd_ne fun z => ?_]
    · exact h2
    · rw [z, g] at h2
      cases h2
/-- an algebra with small numbers -/
structure Sm (CA : Addr) (H : Hp) (x : Addr) (a b : Int) : Prop where
  at_ : AlgAt CA H x a b
  a0 : a ≠ 0
  b0 : b ≠ 0
  a1 : a.natAbs ≤ 60
  b1 : b.natAbs ≤ 60
section
variable {P : Program} {w : World} {K : PySem.W.Frag} {mg : Str → Option Value} {base : Heap} {f : Addr} {fd : FuncData} {CR CA CF : Addr}
structure RightP (vs : List V) (H : Hp) (Q : VK) : Prop where
  ex : ∃ (p : Addr) (n : Nat), vs = [.ref p] ∧ Sk p n H ∧ n ≤ 600000 ∧ ∀ (H' : Hp), Keep p H H' → Sk p (n + 40) H' → Q (.bl true) H'
def spRight : Sp := fun vs H Q _ => RightP vs H Q
set_option maxHeartbeats 16000000 in
theorem ok_right (F : FnD K "_law_right" "_law_right" s_L_right f fd) (T : Glob mg) (RA : AlgK K CA) (C_L_small_pair : Cal P w K mg base 3 "_law_small_pair" ["_law_jug_here"] spKPair) (C_L_drawn : Cal P w K mg base 2 "_law_drawn" ["_law_jug_here", "_law_most"] spDraw) (C_L_apart : Cal P w K mg base 1 "_law_apart" ["_law_one", "_law_other"] spApart) (C_L_is_joined : Cal P w K mg base 10 "_law_is_joined" ["_law_one", "_law_other"] (spIsJ CA)) (C_P_joined_places : Cal P w K mg base 5 "joined_places" ["one", "other"] (spOne CA)) (C_P_joined : Cal P w K mg base 9 "joined" ["one", "other"] (spJoined CA)) (C_P_are_alike : Cal P w K mg base 3 "are_alike" ["one", "other"] (spAlike CA))
    (N_Algebra_2 : CalC P w K mg base 6 "Algebra" CA ["self", "a", "b"] [] (spAlgInit CA)) :
    FnOk P w K mg base CX0 11 f fd ["_law_jug_here"] spRight := by
  refine F.ok sc_L_right (fun vs H Q E h => ?_) (fun cdv A outer s H vs Q E hr h => ?_)
  · obtain ⟨p, n, rfl, _⟩ := h.ex; rfl
  · obtain ⟨p, n, rfl, hs, hn, q⟩ := h.ex
    refine ⟨_, PSs.nox (pss_cons (ps_set (i := 1) sc_L_right.nd rfl (Or.inl rfl) (pe_lst pa_nil))
      (pss_cons (ps_for PassesOwn.never rfl (pi_range1 (by rfl) T.m_range (pa_cons pe_int pa_nil)) (pg_name (i := 2) sc_L_right.nd rfl (Or.inl rfl)) (pss_cons (ps_asg (pe_cal C_L_small_pair (hr.mono (by decide)) (pa_cons (pv 0) pa_nil)) (pg_tup (by rfl) (pgs_cons (pg_name (i := 3) sc_L_right.nd rfl (Or.inl rfl)) (pgs_cons (pg_name (i := 4) sc_L_right.nd rfl (Or.inl rfl)) pgs_nil))))
      (pss_one (ps_expr (pe_bm PySem.F.plainAttrs_list PySem.F.slot_list_append PySem.F.type_list_append mt_append (pv 1) (pa_cons (pe_new N_Algebra_2 (hr.mono (by decide)) (pa_cons (pv 3) (pa_cons (pv 4) pa_nil))) pa_nil))))))
      (pss_cons (ps_asg (pv 1) (pg_lst (by rfl) (pgs_cons (pg_name (i := 5) sc_L_right.nd rfl (Or.inl rfl)) (pgs_cons (pg_name (i := 6) sc_L_right.nd rfl (Or.inl rfl)) (pgs_cons (pg_name (i := 7) sc_L_right.nd rfl (Or.inl rfl)) pgs_nil)))))
      (pss_cons (ps_if (PW.pt (pw_or (pt_not (pt_val (pe_cal C_L_is_joined (hr.mono (by decide)) (pa_cons (pv 5) (pa_cons (pv 6) pa_nil))))) (pw_or (pt_not (pt_val (pe_cal C_L_is_joined (hr.mono (by decide)) (pa_cons (pv 6) (pa_cons (pv 7) pa_nil))))) (pw_or1 (pt_cmpR (op_neD hr.units) (pe_cal C_P_joined_places (hr.mono (by decide)) (pa_cons (pv 5) (pa_cons (pv 5) pa_nil))) (pe_tup pa_nil) (nomark _)))))) (pss_one (ps_ret pe_bl)) pss_nil)
      (pss_cons (ps_if (pt_cmpR (op_neD hr.units) (pe_cal C_P_joined_places (hr.mono (by decide)) (pa_cons (pv 5) (pa_cons (pv 6) pa_nil))) (pe_cal C_P_joined_places (hr.mono (by decide)) (pa_cons (pv 6) (pa_cons (pv 5) pa_nil))) (nomark _)) (pss_one (ps_ret pe_bl)) pss_nil)
      (pss_cons (ps_set (i := 8) sc_L_right.nd rfl (Or.inl rfl) (pe_cal C_L_apart (hr.mono (by decide)) (pa_cons (pe_cal C_P_joined_places (hr.mono (by decide)) (pa_cons (pv 5) (pa_cons (pv 6) pa_nil))) (pa_cons (pe_fld (pv 7) rfl) pa_nil))))
      (pss_cons (ps_if (pt_cmpR (op_neD hr.units) (pv 8) (pe_cal C_L_apart (hr.mono (by decide)) (pa_cons (pe_fld (pv 5) rfl) (pa_cons (pe_cal C_P_joined_places (hr.mono (by decide)) (pa_cons (pv 6) (pa_cons (pv 7) pa_nil))) pa_nil))) (nomark _)) (pss_one (ps_ret pe_bl)) pss_nil)
      (pss_cons (ps_set (i := 9) sc_L_right.nd rfl (Or.inl rfl) (pe_cal C_L_drawn (hr.mono (by decide)) (pa_cons (pv 0) (pa_cons pe_int pa_nil))))
      (pss_cons (ps_par (i := 10) (j := 11) (by rfl) sc_L_right.nd rfl rfl (by decide) rfl rfl (pa_cons (pe_new N_Algebra_2 (hr.mono (by decide)) (pa_cons (pe_fld (pv 5) rfl) (pa_cons (pv 9) pa_nil))) (pa_cons (pe_new N_Algebra_2 (hr.mono (by decide)) (pa_cons (pe_fld (pv 5) rfl) (pa_cons (pe_op op_mulW (pe_fld (pv 5) rfl) (pv 9)) pa_nil))) pa_nil)) (by rfl))
      (pss_cons (ps_if (pt_cmpR (op_neD hr.units) (pe_cal C_P_joined_places (hr.mono (by decide)) (pa_cons (pe_new N_Algebra_2 (hr.mono (by decide)) (pa_cons (pe_fld (pv 5) rfl) (pa_cons (pe_fld (pv 5) rfl) pa_nil))) (pa_cons (pv 10) pa_nil))) (pe_fld (pv 11) rfl) (nomark _)) (pss_one (ps_ret pe_bl)) pss_nil)
      (pss_cons (ps_set (i := 12) sc_L_right.nd rfl (Or.inl rfl) (pe_cal C_P_joined (hr.mono (by decide)) (pa_cons (pv 5) (pa_cons (pv 10) pa_nil))))
      (pss_one (ps_ret (pe_ifExp (pt_chain op_le op_ge (pe_callB (call_max2 rfl) (by rfl) T.m_max (by decide +kernel) (pa_cons (pe_callB call_abs (by rfl) T.m_abs (by decide +kernel) (pa_cons (pe_fld (pv 12) rfl) pa_nil)) (pa_cons (pe_callB call_abs (by rfl) T.m_abs (by decide +kernel) (pa_cons (pe_fld (pv 12) rfl) pa_nil)) pa_nil))) (pe_op op_powW pe_int pe_int) (pe_callB call_abs (by rfl) T.m_abs (by decide +kernel) (pa_cons (pe_fld (pv 11) rfl) pa_nil))) (pe_cal C_P_are_alike (hr.mono (by decide)) (pa_cons (pv 12) (pa_cons (pv 11) pa_nil))) (pe_cmpR (op_eqD hr.units) (pe_fld (pv 12) rfl) (pe_fld (pv 11) rfl) (nomark _)))))))))))))))), ?_⟩
    refine ⟨(by show 0 ≤ sizeLine; decide), fun L hL => ?_⟩
    have nL : L ≠ p := fun z => by
      obtain ⟨xs, g, _⟩ := hs
      rw [z, g] at hL
      cases hL
    refine ⟨3, rfl, by decide, by decide, for_range (lo := 0) (n := 3) (fun i σ H' => ∃ (as : List (Addr × Int × Int)) (v1 v2 v3 : Option V), σ = [some (.ref p), some (.ref L), v1, v2, v3, none, none, none, none, none, none, none, none] ∧ as.length = i ∧ H' L = some (.lst (as.map fun e => .ref e.1)) ∧ (∀ e ∈ as, Sm CA H' e.1 e.2.1 e.2.2) ∧ Keep p H H' ∧ Sk p (n + 5 * i) H') ⟨[], none, none, none, rfl, rfl, upd_same, fun _ z => (by cases z), Keep.same (same_upd hL), hs.same (same_upd hL)⟩ ?_ ?_⟩
    · rintro i σ H1 hi ⟨as, v1, v2, v3, rfl, la, gL, hall, k1, s1⟩
      refine ⟨_, rfl, ⟨p, n + 5 * i, rfl, s1, by omega, fun a b t H2 a0 b0 a1 b1 k2 s2 ht => ⟨t, _, rfl, SqT.of ht, rfl, _, _, rfl, _, _, rfl, rfl, ?_⟩⟩⟩
      have gL2 := k2 _ _ gL nL
      have s3 := s2
      refine ⟨_, rfl, .inl ⟨rfl, _, SqL.of gL2⟩, _, rfl, _, rfl, fun al dal hal hdal nda => new_alg a0 b0 (by omega) (by omega) hal hdal nda fun H3 e3 hA => ⟨rfl, ?_⟩⟩
      have gL3 := e3 _ _ gL2
      refine ⟨L, _, _, rfl, rfl, gL3, ?_, as ++ [(al, a, b)], _, _, _, rfl, by rw [List.length_append, la]; rfl, ?_, ?_, ?_, ?_⟩
      · rw [List.length_map, la]
        exact Nat.lt_of_lt_of_le (by omega : i < 100000) (by decide)
      · rw [upd_same, List.map_append]
        rfl
      · intro e he
        rcases List.mem_append.mp he with z | z
        · have h := hall e z
          exact ⟨(((h.at_.keepA s1 k2).same e3).updL gL3), h.a0, h.b0, h.a1, h.b1⟩
        · rw [List.mem_singleton.mp z]
          exact ⟨hA.updL gL3, a0, b0, a1, b1⟩
      · intro c o ec nc
        rw [upd_ne (ne_of_none ec hL)]
        exact e3 _ _ (k2 _ _ (k1 _ _ ec nc) nc)
      · obtain ⟨xs, ax, ao⟩ := (s2.same e3).mono (by omega : n + 5 * i + 5 ≤ n + 5 * (i + 1))
        exact ⟨xs, by rw [upd_ne nL.symm]; exact ax, ao⟩
    · rintro σ H1 ⟨as, v1, v2, v3, rfl, la, gL, hall, k1, s1⟩
      obtain ⟨⟨al, a, b⟩, ⟨be, c, d⟩, ⟨ga, x, y⟩, rfl⟩ : ∃ e1 e2 e3, as = [e1, e2, e3] := by
        match as, la with
        | [e1, e2, e3], _ => exact ⟨e1, e2, e3, rfl⟩
      have SA : Sm CA H1 al a b := hall (al, a, b) (List.mem_cons_self)
      have SB : Sm CA H1 be c d := hall (be, c, d) (List.mem_cons_of_mem _ List.mem_cons_self)
      have SC : Sm CA H1 ga x y := hall (ga, x, y) (List.mem_cons_of_mem _ (List.mem_cons_of_mem _ List.mem_cons_self))
      obtain ⟨hA, a0, b0, a1, b1⟩ := SA
      obtain ⟨hB, c0, d0, c1, d1⟩ := SB
      obtain ⟨hC, x0, y0, x1, y1⟩ := SC
      clear hall la
      refine ⟨_, rfl, L, _, rfl, SqL.of gL, rfl, _, _, rfl, _, _, rfl, _, _, rfl, rfl, ?_⟩
      clear gL hL nL
      have a4 : a.natAbs ≤ 10000 := by omega
      have b4 : b.natAbs ≤ 10000 := by omega
      have c4 : c.natAbs ≤ 10000 := by omega
      have d4 : d.natAbs ≤ 10000 := by omega
      have x4 : x.natAbs ≤ 10000 := by omega
      have y4 : y.natAbs ≤ 10000 := by omega
      refine ⟨_, rfl, _, rfl, ⟨al, be, a, b, c, d, rfl, hA, hB, a4, b4, c4, d4, small_join a0 b0 c0 d0 a1 b1 c1 d1, fun H2 e2 => ⟨_, rfl, (if_neg (by decide)).mpr ?_⟩⟩⟩
      replace hA := hA.same e2
      replace hB := hB.same e2
      replace hC := hC.same e2
      replace k1 := k1.trans (Keep.same e2)
      replace s1 := s1.same e2
      clear e2
      refine ⟨_, rfl, _, rfl, ⟨be, ga, c, d, x, y, rfl, hB, hC, c4, d4, x4, y4, small_join c0 d0 x0 y0 c1 d1 x1 y1, fun H3 e2 => ⟨_, rfl, (if_neg (by decide)).mpr ?_⟩⟩⟩
      replace hA := hA.same e2
      replace hB := hB.same e2
      replace hC := hC.same e2
      replace k1 := k1.trans (Keep.same e2)
      replace s1 := s1.same e2
      clear e2
      refine ⟨_, rfl, _, rfl, ⟨al, al, a, b, a, b, rfl, hA, hA, a4, b4, a4, b4, fun l m D t H4 hl hm hD hlen e2 ht => ?_⟩⟩
      obtain rfl := places_unique hl hm
      obtain rfl := sym_self hD
      replace hA := hA.same e2
      replace hB := hB.same e2
      replace hC := hC.same e2
      replace k1 := k1.trans (Keep.same e2)
      replace s1 := s1.same e2
      clear e2 hD
      refine ⟨(by show 0 ≤ sizeLine; decide), fun t0 h0 => ?_⟩
      have e2 := same_upd (o := .tup []) h0
      refine ⟨_, _, dp_tup (SqT.of (e2 _ _ ht)), dp_tup (ns := []) (SqT.of upd_same), shp_tup _, shp_tup _, _, rfl, ?_⟩
      rw [eqv_tupsB, decide_eq_true rfl]
      refine iteF ?_
      replace hA := hA.same e2
      replace hB := hB.same e2
      replace hC := hC.same e2
      replace k1 := k1.trans (Keep.same e2)
      replace s1 := s1.same e2
      clear e2 hl hm hlen ht h0
      refine ⟨_, rfl, _, rfl, ⟨al, be, a, b, c, d, rfl, hA, hB, a4, b4, c4, d4, fun l m D t H5 hl hm hD hlen e2 ht => ?_⟩⟩
      replace hA := hA.same e2
      replace hB := hB.same e2
      replace hC := hC.same e2
      replace k1 := k1.trans (Keep.same e2)
      replace s1 := s1.same e2
      clear e2
      refine ⟨_, rfl, _, rfl, ⟨be, al, c, d, a, b, rfl, hB, hA, c4, d4, a4, b4, fun m' l' D' t' H6 hm' hl' hD' hlen' e2 ht' => ?_⟩⟩
      obtain rfl := places_unique hl hl'
      obtain rfl := places_unique hm hm'
      obtain rfl := sym_uni hD (sym_comm hD')
      refine ⟨_, _, dp_tup (SqT.of (e2 _ _ ht)), dp_tup (SqT.of ht'), shp_tup _, shp_tup _, _, rfl, ?_⟩
      rw [eqv_tupsB, decide_eq_true rfl]
      refine iteF ?_
      replace hA := hA.same e2
      replace hB := hB.same e2
      replace hC := hC.same e2
      replace k1 := k1.trans (Keep.same e2)
      replace s1 := s1.same e2
      clear e2 hl' hm' hD' hlen' ht ht' hlen
      refine ⟨_, rfl, _, rfl, ⟨al, be, a, b, c, d, rfl, hA, hB, a4, b4, c4, d4, fun l' m' D' t H7 hl' hm' hD' hlen e2 ht => ?_⟩⟩
      obtain rfl := places_unique hl hl'
      obtain rfl := places_unique hm hm'
      obtain rfl := sym_uni hD hD'
      replace hA := hA.same e2
      replace hB := hB.same e2
      replace hC := hC.same e2
      replace k1 := k1.trans (Keep.same e2)
      replace s1 := s1.same e2
      clear e2 hl' hm' hD'
      obtain ⟨dA, pl, l0, g1, g2, hP, _⟩ := id hA.ex
      obtain ⟨dC, pn, n0, k1', k2', hR, _⟩ := id hC.ex
      obtain rfl := places_unique hl hP
      refine ⟨_, rfl, ga, CA, dC, _, .ref pn, rfl, k1', RA.own.cls, RA.n1, rfl, ?_⟩
      have fl := places_few29 hl a0 b0 a4 b4
      have fm := places_few29 hR x0 y0 x4 y4
      refine ⟨t, pn, D, n0, rfl, ht, k2', hD.1, hR.1, by omega, by omega, fun X tX H8 hX e8 htX => ?_⟩
      replace hA := hA.same e8
      replace hB := hB.same e8
      replace hC := hC.same e8
      replace k1 := k1.trans (Keep.same e8)
      replace s1 := s1.same e8
      replace g1 := e8 _ _ g1
      replace g2 := e8 _ _ g2
      clear e8 ht hP k1' k2'
      refine ⟨_, rfl, _, rfl, al, CA, dA, _, .ref pl, rfl, g1, RA.own.cls, RA.n1, rfl, ?_⟩
      refine ⟨_, rfl, _, rfl, ⟨be, ga, c, d, x, y, rfl, hB, hC, c4, d4, x4, y4, fun m' n' B t H9 hm' hn' hB' hlenB e2 ht => ?_⟩⟩
      obtain rfl := places_unique hm hm'
      obtain rfl := places_unique hR hn'
      replace htX := e2 _ _ htX
      replace hA := hA.same e2
      replace hB := hB.same e2
      replace hC := hC.same e2
      replace k1 := k1.trans (Keep.same e2)
      replace s1 := s1.same e2
      replace g1 := e2 _ _ g1
      replace g2 := e2 _ _ g2
      clear e2 hm' hn'
      refine ⟨pl, t, l, B, rfl, g2, ht, hl.1, hB'.1, by omega, by omega, fun X' t' H10 hX' e2 ht' => ?_⟩
      obtain rfl := sym_assoc hD hB' hX hX'
      refine ⟨_, _, dp_tup (SqT.of (e2 _ _ htX)), dp_tup (SqT.of ht'), shp_tup _, shp_tup _, _, rfl, ?_⟩
      rw [eqv_tupsB, decide_eq_true rfl]
      refine iteF ?_
      replace hA := hA.same e2
      replace k1 := k1.trans (Keep.same e2)
      replace s1 := s1.same e2
      replace g1 := e2 _ _ g1
      replace g2 := e2 _ _ g2
      clear e2 hB hC hX hX' hB' ht ht' htX hD fl fm hlen hlenB hR hm c4 d4 x4 y4 c0 d0 x0 y0 c1 d1 x1 y1
      refine ⟨_, rfl, ⟨p, n + 5 * 3, 60, rfl, s1, by omega, by decide, by decide, fun e H11 e0 e60 k2 s2 => ?_⟩⟩
      replace hA := hA.keepA s1 k2
      replace g1 := keep_atA s1 k2 g1 (fun _ => HO.noConfusion)
      replace k1 := k1.trans k2
      clear k2 s1 g2
      have cm : CMulW b e := CMulW.of (lt3000s (by omega) (by omega)) (lt3000s (by omega) (by omega))
      have be4 : (b * e).natAbs ≤ 60 * 60 := by rw [Int.natAbs_mul]; exact Nat.mul_le_mul b1 (by omega)
      have be0 := Int.mul_ne_zero b0 e0
      refine ⟨_, rfl, al, CA, dA, _, .int a, rfl, g1, RA.own.cls, RA.n2, rfl, _, rfl, fun mi dmi hmi hdmi ndm => new_alg a0 e0 (by omega) (by omega) hmi hdmi ndm fun H12 e2 hM => ⟨rfl, ?_⟩⟩
      replace g1 := e2 _ _ g1
      refine ⟨_, rfl, al, CA, dA, _, .int a, rfl, g1, RA.own.cls, RA.n2, rfl, _, rfl, al, CA, dA, _, .int b, rfl, g1, RA.own.cls, RA.n3, rfl, _, rfl, _, _, rfl, rfl, cm, fun sh dsh hsh hdsh nds => new_alg a0 be0 (by omega) (by omega) hsh hdsh nds fun H13 e3 hS => ⟨rfl, _, _, rfl, ?_⟩⟩
      have e23 := e2.trans e3
      replace g1 := e3 _ _ g1
      replace hA := hA.same e23
      replace hM := hM.same e3
      replace k1 := k1.trans (Keep.same e23)
      replace s2 := s2.same e23
      clear e2 e3 e23 hmi hdmi ndm hsh hdsh nds
      refine ⟨_, rfl, al, CA, dA, _, .int a, rfl, g1, RA.own.cls, RA.n2, rfl, _, rfl, al, CA, dA, _, .int b, rfl, g1, RA.own.cls, RA.n3, rfl, fun cp dcp hcp hdcp ndc => new_alg a0 b0 (by omega) (by omega) hcp hdcp ndc fun H14 e2 hC => ⟨rfl, ?_⟩⟩
      replace hA := hA.same e2
      replace hM := hM.same e2
      replace hS := hS.same e2
      replace k1 := k1.trans (Keep.same e2)
      replace s2 := s2.same e2
      clear e2 hcp hdcp ndc
      refine ⟨_, rfl, ⟨cp, mi, a, b, a, e, rfl, hC, hM, a4, b4, a4, by omega, fun l' m D t H15 hl' hm hD hlen e2 ht => ?_⟩⟩
      replace hA := hA.same e2
      replace hM := hM.same e2
      replace hS := hS.same e2
      replace k1 := k1.trans (Keep.same e2)
      replace s2 := s2.same e2
      clear e2 hC
      obtain ⟨dS, ps, ls, j1, j2, hLs, _⟩ := id hS.ex
      obtain rfl := sym_mul a0 b0 e0 hl' hm hD hLs
      refine ⟨_, rfl, sh, CA, dS, _, .ref ps, rfl, j1, RA.own.cls, RA.n1, rfl, _, _, dp_tup (SqT.of ht), dp_tup (SqT.of j2), shp_tup _, shp_tup _, _, rfl, ?_⟩
      rw [eqv_tupsB, decide_eq_true rfl]
      refine iteF ?_
      refine ⟨_, rfl, _, rfl, ⟨al, mi, a, b, a, e, rfl, hA, hM, a4, b4, a4, by omega, small_join a0 b0 a0 e0 a1 b1 a1 (by omega), fun l2 m2 D2 sm u v H16 hl2 hm2 hD2 hx hG e2 => ?_⟩⟩
      obtain rfl := places_unique hl' hl2
      obtain rfl := places_unique hm hm2
      obtain rfl := sym_uni hD hD2
      replace hS := hS.same e2
      replace k1 := k1.trans (Keep.same e2)
      replace s2 := s2.same e2
      replace j1 := e2 _ _ j1
      replace j2 := e2 _ _ j2
      clear e2 hl2 hm2 hD2 hA hM ht
      obtain ⟨dG, pg, lg, i1, i2, hLg, u0, v0, u9, v9⟩ := id hG.ex
      obtain rfl := places_unique hx hLg
      have p4 : CPowW 10 4 := ⟨by decide, by decide +kernel⟩
      refine ⟨_, rfl, sm, CA, dG, _, .int u, rfl, i1, RA.own.cls, RA.n2, rfl, u, rfl, _, rfl, sm, CA, dG, _, .int v, rfl, i1, RA.own.cls, RA.n3, rfl, v, rfl, _, _, rfl, ?_⟩
      refine ⟨_, _, rfl, rfl, p4, ?_⟩
      refine ⟨_, _, rfl, rfl, _, rfl, ifd (fun h => ?_) (fun h => ?_)⟩
      · have h : (if (if v < 0 then -v else v) > (if u < 0 then -u else u) then (if v < 0 then -v else v) else (if u < 0 then -u else u)) ≤ 10000 := h
        have u4 : u.natAbs ≤ 10000 := by
          revert h
          repeat' split
          all_goals omega
        have v4 : v.natAbs ≤ 10000 := by
          revert h
          repeat' split
          all_goals omega
        refine ⟨_, rfl, sh, CA, dS, _, .int (b * e), rfl, j1, RA.own.cls, RA.n3, rfl, b * e, rfl, _, _, rfl, rfl, _, rfl, ifd (fun h2 => ?_) (fun h2 => ?_)⟩
        · refine ⟨_, rfl, _, rfl, ⟨sm, sh, u, v, a, b * e, rfl, hG, hS, u4, v4, a4, by omega, fun l3 m3 hl3 hm3 => ?_⟩⟩
          obtain rfl := places_unique hx hl3
          obtain rfl := places_unique hLs hm3
          rw [decide_eq_true rfl]
          exact q _ k1 (s2.mono (by omega))
        · exact ⟨_, rfl, sm, CA, dG, _, .ref pg, rfl, i1, RA.own.cls, RA.n1, rfl, _, rfl, sh, CA, dS, _, .ref ps, rfl, j1, RA.own.cls, RA.n1, rfl, _, _, dp_tup (SqT.of i2), dp_tup (SqT.of j2), shp_tup _, shp_tup _, by
          rw [eqv_tupsB, decide_eq_true rfl]
          exact q _ k1 (s2.mono (by omega))⟩
      · exact ⟨_, rfl, _, rfl, sm, CA, dG, _, .ref pg, rfl, i1, RA.own.cls, RA.n1, rfl, _, rfl, sh, CA, dS, _, .ref ps, rfl, j1, RA.own.cls, RA.n1, rfl, _, _, dp_tup (SqT.of i2), dp_tup (SqT.of j2), shp_tup _, shp_tup _, by
          rw [eqv_tupsB, decide_eq_true rfl]
          exact q _ k1 (s2.mono (by omega))⟩
end
end Sf

namespace Sf
open PySem PySem.Spec PyProof.Rows L2
theorem prp_small {n : Nat} (h : ((List.range n).all fun k => decide (k < 2) || n % k != 0) = true) (h2 : 2 ≤ n) : PrP (n : Int) := ⟨by omega, fun k k1 k2 z => by
  have t := List.all_eq_true.mp h k.toNat (List.mem_range.mpr (by omega))
  rw [Bool.or_eq_true] at t
  have e : ((k.toNat : Nat) : Int) = k := by omega
  rcases t with t | t
  · have := of_decide_eq_true t
    omega
  · have n0 : n % k.toNat ≠ 0 := by simpa using t
    rw [← e] at z
    exact n0 (Int.ofNat_eq_zero.mp (show ((n % k.toNat : Nat) : Int) = 0 by rw [Int.natCast_emod]; exact z))⟩
theorem p11 : PrP 11 := prp_small (n := 11) (by decide +kernel) (by decide)
theorem p79 : PrP 79 := prp_small (n := 79) (by decide +kernel) (by decide)
theorem p83 : PrP 83 := prp_small (n := 83) (by decide +kernel) (by decide)
theorem p89 : PrP 89 := prp_small (n := 89) (by decide +kernel) (by decide)
theorem p97 : PrP 97 := prp_small (n := 97) (by decide +kernel) (by decide)
theorem p499 : PrP 499 := prp_small (n := 499) (by decide +kernel) (by decide)
theorem dv1 {p : Int} (h : PrP p) : ¬ (-1 : Int) % p = 0 := fun z => prime_one h (Int.dvd_neg.mp (Int.dvd_of_emod_eq_zero z))
theorem dvn {p q : Int} (h : PrP p) (g : PrP q) (z : (-q) % p = 0) : p = q := prime_dvd_prime h g (Int.dvd_neg.mp (Int.dvd_of_emod_eq_zero z))
theorem dvp {p q : Int} (h : PrP p) (g : PrP q) (z : q % p = 0) : p = q := prime_dvd_prime h g (Int.dvd_of_emod_eq_zero z)
theorem places_m1 : PlacesOf (-1) (-1) [0, 2] := by
  refine ⟨by decide, fun p => ⟨fun z => ?_, fun ⟨hp, s⟩ => ?_⟩⟩
  · have c : p = 0 ∨ p = 2 := by simpa using z
    rcases c with rfl | rfl
    · exact ⟨.inl rfl, .inl ⟨rfl, by decide⟩⟩
    · exact ⟨.inr prime2, .inr ⟨by decide, 0, 0, -1, -1, ⟨by decide, by decide⟩, ⟨by decide, by decide⟩, by unfold sgnAt; decide⟩⟩
  · rcases neg_placeA hp s with e | e | ⟨g, e | e⟩
    · simp [e]
    · simp [e]
    · exact absurd e (dv1 g)
    · exact absurd e (dv1 g)
theorem places_m11 : PlacesOf (-1) (-11) [0, 11] := by
  refine ⟨by decide, fun p => ⟨fun z => ?_, fun ⟨hp, s⟩ => ?_⟩⟩
  · have c : p = 0 ∨ p = 11 := by simpa using z
    rcases c with rfl | rfl
    · exact ⟨.inl rfl, .inl ⟨rfl, by decide⟩⟩
    · exact ⟨.inr p11, .inr ⟨by decide, 0, 1, -1, -1, ⟨by decide, by decide⟩, ⟨by decide, by decide⟩, by unfold sgnAt restSign; decide +kernel⟩⟩
  · rcases neg_placeA hp s with e | e | ⟨g, e | e⟩
    · simp [e]
    · subst e
      exact absurd (hsign_unique (.inr prime2) s (.inr ⟨by decide, 0, 0, -1, -11, ⟨by decide, by decide⟩, ⟨by decide, by decide⟩, rfl⟩)) (by unfold sgnAt; decide)
    · exact absurd e (dv1 g)
    · simp [dvn g p11 e]
theorem sym_211 : SymL [0, 2] [0, 11] [2, 11] := ⟨by decide, fun p => by
  simp only [List.mem_cons, List.not_mem_nil, or_false]
  omega⟩
theorem sym_same (l : List Int) : SymL l l [] := ⟨.nil, fun p => ⟨fun z => (by cases z), fun z => z.elim (fun k => absurd k.1 k.2) (fun k => absurd k.1 k.2)⟩⟩
theorem sign_at (p : Int) (p0 : p ≠ 0) (s t : Nat) {a b u v r : Int} (h : decide (a = p ^ s * u ∧ u % p ≠ 0 ∧ b = p ^ t * v ∧ v % p ≠ 0 ∧ r = sgnAt p s t u v) = true) : HSign a b p r := by
  obtain ⟨h1, h2, h3, h4, h5⟩ := of_decide_eq_true h
  exact .inr ⟨p0, s, t, u, v, ⟨h1, h2⟩, ⟨h3, h4⟩, h5⟩
/-- the last pair of the law -/
theorem join_last : JoinOk (-97) (-89) 83 (-79) := fun l m D hl hm h => by
  have near : ∀ p ∈ D, p = 0 ∨ p = 2 ∨ p = 89 ∨ p = 97 := fun p hp => by
    rcases (h.2 p).mp hp with ⟨z, _⟩ | ⟨z, _⟩
    · obtain ⟨hp, s⟩ := (hl.2 p).mp z
      rcases neg_placeA hp s with e | e | ⟨g, e | e⟩
      · exact .inl e
      · exact .inr (.inl e)
      · exact .inr (.inr (.inr (dvn g p97 e)))
      · exact .inr (.inr (.inl (dvn g p89 e)))
    · obtain ⟨hp, s⟩ := (hm.2 p).mp z
      rcases neg_placeA hp s with e | e | ⟨g, e | e⟩
      · exact .inl e
      · exact .inr (.inl e)
      · have e := dvp g p83 e
        subst e
        exact absurd (hsign_unique hp s (sign_at 83 (by decide) 1 0 (u := 1) (v := -79) (r := 1) (by unfold sgnAt restSign; decide +kernel))) (by decide)
      · have e := dvn g p79 e
        subst e
        exact absurd (hsign_unique hp s (sign_at 79 (by decide) 0 1 (u := 83) (v := -1) (r := 1) (by unfold sgnAt restSign; decide +kernel))) (by decide)
  have pl := sym_pls hl hm h
  refine ⟨?_, 499, ⟨p499, by decide, fun z => ?_, fun p hp => ?_⟩, by decide⟩
  · have := sym_disc hl hm h (M := 2 * 89 * 97) (by decide) fun p hP hp => by
      rcases near p hp with e | e | e | e
      · have := hP.1
        omega
      · rw [e]; decide
      · rw [e]; decide
      · rw [e]; decide
    omega
  · have := near _ z
    omega
  · rcases near p hp with e | e | e | e
    · exact .inl e
    · exact .inr (.inl e)
    · subst e
      exact .inr (.inr (by unfold restSign; decide +kernel))
    · subst e
      exact .inr (.inr (by unfold restSign; decide +kernel))
end Sf

namespace Sf
open PySem PySem.Spec PyProof.Rows L2
section
variable {P : Program} {w : World} {K : PySem.W.Frag} {mg : Str → Option Value} {base : Heap} {f : Addr} {fd : FuncData} {CR CA CF : Addr}
def spLaw (K : PySem.W.Frag) : Sp := fun vs H Q _ => ∃ (a : Addr) (ns : List Int), vs = [.ref a] ∧ SqL K H a (ns.map V.int) ∧ ns.length ≤ 63 ∧ ∀ H', Q (.bl true) H'
set_option maxHeartbeats 16000000 in
theorem ok_law (F : FnD K "law" "law" s_L_law f fd) (T : Glob mg) (RA : AlgK K CA) (C_L_jug : Cal P w K mg base 1 "_law_jug" ["_law_script", "_law_spot"] (spSack K)) (C_L_right : Cal P w K mg base 11 "_law_right" ["_law_jug_here"] spRight) (C_P_joined_places : Cal P w K mg base 5 "joined_places" ["one", "other"] (spOne CA)) (C_P_joined : Cal P w K mg base 9 "joined" ["one", "other"] (spJoined CA)) (C_L_is_joined : Cal P w K mg base 10 "_law_is_joined" ["_law_one", "_law_other"] (spIsJ CA))
    (N_Algebra_2 : CalC P w K mg base 6 "Algebra" CA ["self", "a", "b"] [] (spAlgInit CA)) :
    FnOk P w K mg base CX0 12 f fd ["_law_script"] (spLaw K) := by
  refine F.ok sc_L_law (fun vs H Q E h => ?_) (fun cdv A outer s H vs Q E hr h => ?_)
  · obtain ⟨a, ns, rfl, _⟩ := h; rfl
  · obtain ⟨a, ns, rfl, hS, hl, q⟩ := h
    refine ⟨_, PSs.nox (pss_cons (ps_for PassesOwn.never rfl (pi_range1 (by rfl) T.m_range (pa_cons (pe_callB (call_max2 rfl) (by rfl) T.m_max (by decide +kernel) (pa_cons pe_int (pa_cons (pe_callB (call_min2 rfl) (by rfl) T.m_min (by decide +kernel) (pa_cons pe_int (pa_cons (pe_callB call_len_seq (by rfl) T.m_len (by decide +kernel) (pa_cons (pv 0) pa_nil)) pa_nil))) pa_nil))) pa_nil)) (pg_name (i := 1) sc_L_law.nd rfl (Or.inl rfl)) (pss_one (ps_if (pt_not (pt_val (pe_cal C_L_right (hr.mono (by decide)) (pa_cons (pe_cal C_L_jug (hr.mono (by decide)) (pa_cons (pv 0) (pa_cons (pv 1) pa_nil))) pa_nil)))) (pss_one (ps_ret pe_bl)) pss_nil)))
      (pss_cons (ps_par (i := 2) (j := 3) (by rfl) sc_L_law.nd rfl rfl (by decide) rfl rfl (pa_cons (pe_new N_Algebra_2 (hr.mono (by decide)) (pa_cons (pe_un un_neg pe_int) (pa_cons (pe_un un_neg pe_int) pa_nil))) (pa_cons (pe_new N_Algebra_2 (hr.mono (by decide)) (pa_cons (pe_un un_neg pe_int) (pa_cons (pe_un un_neg pe_int) pa_nil))) pa_nil)) (by rfl))
      (pss_cons (ps_set (i := 4) sc_L_law.nd rfl (Or.inl rfl) (pe_lst (pa_cons (pe_cal C_P_joined_places (hr.mono (by decide)) (pa_cons (pv 2) (pa_cons (pv 3) pa_nil))) (pa_cons (pe_fld (pe_cal C_P_joined (hr.mono (by decide)) (pa_cons (pv 2) (pa_cons (pv 3) pa_nil))) rfl) (pa_cons (pe_cal C_P_joined_places (hr.mono (by decide)) (pa_cons (pv 3) (pa_cons (pv 3) pa_nil))) (pa_cons (pe_fld (pe_cal C_P_joined (hr.mono (by decide)) (pa_cons (pv 2) (pa_cons (pv 2) pa_nil))) rfl) pa_nil))))))
      (pss_one (ps_ret (pe_and (pe_cmpR (op_eqD hr.units) (pv 4) (pe_lst (pa_cons (pe_tup (pa_cons pe_int (pa_cons pe_int pa_nil))) (pa_cons (pe_tup (pa_cons pe_int (pa_cons pe_int pa_nil))) (pa_cons (pe_tup pa_nil) (pa_cons (pe_tup pa_nil) pa_nil))))) (nomark _)) (pe_one (pe_cal C_L_is_joined (hr.mono (by decide)) (pa_cons (pe_new N_Algebra_2 (hr.mono (by decide)) (pa_cons (pe_un un_neg pe_int) (pa_cons (pe_un un_neg pe_int) pa_nil))) (pa_cons (pe_new N_Algebra_2 (hr.mono (by decide)) (pa_cons pe_int (pa_cons (pe_un un_neg pe_int) pa_nil))) pa_nil)))))))))), ?_⟩
    have hT : ∀ n : Nat, ∃ t : Nat, (if (if (n : Int) < 3 then (n : Int) else 3) > 1 then (if (n : Int) < 3 then (n : Int) else 3) else 1) = (t : Int) ∧ t ≤ 3 := fun n => by
      by_cases c : n < 3
      · by_cases c2 : n > 1
        · exact ⟨n, by rw [if_pos (by omega : (n : Int) < 3), if_pos (by omega)], by omega⟩
        · exact ⟨1, by rw [if_pos (by omega : (n : Int) < 3), if_neg (by omega)]; rfl, by omega⟩
      · exact ⟨3, by rw [if_neg (by omega : ¬ (n : Int) < 3), if_pos (by decide)]; rfl, by omega⟩
    obtain ⟨t, et, ht⟩ := hT (ns.map V.int).length
    refine ⟨_, rfl, a, _, rfl, .inl hS, _, _, rfl, _, _, rfl, (t : Int), ?_, by omega, by omega, ?_⟩
    · rw [← et]
    refine for_range (lo := 0) (n := t) (fun i σ H' => ∃ v1, σ = [some (.ref a), v1, none, none, none] ∧ Same H H') ⟨none, rfl, Same.refl H⟩ ?_ ?_
    · rintro i σ H0 hi ⟨v1, rfl, hs0⟩
      refine ⟨_, rfl, _, rfl, a, ns, i, by rw [Int.zero_add]; rfl, hs0.seq hS, hl, by omega, fun p xs H1 e1 hpn hp1 hxs => ?_⟩
      have s1 : Sk p 0 H1 := ⟨xs, hp1, hxs⟩
      refine ⟨p, 0, rfl, s1, by decide, fun H2 k2 s2 => ⟨_, rfl, ?_⟩⟩
      refine ⟨_, rfl, fun b o e => ?_⟩
      have e1' := e1 _ _ (hs0 _ _ e)
      have nb : b ≠ p := fun z => by
        rw [z] at e
        have := hs0 _ _ e
        rw [hpn] at this
        cases this
      exact k2 _ _ e1' nb
    · rintro σ H0 ⟨v1, rfl, hs0⟩
      clear hs0 hS
      refine ⟨_, rfl, _, rfl, fun al dal hal hdal nda => new_alg (a := -1) (b := -1) (by decide) (by decide) (by decide) (by decide) hal hdal nda fun H1 e1 hA => ⟨rfl, ?_⟩⟩
      refine ⟨_, rfl, _, rfl, fun be dbe hbe hdbe ndb => new_alg (a := -1) (b := -11) (by decide) (by decide) (by decide) (by decide) hbe hdbe ndb fun H2 e2 hB => ⟨rfl, _, _, rfl, ?_⟩⟩
      replace hA := hA.same e2
      clear e1 e2 hal hdal nda hbe hdbe ndb
      have m1 : (-1 : Int).natAbs ≤ 10000 := by decide
      have m11 : (-11 : Int).natAbs ≤ 10000 := by decide
      refine ⟨_, rfl, _, rfl, ⟨al, be, -1, -1, -1, -11, rfl, hA, hB, m1, m1, m1, m11, fun l m D t1 H3 hl hm hD _ e3 h1 => ?_⟩⟩
      obtain rfl := places_unique places_m1 hl
      obtain rfl := places_unique places_m11 hm
      obtain rfl := sym_uni sym_211 hD
      clear hl hm hD
      refine ⟨_, rfl, _, rfl, ⟨al, be, -1, -1, -1, -11, rfl, hA.same e3, hB.same e3, m1, m1, m1, m11, small_join (by decide) (by decide) (by decide) (by decide) (by decide) (by decide) (by decide) (by decide), fun l m D ga u v H4 hl hm hD hx hG e4 => ?_⟩⟩
      obtain rfl := places_unique places_m1 hl
      obtain rfl := places_unique places_m11 hm
      obtain rfl := sym_uni sym_211 hD
      obtain ⟨dG, pg, lg, i1, i2, hLg, _⟩ := id hG.ex
      obtain rfl := places_unique hx hLg
      clear hl hm hD hG
      replace h1 := e4 _ _ h1
      replace hA := (hA.same e3).same e4
      replace hB := (hB.same e3).same e4
      clear e3 e4
      refine ⟨ga, CA, dG, _, .ref pg, rfl, i1, RA.own.cls, RA.n1, rfl, ?_⟩
      refine ⟨_, rfl, _, rfl, ⟨be, be, -1, -11, -1, -11, rfl, hB, hB, m1, m11, m1, m11, fun l m D t3 H5 hl hm hD _ e3 h3 => ?_⟩⟩
      obtain rfl := places_unique places_m11 hl
      obtain rfl := places_unique places_m11 hm
      obtain rfl := sym_uni (sym_same _) hD
      clear hl hm hD
      replace h1 := e3 _ _ h1
      replace i2 := e3 _ _ i2
      replace hA := hA.same e3
      clear e3 i1
      refine ⟨_, rfl, _, rfl, ⟨al, al, -1, -1, -1, -1, rfl, hA, hA, m1, m1, m1, m1, small_join (by decide) (by decide) (by decide) (by decide) (by decide) (by decide) (by decide) (by decide), fun l m D ga2 u2 v2 H6 hl hm hD hx2 hG e4 => ?_⟩⟩
      obtain rfl := places_unique places_m1 hl
      obtain rfl := places_unique places_m1 hm
      obtain rfl := sym_uni (sym_same _) hD
      obtain ⟨dG2, pg2, lg2, i3, i4, hLg2, _⟩ := id hG.ex
      obtain rfl := places_unique hx2 hLg2
      clear hl hm hD hG
      replace h1 := e4 _ _ h1
      replace h3 := e4 _ _ h3
      replace i2 := e4 _ _ i2
      clear e4
      refine ⟨ga2, CA, dG2, _, .ref pg2, rfl, i3, RA.own.cls, RA.n1, rfl, ?_⟩
      refine ⟨(by show 4 ≤ sizeLine; decide), fun L1 hL1 => ?_⟩
      have n1 := same_upd (o := .lst [.ref t1, .ref pg, .ref t3, .ref pg2]) hL1
      have gL : upd H6 L1 (.lst [.ref t1, .ref pg, .ref t3, .ref pg2]) L1 = some (.lst [.ref t1, .ref pg, .ref t3, .ref pg2]) := upd_same
      generalize upd H6 L1 (.lst [.ref t1, .ref pg, .ref t3, .ref pg2]) = G0 at *
      refine ⟨_, rfl, (by show 2 ≤ sizeLine; decide), fun ta hta => ⟨(by show 2 ≤ sizeLine; decide), fun tb htb => ⟨(by show 0 ≤ sizeLine; decide), fun tc htc => ⟨(by show 0 ≤ sizeLine; decide), fun td htd => ⟨(by show 4 ≤ sizeLine; decide), fun L2 hL2 => ?_⟩⟩⟩⟩⟩
      have sa := same_upd (o := .tup (([2, 11] : List Int).map V.int)) hta
      have ga' : upd G0 ta (.tup (([2, 11] : List Int).map V.int)) ta = some (.tup (([2, 11] : List Int).map V.int)) := upd_same
      have sb := same_upd (o := .tup (([2, 11] : List Int).map V.int)) htb
      have sc := same_upd (o := .tup (([] : List Int).map V.int)) htc
      have sd := same_upd (o := .tup (([] : List Int).map V.int)) htd
      have se := same_upd (o := .lst [.ref ta, .ref tb, .ref tc, .ref td]) hL2
      have c4 := sd.trans se
      have c3 := sc.trans c4
      have c2 := sb.trans c3
      have c1 := sa.trans c2
      have c0 := n1.trans c1
      refine ⟨_, _, .lst (SqL.of (c1 _ _ gL)) (.cons (dp_tup (SqT.of (c0 _ _ h1))) (.cons (dp_tup (SqT.of (c0 _ _ i2))) (.cons (dp_tup (SqT.of (c0 _ _ h3))) (.cons (dp_tup (SqT.of (c0 _ _ i4))) .nil)))), .lst (SqL.of upd_same) (.cons (dp_tup (SqT.of (c2 _ _ ga'))) (.cons (dp_tup (ns := [2, 11]) (SqT.of (c3 _ _ upd_same))) (.cons (dp_tup (ns := []) (SqT.of (c4 _ _ upd_same))) (.cons (dp_tup (ns := []) (SqT.of (se _ _ upd_same))) .nil)))), rfl, rfl, ?_⟩
      have ee : (PyData.list [PyData.tuple (List.map PyData.int [2, 11]), PyData.tuple (List.map PyData.int [2, 11]), PyData.tuple (List.map PyData.int []), PyData.tuple (List.map PyData.int [])]).eqv (PyData.list [PyData.tuple (List.map PyData.int [2, 11]), PyData.tuple (List.map PyData.int [2, 11]), PyData.tuple (List.map PyData.int []), PyData.tuple (List.map PyData.int [])]) = true := by decide +kernel
      rw [ee]
      refine ⟨_, rfl, (if_pos rfl).mpr ?_⟩
      refine ⟨_, rfl, _, rfl, fun x1 y1 hx1 hy1 nd1 => new_alg (a := -97) (b := -89) (by decide) (by decide) (by decide) (by decide) hx1 hy1 nd1 fun G1 q1 hX => ⟨rfl, ?_⟩⟩
      refine ⟨_, rfl, fun x2 y2 hx2 hy2 nd2 => new_alg (a := 83) (b := -79) (by decide) (by decide) (by decide) (by decide) hx2 hy2 nd2 fun G2 q2 hY => ⟨rfl, ?_⟩⟩
      exact ⟨x1, x2, -97, -89, 83, -79, rfl, hX.same q2, hY, by decide, by decide, by decide, by decide, join_last, fun H' _ => q H'⟩
end
end Sf

namespace Sf
open PySem PySem.Spec PyProof.Rows L2
theorem facts {P : Program} {w : World} {K : PySem.W.Frag} {h : Heap} {mg : Str → Option Value} {f : Addr} (X : K.In h) (G : h.Ns mainGlobals mg) (hfa : mg ("law" : Str) = some (.ref f)) (c : He.SaysD fa fn K) (z : ex K = true) :
    ∃ fd : FuncData, (∀ (s : Shared) (v : Value), BindsTo s fd ⟨[v], []⟩ [("_law_script", v)]) ∧ ∀ base : Heap, K.In base → base.Ns mainGlobals mg → FnOk P w K mg base CX0 12 f fd ["_law_script"] (spLaw K) := by
  obtain ⟨fd_L_jug, F_L_jug⟩ := c.def_ 0 (d := d_L_jug) rfl
  have g_L_jug := He.glo_ok X G (c.fact 0 (f := .glo "_law_jug") rfl)
  obtain ⟨fd_L_pour, F_L_pour⟩ := c.def_ 1 (d := d_L_pour) rfl
  have g_L_pour := He.glo_ok X G (c.fact 1 (f := .glo "_law_pour") rfl)
  obtain ⟨fd_L_of, F_L_of⟩ := c.def_ 2 (d := d_L_of) rfl
  have g_L_of := He.glo_ok X G (c.fact 2 (f := .glo "_law_of") rfl)
  obtain ⟨fd_L_drawn, F_L_drawn⟩ := c.def_ 3 (d := d_L_drawn) rfl
  have g_L_drawn := He.glo_ok X G (c.fact 3 (f := .glo "_law_drawn") rfl)
  obtain ⟨fd_L_small_pair, F_L_small_pair⟩ := c.def_ 4 (d := d_L_small_pair) rfl
  have g_L_small_pair := He.glo_ok X G (c.fact 4 (f := .glo "_law_small_pair") rfl)
  obtain ⟨fd_L_apart, F_L_apart⟩ := c.def_ 5 (d := d_L_apart) rfl
  have g_L_apart := He.glo_ok X G (c.fact 5 (f := .glo "_law_apart") rfl)
  obtain ⟨fd_L_parts, F_L_parts⟩ := c.def_ 6 (d := d_L_parts) rfl
  have g_L_parts := He.glo_ok X G (c.fact 6 (f := .glo "_law_parts") rfl)
  obtain ⟨fd_L_bare, F_L_bare⟩ := c.def_ 7 (d := d_L_bare) rfl
  have g_L_bare := He.glo_ok X G (c.fact 7 (f := .glo "_law_bare") rfl)
  obtain ⟨fd_L_residue, F_L_residue⟩ := c.def_ 8 (d := d_L_residue) rfl
  have g_L_residue := He.glo_ok X G (c.fact 8 (f := .glo "_law_residue") rfl)
  obtain ⟨fd_L_sign, F_L_sign⟩ := c.def_ 9 (d := d_L_sign) rfl
  have g_L_sign := He.glo_ok X G (c.fact 9 (f := .glo "_law_sign") rfl)
  obtain ⟨fd_L_places, F_L_places⟩ := c.def_ 10 (d := d_L_places) rfl
  have g_L_places := He.glo_ok X G (c.fact 10 (f := .glo "_law_places") rfl)
  obtain ⟨fd_P_check_algebra, F_P_check_algebra⟩ := c.def_ 11 (d := d_P_check_algebra) rfl
  have g_P_check_algebra := He.glo_ok X G (c.fact 11 (f := .glo "check_algebra") rfl)
  obtain ⟨fd_P_check_side, F_P_check_side⟩ := c.def_ 12 (d := d_P_check_side) rfl
  have g_P_check_side := He.glo_ok X G (c.fact 12 (f := .glo "check_side") rfl)
  obtain ⟨fd_P_check_sides, F_P_check_sides⟩ := c.def_ 13 (d := d_P_check_sides) rfl
  have g_P_check_sides := He.glo_ok X G (c.fact 13 (f := .glo "check_sides") rfl)
  obtain ⟨fd_P_places_of_both, F_P_places_of_both⟩ := c.def_ 14 (d := d_P_places_of_both) rfl
  have g_P_places_of_both := He.glo_ok X G (c.fact 14 (f := .glo "places_of_both") rfl)
  obtain ⟨fd_P_places_of_one, F_P_places_of_one⟩ := c.def_ 15 (d := d_P_places_of_one) rfl
  have g_P_places_of_one := He.glo_ok X G (c.fact 15 (f := .glo "places_of_one") rfl)
  obtain ⟨fd_P_joined_places, F_P_joined_places⟩ := c.def_ 16 (d := d_P_joined_places) rfl
  have g_P_joined_places := He.glo_ok X G (c.fact 16 (f := .glo "joined_places") rfl)
  obtain ⟨fd_P_product_of_primes, F_P_product_of_primes⟩ := c.def_ 17 (d := d_P_product_of_primes) rfl
  have g_P_product_of_primes := He.glo_ok X G (c.fact 17 (f := .glo "product_of_primes") rfl)
  obtain ⟨fd_P_stripped, F_P_stripped⟩ := c.def_ 18 (d := d_P_stripped) rfl
  have g_P_stripped := He.glo_ok X G (c.fact 18 (f := .glo "stripped") rfl)
  obtain ⟨fd_P_quarter, F_P_quarter⟩ := c.def_ 19 (d := d_P_quarter) rfl
  have g_P_quarter := He.glo_ok X G (c.fact 19 (f := .glo "quarter") rfl)
  obtain ⟨fd_P_eighth, F_P_eighth⟩ := c.def_ 20 (d := d_P_eighth) rfl
  have g_P_eighth := He.glo_ok X G (c.fact 20 (f := .glo "eighth") rfl)
  obtain ⟨fd_P_sign_at_two, F_P_sign_at_two⟩ := c.def_ 21 (d := d_P_sign_at_two) rfl
  have g_P_sign_at_two := He.glo_ok X G (c.fact 21 (f := .glo "sign_at_two") rfl)
  obtain ⟨fd_P_power_modulo, F_P_power_modulo⟩ := c.def_ 22 (d := d_P_power_modulo) rfl
  have g_P_power_modulo := He.glo_ok X G (c.fact 22 (f := .glo "power_modulo") rfl)
  obtain ⟨fd_P_rest_sign, F_P_rest_sign⟩ := c.def_ 23 (d := d_P_rest_sign) rfl
  have g_P_rest_sign := He.glo_ok X G (c.fact 23 (f := .glo "rest_sign") rfl)
  obtain ⟨fd_P_sign_at_odd, F_P_sign_at_odd⟩ := c.def_ 24 (d := d_P_sign_at_odd) rfl
  have g_P_sign_at_odd := He.glo_ok X G (c.fact 24 (f := .glo "sign_at_odd") rfl)
  obtain ⟨fd_P_sign, F_P_sign⟩ := c.def_ 25 (d := d_P_sign) rfl
  have g_P_sign := He.glo_ok X G (c.fact 25 (f := .glo "sign") rfl)
  obtain ⟨fd_P_has_places, F_P_has_places⟩ := c.def_ 26 (d := d_P_has_places) rfl
  have g_P_has_places := He.glo_ok X G (c.fact 26 (f := .glo "has_places") rfl)
  obtain ⟨fd_P_is_integer, F_P_is_integer⟩ := c.def_ 27 (d := d_P_is_integer) rfl
  have g_P_is_integer := He.glo_ok X G (c.fact 27 (f := .glo "is_integer") rfl)
  obtain ⟨fd_P_next_divisor, F_P_next_divisor⟩ := c.def_ 28 (d := d_P_next_divisor) rfl
  have g_P_next_divisor := He.glo_ok X G (c.fact 28 (f := .glo "next_divisor") rfl)
  obtain ⟨fd_P_is_prime, F_P_is_prime⟩ := c.def_ 29 (d := d_P_is_prime) rfl
  have g_P_is_prime := He.glo_ok X G (c.fact 29 (f := .glo "is_prime") rfl)
  obtain ⟨fd_P_check_number, F_P_check_number⟩ := c.def_ 30 (d := d_P_check_number) rfl
  have g_P_check_number := He.glo_ok X G (c.fact 30 (f := .glo "check_number") rfl)
  obtain ⟨fd_P_prime_powers, F_P_prime_powers⟩ := c.def_ 31 (d := d_P_prime_powers) rfl
  have g_P_prime_powers := He.glo_ok X G (c.fact 31 (f := .glo "prime_powers") rfl)
  obtain ⟨fd_P_factors, F_P_factors⟩ := c.def_ 32 (d := d_P_factors) rfl
  have g_P_factors := He.glo_ok X G (c.fact 32 (f := .glo "factors") rfl)
  obtain ⟨fd_P_signed_places, F_P_signed_places⟩ := c.def_ 33 (d := d_P_signed_places) rfl
  have g_P_signed_places := He.glo_ok X G (c.fact 33 (f := .glo "signed_places") rfl)
  obtain ⟨fd_P_Algebra___init__, F_P_Algebra___init__⟩ := c.def_ 34 (d := d_P_Algebra___init__) rfl
  obtain ⟨fd_P_algebra_with, F_P_algebra_with⟩ := c.def_ 35 (d := d_P_algebra_with) rfl
  have g_P_algebra_with := He.glo_ok X G (c.fact 34 (f := .glo "algebra_with") rfl)
  obtain ⟨fd_P_joined, F_P_joined⟩ := c.def_ 36 (d := d_P_joined) rfl
  have g_P_joined := He.glo_ok X G (c.fact 35 (f := .glo "joined") rfl)
  obtain ⟨fd_L_is_joined, F_L_is_joined⟩ := c.def_ 37 (d := d_L_is_joined) rfl
  have g_L_is_joined := He.glo_ok X G (c.fact 36 (f := .glo "_law_is_joined") rfl)
  obtain ⟨fd_P_are_alike, F_P_are_alike⟩ := c.def_ 38 (d := d_P_are_alike) rfl
  have g_P_are_alike := He.glo_ok X G (c.fact 37 (f := .glo "are_alike") rfl)
  obtain ⟨fd_L_right, F_L_right⟩ := c.def_ 39 (d := d_L_right) rfl
  have g_L_right := He.glo_ok X G (c.fact 38 (f := .glo "_law_right") rfl)
  obtain ⟨fd_L_law, F_L_law⟩ := c.def_ 40 (d := d_L_law) rfl
  have g_L_law := He.glo_ok X G (c.fact 39 (f := .glo "law") rfl)
  have e := hfa.symm.trans g_L_law
  cases e
  have z0 := z
  obtain ⟨y1, z1⟩ := He.ba z0
  have own_Algebra : OwnK K (He.ga K "Algebra") := ownB_ok (He.cls_ok (c.fact 57 (f := .cls "Algebra") rfl)) y1
  have T : Glob mg := ⟨He.free_ok X G (c.fact 40 (f := .free "isinstance") rfl), He.free_ok X G (c.fact 41 (f := .free "int") rfl), He.free_ok X G (c.fact 42 (f := .free "bool") rfl), He.free_ok X G (c.fact 43 (f := .free "abs") rfl), He.free_ok X G (c.fact 44 (f := .free "sorted") rfl), He.free_ok X G (c.fact 45 (f := .free "tuple") rfl), He.free_ok X G (c.fact 46 (f := .free "set") rfl), He.free_ok X G (c.fact 47 (f := .free "len") rfl), He.free_ok X G (c.fact 48 (f := .free "all") rfl), He.free_ok X G (c.fact 49 (f := .free "max") rfl), He.free_ok X G (c.fact 50 (f := .free "sum") rfl), He.free_ok X G (c.fact 51 (f := .free "range") rfl), He.free_ok X G (c.fact 52 (f := .free "min") rfl), He.int_ok X G (c.fact 53 (f := .int "MAX_NUMBER" 1000000000) rfl), He.int_ok X G (c.fact 54 (f := .int "MAX_JOINED" 100000000) rfl), He.int_ok X G (c.fact 55 (f := .int "MAX_SIDE" 10000) rfl)⟩
  have b := FunD.bindsA (ps := ["_law_script"]) F_L_law fun _ _ _ _ _ _ us hl => match us, hl with | [_], _ => rfl
  refine ⟨fd_L_law, fun s v => b s [v] rfl, fun base _ _ => ?_⟩
  have C_L_jug : Cal P w K mg base 1 "_law_jug" ["_law_script", "_law_spot"] (spSack K) := ⟨_, fd_L_jug, ok_jug F_L_jug T, g_L_jug, F_L_jug.kp, F_L_jug.bindsN fun _ _ _ _ _ _ us hl => match us, hl with | [_, _], _ => rfl⟩
  have C_L_pour : Cal P w K mg base 1 "_law_pour" ["_law_jug_here", "_law_many"] spTake := ⟨_, fd_L_pour, ok_pour F_L_pour T, g_L_pour, F_L_pour.kp, F_L_pour.bindsN fun _ _ _ _ _ _ us hl => match us, hl with | [_, _], _ => rfl⟩
  have C_L_of : Cal P w K mg base 2 "_law_of" ["_law_jug_here", "_law_items"] (spOneOf K) := ⟨_, fd_L_of, ok_of F_L_of T C_L_pour, g_L_of, F_L_of.kp, F_L_of.bindsN fun _ _ _ _ _ _ us hl => match us, hl with | [_, _], _ => rfl⟩
  have C_L_drawn : Cal P w K mg base 2 "_law_drawn" ["_law_jug_here", "_law_most"] spDraw := ⟨_, fd_L_drawn, ok_drawn F_L_drawn T C_L_pour, g_L_drawn, F_L_drawn.kp, F_L_drawn.bindsN fun _ _ _ _ _ _ us hl => match us, hl with | [_, _], _ => rfl⟩
  have C_L_small_pair : Cal P w K mg base 3 "_law_small_pair" ["_law_jug_here"] spKPair := ⟨_, fd_L_small_pair, ok_small_pair F_L_small_pair T C_L_of C_L_drawn, g_L_small_pair, F_L_small_pair.kp, F_L_small_pair.bindsN fun _ _ _ _ _ _ us hl => match us, hl with | [_], _ => rfl⟩
  have C_L_apart : Cal P w K mg base 1 "_law_apart" ["_law_one", "_law_other"] spApart := ⟨_, fd_L_apart, ok_apart F_L_apart T, g_L_apart, F_L_apart.kp, F_L_apart.bindsN fun _ _ _ _ _ _ us hl => match us, hl with | [_, _], _ => rfl⟩
  have C_L_parts : Cal P w K mg base 1 "_law_parts" ["_law_number"] spLPart := ⟨_, fd_L_parts, ok_lparts F_L_parts T, g_L_parts, F_L_parts.kp, F_L_parts.bindsN fun _ _ _ _ _ _ us hl => match us, hl with | [_], _ => rfl⟩
  have C_L_bare : Cal P w K mg base 1 "_law_bare" ["_law_number", "_law_prime"] spBare := ⟨_, fd_L_bare, ok_bare F_L_bare T, g_L_bare, F_L_bare.kp, F_L_bare.bindsN fun _ _ _ _ _ _ us hl => match us, hl with | [_, _], _ => rfl⟩
  have C_L_residue : Cal P w K mg base 1 "_law_residue" ["_law_number", "_law_prime"] spResidue := ⟨_, fd_L_residue, ok_residue F_L_residue T, g_L_residue, F_L_residue.kp, F_L_residue.bindsN fun _ _ _ _ _ _ us hl => match us, hl with | [_, _], _ => rfl⟩
  have C_L_sign : Cal P w K mg base 2 "_law_sign" ["_law_a", "_law_b", "_law_place"] spLSign := ⟨_, fd_L_sign, ok_lsign F_L_sign T C_L_bare C_L_residue, g_L_sign, F_L_sign.kp, F_L_sign.bindsN fun _ _ _ _ _ _ us hl => match us, hl with | [_, _, _], _ => rfl⟩
  have C_L_places : Cal P w K mg base 3 "_law_places" ["_law_a", "_law_b"] spLPl := ⟨_, fd_L_places, ok_lplaces F_L_places T C_L_parts C_L_sign, g_L_places, F_L_places.kp, F_L_places.bindsN fun _ _ _ _ _ _ us hl => match us, hl with | [_, _], _ => rfl⟩
  have C_P_check_algebra : Cal P w K mg base 1 "check_algebra" ["value"] (spIsAlg (He.ga K "Algebra")) := ⟨_, fd_P_check_algebra, ok_check_algebra F_P_check_algebra T (⟨own_Algebra, He.noat_ok (c.fact 58 (f := .noat "Algebra" "places") rfl), He.noat_ok (c.fact 59 (f := .noat "Algebra" "a") rfl), He.noat_ok (c.fact 60 (f := .noat "Algebra" "b") rfl), He.noat_ok (c.fact 61 (f := .noat "Algebra" "discriminant") rfl), He.noat_ok (c.fact 62 (f := .noat "Algebra" "is_tables") rfl), He.noat_ok (c.fact 63 (f := .noat "Algebra" "is_definite") rfl)⟩ : AlgK K (He.ga K "Algebra")) (He.glo_ok X G (c.fact 56 (f := .glo "Algebra") rfl)), g_P_check_algebra, F_P_check_algebra.kp, F_P_check_algebra.bindsN fun _ _ _ _ _ _ us hl => match us, hl with | [_], _ => rfl⟩
  have C_P_check_side : Cal P w K mg base 1 "check_side" ["algebra"] (spSide (He.ga K "Algebra")) := ⟨_, fd_P_check_side, ok_check_side F_P_check_side T (⟨own_Algebra, He.noat_ok (c.fact 58 (f := .noat "Algebra" "places") rfl), He.noat_ok (c.fact 59 (f := .noat "Algebra" "a") rfl), He.noat_ok (c.fact 60 (f := .noat "Algebra" "b") rfl), He.noat_ok (c.fact 61 (f := .noat "Algebra" "discriminant") rfl), He.noat_ok (c.fact 62 (f := .noat "Algebra" "is_tables") rfl), He.noat_ok (c.fact 63 (f := .noat "Algebra" "is_definite") rfl)⟩ : AlgK K (He.ga K "Algebra")), g_P_check_side, F_P_check_side.kp, F_P_check_side.bindsN fun _ _ _ _ _ _ us hl => match us, hl with | [_], _ => rfl⟩
  have C_P_check_sides : Cal P w K mg base 2 "check_sides" ["one", "other"] (spSides (He.ga K "Algebra")) := ⟨_, fd_P_check_sides, ok_check_sides F_P_check_sides C_P_check_algebra C_P_check_side, g_P_check_sides, F_P_check_sides.kp, F_P_check_sides.bindsN fun _ _ _ _ _ _ us hl => match us, hl with | [_, _], _ => rfl⟩
  have C_P_places_of_both : Cal P w K mg base 3 "places_of_both" ["one", "other"] (spBoth (He.ga K "Algebra")) := ⟨_, fd_P_places_of_both, ok_places_of_both F_P_places_of_both T (⟨own_Algebra, He.noat_ok (c.fact 58 (f := .noat "Algebra" "places") rfl), He.noat_ok (c.fact 59 (f := .noat "Algebra" "a") rfl), He.noat_ok (c.fact 60 (f := .noat "Algebra" "b") rfl), He.noat_ok (c.fact 61 (f := .noat "Algebra" "discriminant") rfl), He.noat_ok (c.fact 62 (f := .noat "Algebra" "is_tables") rfl), He.noat_ok (c.fact 63 (f := .noat "Algebra" "is_definite") rfl)⟩ : AlgK K (He.ga K "Algebra")), g_P_places_of_both, F_P_places_of_both.kp, F_P_places_of_both.bindsN fun _ _ _ _ _ _ us hl => match us, hl with | [_, _], _ => rfl⟩
  have C_P_places_of_one : Cal P w K mg base 4 "places_of_one" ["one", "other"] (spOne (He.ga K "Algebra")) := ⟨_, fd_P_places_of_one, ok_places_of_one F_P_places_of_one T (⟨own_Algebra, He.noat_ok (c.fact 58 (f := .noat "Algebra" "places") rfl), He.noat_ok (c.fact 59 (f := .noat "Algebra" "a") rfl), He.noat_ok (c.fact 60 (f := .noat "Algebra" "b") rfl), He.noat_ok (c.fact 61 (f := .noat "Algebra" "discriminant") rfl), He.noat_ok (c.fact 62 (f := .noat "Algebra" "is_tables") rfl), He.noat_ok (c.fact 63 (f := .noat "Algebra" "is_definite") rfl)⟩ : AlgK K (He.ga K "Algebra")) C_P_places_of_both, g_P_places_of_one, F_P_places_of_one.kp, F_P_places_of_one.bindsN fun _ _ _ _ _ _ us hl => match us, hl with | [_, _], _ => rfl⟩
  have C_P_joined_places : Cal P w K mg base 5 "joined_places" ["one", "other"] (spOne (He.ga K "Algebra")) := ⟨_, fd_P_joined_places, ok_joined_places F_P_joined_places C_P_check_sides C_P_places_of_one, g_P_joined_places, F_P_joined_places.kp, F_P_joined_places.bindsN fun _ _ _ _ _ _ us hl => match us, hl with | [_, _], _ => rfl⟩
  have C_P_product_of_primes : Cal P w K mg base 1 "product_of_primes" ["places"] spDisc := ⟨_, fd_P_product_of_primes, ok_product_of_primes F_P_product_of_primes , g_P_product_of_primes, F_P_product_of_primes.kp, F_P_product_of_primes.bindsN fun _ _ _ _ _ _ us hl => match us, hl with | [_], _ => rfl⟩
  have C_P_stripped : Cal P w K mg base 1 "stripped" ["number", "prime"] spStripped := ⟨_, fd_P_stripped, ok_stripped F_P_stripped , g_P_stripped, F_P_stripped.kp, F_P_stripped.bindsN fun _ _ _ _ _ _ us hl => match us, hl with | [_, _], _ => rfl⟩
  have C_P_quarter : Cal P w K mg base 1 "quarter" ["unit"] spQuarter := ⟨_, fd_P_quarter, ok_quarter F_P_quarter , g_P_quarter, F_P_quarter.kp, F_P_quarter.bindsN fun _ _ _ _ _ _ us hl => match us, hl with | [_], _ => rfl⟩
  have C_P_eighth : Cal P w K mg base 1 "eighth" ["unit"] spEighth := ⟨_, fd_P_eighth, ok_eighth F_P_eighth , g_P_eighth, F_P_eighth.kp, F_P_eighth.bindsN fun _ _ _ _ _ _ us hl => match us, hl with | [_], _ => rfl⟩
  have C_P_sign_at_two : Cal P w K mg base 2 "sign_at_two" ["a", "b"] (spSgn true) := ⟨_, fd_P_sign_at_two, ok_sign_at_two F_P_sign_at_two C_P_stripped C_P_quarter C_P_eighth, g_P_sign_at_two, F_P_sign_at_two.kp, F_P_sign_at_two.bindsN fun _ _ _ _ _ _ us hl => match us, hl with | [_, _], _ => rfl⟩
  have C_P_power_modulo : Cal P w K mg base 1 "power_modulo" ["number", "many", "modulus"] spPowMod := ⟨_, fd_P_power_modulo, ok_powmod F_P_power_modulo , g_P_power_modulo, F_P_power_modulo.kp, F_P_power_modulo.bindsN fun _ _ _ _ _ _ us hl => match us, hl with | [_, _, _], _ => rfl⟩
  have C_P_rest_sign : Cal P w K mg base 2 "rest_sign" ["number", "prime"] spRestSign := ⟨_, fd_P_rest_sign, ok_rest_sign F_P_rest_sign C_P_power_modulo, g_P_rest_sign, F_P_rest_sign.kp, F_P_rest_sign.bindsN fun _ _ _ _ _ _ us hl => match us, hl with | [_, _], _ => rfl⟩
  have C_P_sign_at_odd : Cal P w K mg base 3 "sign_at_odd" ["a", "b", "prime"] (spSgn false) := ⟨_, fd_P_sign_at_odd, ok_sign_at_odd F_P_sign_at_odd C_P_stripped C_P_rest_sign, g_P_sign_at_odd, F_P_sign_at_odd.kp, F_P_sign_at_odd.bindsN fun _ _ _ _ _ _ us hl => match us, hl with | [_, _, _], _ => rfl⟩
  have C_P_sign : Cal P w K mg base 4 "sign" ["a", "b", "place"] spSign := ⟨_, fd_P_sign, ok_sign F_P_sign C_P_sign_at_two C_P_sign_at_odd, g_P_sign, F_P_sign.kp, F_P_sign.bindsN fun _ _ _ _ _ _ us hl => match us, hl with | [_, _, _], _ => rfl⟩
  have C_P_has_places : Cal P w K mg base 5 "has_places" ["number", "free", "size", "places"] spHasPl := ⟨_, fd_P_has_places, ok_has_places F_P_has_places T C_P_sign, g_P_has_places, F_P_has_places.kp, F_P_has_places.bindsN fun _ _ _ _ _ _ us hl => match us, hl with | [_, _, _, _], _ => rfl⟩
  have C_P_is_integer : Cal P w K mg base 1 "is_integer" ["value"] (spIsInt K) := ⟨_, fd_P_is_integer, ok_is_integer F_P_is_integer T, g_P_is_integer, F_P_is_integer.kp, F_P_is_integer.bindsN fun _ _ _ _ _ _ us hl => match us, hl with | [_], _ => rfl⟩
  have C_P_next_divisor : Cal P w K mg base 1 "next_divisor" ["divisor"] spNext := ⟨_, fd_P_next_divisor, ok_next F_P_next_divisor , g_P_next_divisor, F_P_next_divisor.kp, F_P_next_divisor.bindsN fun _ _ _ _ _ _ us hl => match us, hl with | [_], _ => rfl⟩
  have C_P_is_prime : Cal P w K mg base 2 "is_prime" ["value"] (spIsPrime K) := ⟨_, fd_P_is_prime, ok_is_prime F_P_is_prime T C_P_is_integer C_P_next_divisor, g_P_is_prime, F_P_is_prime.kp, F_P_is_prime.bindsN fun _ _ _ _ _ _ us hl => match us, hl with | [_], _ => rfl⟩
  have C_P_check_number : Cal P w K mg base 2 "check_number" ["value"] spCheckNumber := ⟨_, fd_P_check_number, ok_check_number F_P_check_number T C_P_is_integer, g_P_check_number, F_P_check_number.kp, F_P_check_number.bindsN fun _ _ _ _ _ _ us hl => match us, hl with | [_], _ => rfl⟩
  have C_P_prime_powers : Cal P w K mg base 2 "prime_powers" ["number"] spFactors := ⟨_, fd_P_prime_powers, ok_prime_powers F_P_prime_powers T C_P_stripped C_P_next_divisor, g_P_prime_powers, F_P_prime_powers.kp, F_P_prime_powers.bindsN fun _ _ _ _ _ _ us hl => match us, hl with | [_], _ => rfl⟩
  have C_P_factors : Cal P w K mg base 3 "factors" ["number"] spFactors := ⟨_, fd_P_factors, ok_factors F_P_factors C_P_check_number C_P_prime_powers, g_P_factors, F_P_factors.kp, F_P_factors.bindsN fun _ _ _ _ _ _ us hl => match us, hl with | [_], _ => rfl⟩
  have C_P_signed_places : Cal P w K mg base 5 "signed_places" ["a", "b"] spPlaces := ⟨_, fd_P_signed_places, ok_signed_places F_P_signed_places T C_P_check_number C_P_factors C_P_sign, g_P_signed_places, F_P_signed_places.kp, F_P_signed_places.bindsN fun _ _ _ _ _ _ us hl => match us, hl with | [_, _], _ => rfl⟩
  have OK_P_Algebra___init__ : FnOk P w K mg base CX0 6 _ fd_P_Algebra___init__ ["self", "a", "b"] (spAlgInit (He.ga K "Algebra")) := ok_Algebra_init F_P_Algebra___init__ T (⟨own_Algebra, He.noat_ok (c.fact 58 (f := .noat "Algebra" "places") rfl), He.noat_ok (c.fact 59 (f := .noat "Algebra" "a") rfl), He.noat_ok (c.fact 60 (f := .noat "Algebra" "b") rfl), He.noat_ok (c.fact 61 (f := .noat "Algebra" "discriminant") rfl), He.noat_ok (c.fact 62 (f := .noat "Algebra" "is_tables") rfl), He.noat_ok (c.fact 63 (f := .noat "Algebra" "is_definite") rfl)⟩ : AlgK K (He.ga K "Algebra")) C_P_signed_places C_P_product_of_primes
  have C_P_algebra_with : Cal P w K mg base 8 "algebra_with" ["places"] (spWith (He.ga K "Algebra")) := ⟨_, fd_P_algebra_with, ok_algebra_with F_P_algebra_with T C_P_product_of_primes C_P_has_places C_P_is_prime (⟨_, fd_P_Algebra___init__, [], OK_P_Algebra___init__, He.mkr_ok (c.fact 64 (f := .mkr "Algebra") rfl), (He.glo_ok X G (c.fact 56 (f := .glo "Algebra") rfl)), F_P_Algebra___init__.bindsN fun _ _ _ _ _ _ us hl => match us, hl with | [_, _, _], _ => rfl, .nil⟩ : CalC P w K mg base 6 "Algebra" (He.ga K "Algebra") ["self", "a", "b"] [] (spAlgInit (He.ga K "Algebra"))), g_P_algebra_with, F_P_algebra_with.kp, F_P_algebra_with.bindsN fun _ _ _ _ _ _ us hl => match us, hl with | [_], _ => rfl⟩
  have C_P_joined : Cal P w K mg base 9 "joined" ["one", "other"] (spJoined (He.ga K "Algebra")) := ⟨_, fd_P_joined, ok_joined F_P_joined T C_P_check_sides C_P_places_of_one C_P_product_of_primes C_P_algebra_with, g_P_joined, F_P_joined.kp, F_P_joined.bindsN fun _ _ _ _ _ _ us hl => match us, hl with | [_, _], _ => rfl⟩
  have C_L_is_joined : Cal P w K mg base 10 "_law_is_joined" ["_law_one", "_law_other"] (spIsJ (He.ga K "Algebra")) := ⟨_, fd_L_is_joined, ok_is_joined F_L_is_joined T (⟨own_Algebra, He.noat_ok (c.fact 58 (f := .noat "Algebra" "places") rfl), He.noat_ok (c.fact 59 (f := .noat "Algebra" "a") rfl), He.noat_ok (c.fact 60 (f := .noat "Algebra" "b") rfl), He.noat_ok (c.fact 61 (f := .noat "Algebra" "discriminant") rfl), He.noat_ok (c.fact 62 (f := .noat "Algebra" "is_tables") rfl), He.noat_ok (c.fact 63 (f := .noat "Algebra" "is_definite") rfl)⟩ : AlgK K (He.ga K "Algebra")) C_L_places C_L_apart C_P_joined_places C_P_joined, g_L_is_joined, F_L_is_joined.kp, F_L_is_joined.bindsN fun _ _ _ _ _ _ us hl => match us, hl with | [_, _], _ => rfl⟩
  have C_P_are_alike : Cal P w K mg base 3 "are_alike" ["one", "other"] (spAlike (He.ga K "Algebra")) := ⟨_, fd_P_are_alike, ok_are_alike F_P_are_alike (⟨own_Algebra, He.noat_ok (c.fact 58 (f := .noat "Algebra" "places") rfl), He.noat_ok (c.fact 59 (f := .noat "Algebra" "a") rfl), He.noat_ok (c.fact 60 (f := .noat "Algebra" "b") rfl), He.noat_ok (c.fact 61 (f := .noat "Algebra" "discriminant") rfl), He.noat_ok (c.fact 62 (f := .noat "Algebra" "is_tables") rfl), He.noat_ok (c.fact 63 (f := .noat "Algebra" "is_definite") rfl)⟩ : AlgK K (He.ga K "Algebra")) C_P_check_sides, g_P_are_alike, F_P_are_alike.kp, F_P_are_alike.bindsN fun _ _ _ _ _ _ us hl => match us, hl with | [_, _], _ => rfl⟩
  have C_L_right : Cal P w K mg base 11 "_law_right" ["_law_jug_here"] spRight := ⟨_, fd_L_right, ok_right F_L_right T (⟨own_Algebra, He.noat_ok (c.fact 58 (f := .noat "Algebra" "places") rfl), He.noat_ok (c.fact 59 (f := .noat "Algebra" "a") rfl), He.noat_ok (c.fact 60 (f := .noat "Algebra" "b") rfl), He.noat_ok (c.fact 61 (f := .noat "Algebra" "discriminant") rfl), He.noat_ok (c.fact 62 (f := .noat "Algebra" "is_tables") rfl), He.noat_ok (c.fact 63 (f := .noat "Algebra" "is_definite") rfl)⟩ : AlgK K (He.ga K "Algebra")) C_L_small_pair C_L_drawn C_L_apart C_L_is_joined C_P_joined_places C_P_joined C_P_are_alike (⟨_, fd_P_Algebra___init__, [], OK_P_Algebra___init__, He.mkr_ok (c.fact 64 (f := .mkr "Algebra") rfl), (He.glo_ok X G (c.fact 56 (f := .glo "Algebra") rfl)), F_P_Algebra___init__.bindsN fun _ _ _ _ _ _ us hl => match us, hl with | [_, _, _], _ => rfl, .nil⟩ : CalC P w K mg base 6 "Algebra" (He.ga K "Algebra") ["self", "a", "b"] [] (spAlgInit (He.ga K "Algebra"))), g_L_right, F_L_right.kp, F_L_right.bindsN fun _ _ _ _ _ _ us hl => match us, hl with | [_], _ => rfl⟩
  exact ok_law F_L_law T (⟨own_Algebra, He.noat_ok (c.fact 58 (f := .noat "Algebra" "places") rfl), He.noat_ok (c.fact 59 (f := .noat "Algebra" "a") rfl), He.noat_ok (c.fact 60 (f := .noat "Algebra" "b") rfl), He.noat_ok (c.fact 61 (f := .noat "Algebra" "discriminant") rfl), He.noat_ok (c.fact 62 (f := .noat "Algebra" "is_tables") rfl), He.noat_ok (c.fact 63 (f := .noat "Algebra" "is_definite") rfl)⟩ : AlgK K (He.ga K "Algebra")) C_L_jug C_L_right C_P_joined_places C_P_joined C_L_is_joined (⟨_, fd_P_Algebra___init__, [], OK_P_Algebra___init__, He.mkr_ok (c.fact 64 (f := .mkr "Algebra") rfl), (He.glo_ok X G (c.fact 56 (f := .glo "Algebra") rfl)), F_P_Algebra___init__.bindsN fun _ _ _ _ _ _ us hl => match us, hl with | [_, _, _], _ => rfl, .nil⟩ : CalC P w K mg base 6 "Algebra" (He.ga K "Algebra") ["self", "a", "b"] [] (spAlgInit (He.ga K "Algebra")))
end Sf
open PySem PySem.W PySem.Calls PyProof.Rows
set_option maxHeartbeats 0 in
theorem PySem.Challenge.cw_signfours_k27_whole_joined_algebras_holds : PySem.Challenge.rw_signfours_k27_whole_joined_algebras.Holds := by
  w_on; o_law
  refine HandSHeadRun.head_any (r := OpenLaw.row PySem.Challenge.rw_signfours_k27_whole_joined_algebras) (q := view (OpenLaw.row PySem.Challenge.rw_signfours_k27_whole_joined_algebras).prog [56]) (H := Sf.hk) (ob := Sf.ob) (M := 20000) (loose := Sf.loose) (d := HandSHeadRun.topDef (OpenLaw.row PySem.Challenge.rw_signfours_k27_whole_joined_algebras).prog 56) (kwd := []) Sf.ob_eq
    (by kernel_rfl) (fun s => by kernel_rfl) Sf.run (by kernel_rfl) (by kernel_rfl) (by kernel_rfl) (by rfl) (by first | assumption | decide +kernel) (by decide +kernel) ⟨rfl, rfl, rfl, rfl, rfl, by decide +kernel⟩ ?hw ?hc
  case hw => w_witness2
  case hc =>
    refine L2.walk_ofE (l := PySem.Challenge.rw_signfours_k27_whole_joined_algebras) (n := 63) (k := 12) (x := "_law_script") (CX := L2.CX0) rfl (by decide) (by kernel_rfl) ⟨rfl, by decide, by decide⟩ ?F (fun _ _ _ _ z => z)
    intro w mg fa h Y G hmg0
    obtain ⟨K, KX, c, z⟩ := Y
    have hmg : mg ("law" : PySem.Str) = some (.ref fa) := by
      have e : (HandSHeadRun.topDef (OpenLaw.row PySem.Challenge.rw_signfours_k27_whole_joined_algebras).prog 56).name = ("law" : PySem.Str) := by kernel_rfl
      rw [← e]
      exact hmg0
    obtain ⟨fd, hb, hF⟩ := Sf.facts (P := (PySem.Challenge.rw_signfours_k27_whole_joined_algebras).prog) (w := w) KX G hmg c z
    exact ⟨K, fd, Sf.spLaw K, KX, hb, fun H a ns hl _ hS => ⟨a, ns, rfl, hS, hl, fun _ => rfl⟩, hF⟩
