import PyProof.Rows.All
import Wide.All
import OpenK.AllK
import Wide.FinOn
import KE.KStateDown
import Lean
import HandS.Base
import HandS.Call
import HandS.List
import HandS.Comp
import HandS.Ends
import HandS.Evl
import HandS.Dict
import HandS.Iter
import HandS.Text
import HandS.More
import HandS.DictComp
import HandS.Words
import HandS.WordsList
import HandS.WordsExc
import HandS.WordsDict
import HandS.Defaults
import HandS.IsInst
import HandS.Small
import HandS.Wide
import HandS.Style
import HandS.SortInts
import HandS.Set
import HandS.SetFor
import HandS.Strs
import HandS.Star
import HandS.Head0
import HandS.Head1
import HandS.Head2
import HandS.Head3
import HandS.HeadEnd
import HandS.HeadHook1
import HandS.HeadHook2
import KE.KOpsOwn
import KE.GoesMore
import KE.KFmtOwn
import HandS.OwnEq
import HandS.Records
import HandS.Gcd
import HandS.TupAny
import HandS.Walk
import HandS.Zip
import HandS.Zip0
import KE.KDictZip
import PyProof.CollectWalk
import PyProof.ListNew
import HandS.FStr
import HandS.StrMore
import HandS.Flow
import HandS.RaiseMore
import HandS.Exc
import HandS.TryMany
import HandS.Lambda
import PySem.Challenge.RW_signfours_k25_root_papers_judged
set_option Elab.async false
set_option linter.all false
set_option maxRecDepth 100000
set_option maxHeartbeats 4000000
namespace Sf
open PySem PySem.Spec PyProof.Rows L2
/-- a def of the text that lets no exception out, ready to be called -/
structure Cal (P : Program) (w : World) (K : PySem.W.Frag) (mg : Str → Option Value) (base : Heap) (k : Nat) (x : Str) (ps : List Str) (sp : Sp) where
  f : Addr
  fd : FuncData
  ok : FnOk P w K mg base CX0 k f fd ps sp
  g : mg x = some (.ref f)
  kp : PySem.W.keepIn K (.ref f) = true
  b : Binds K fd ps []
section
variable {X : Cx} {k : Nat} {x : Str} {ps : List Str} {sp : Sp} {e : Expr} {es : List Expr} {t : TA} {p pos : Pos}
theorem pe_cal (C : Cal X.prog X.w X.K X.mg X.base k x ps sp) (hr : Room k X.A) (ha : PA X (e :: es) t) (hg : Gl X x := by rfl) (hdb : (x == ("__debug__" : Str)) = false := by decide)
    (he : starEach (e :: es) X.env = (false, eval e X.env) :: starEach es X.env := by rfl) (hpl : (backTo pos (starEach es X.env)).any (·.1) = false := by rfl) :
    PE X (.Call (.Name x p) (e :: es) [] pos) (tCall sp [] E0 t) :=
  pe_call C.ok hr hg C.g C.kp C.b .nil pass0 ha hdb he hpl
theorem pe_cal0 (C : Cal X.prog X.w X.K X.mg X.base k x ps sp) (hr : Room k X.A) (hg : Gl X x := by rfl) (hdb : (x == ("__debug__" : Str)) = false := by decide) :
    PE X (.Call (.Name x p) [] [] pos) (tCall sp [] E0 tNil) :=
  pe_call0 C.ok hr hg C.g C.kp C.b .nil pass0 hdb
/-- a power of any size that the machine's line takes -/
def CPowW (i j : Int) : Prop := 0 ≤ j ∧ (Builtin.Int.intBits i : Int) * j ≤ 2 ^ 27
theorem op_powW : OpR X (binaryOp .Pow) (rI CPowW fun i j => .int (i ^ j.toNat)) := opI fun _ _ _ _ _ _ _ hc q => pow_int hc.1 hc.2 q
/-- a dict that a call has just made, frozen from here on -/
theorem pe_frz {e : Expr} {te : TE} (h : PE X e te) : PE X e (fun σ H Q => te σ H fun x H1 => ∃ d u, x = .ref d ∧ H1 d = some u ∧ Mut (some u) ∧ ∀ od, Q x (upd H1 d (.frz od u))) := by
  refine ⟨fun pins s σ H Q I hw => ?_⟩
  refine thn (h.run pins s σ _ _ I hw) fun v s1 ⟨y, H1, I1, r, d, u, e1, hd, mu, q⟩ => ?_
  obtain ⟨od, I2⟩ := I1.lock hd mu
  exact ⟨y, _, I2, r, q od⟩
end
section
variable {X : Cx} {e : Expr}
/-- an expression, with a word behind it: what follows is shown once -/
def tMid (t : TE) : TE := fun σ H Q => ∃ Mid : V → Hp → Prop, t σ H Mid ∧ ∀ v H', Mid v H' → Q v H'
theorem pe_cut {t : TE} (h : PE X e t) : PE X e (tMid t) :=
  ⟨fun pins s σ H Q I ⟨Mid, hm, hu⟩ => thn (h.run pins s σ H Mid I hm) fun u s1 ⟨x, H1, I1, r, q⟩ => ⟨x, H1, I1, r, hu x H1 q⟩⟩
def tMidT (t : TT) : TT := fun σ H Q => ∃ Mid : Bool → Hp → Prop, t σ H Mid ∧ ∀ v H', Mid v H' → Q v H'
theorem pt_mid {t : TT} (h : PT X e t) : PT X e (tMidT t) :=
  ⟨fun pins s σ H Q I ⟨Mid, hm, hu⟩ => thn (h.run pins s σ H Mid I hm) fun b s1 ⟨H1, I1, q⟩ => ⟨H1, I1, hu b H1 q⟩⟩
end
theorem same_upd {H : Hp} {p : Addr} {o : HO} (h : H p = none) : Same H (upd H p o) := fun b x e => by
  rw [upd_ne (ne_of_none e h)]
  exact e
theorem CMulW.of {i j : Int} (hi : i.natAbs < 2 ^ 3000) (hj : j.natAbs < 2 ^ 3000) : CMulW i j := wide_mul hi hj (by decide) (by decide) (by decide)
theorem CDivW.of {i j : Int} (h0 : 0 < j) (hj : j.natAbs < 2 ^ 3000) : CDivW i j := wide_div h0 hj (by decide) (by decide)
theorem two3000 : (10 : Nat) ^ 600 < 2 ^ 3000 := by decide +kernel
end Sf
namespace Sf
open PySem PySem.Spec PyProof.Rows L2
/-- an if whose test is a decision -/
theorem ifd {p : Prop} [Decidable p] {A B : Prop} (h1 : p → A) (h2 : ¬ p → B) : if decide p = true then A else B := by
  by_cases h : p
  · rw [if_pos (decide_eq_true h)]; exact h1 h
  · rw [if_neg (by simpa using h)]; exact h2 h
theorem ifn {p : Prop} [Decidable p] {A B : Prop} (h1 : ¬ p → A) (h2 : p → B) : if (!decide p) = true then A else B := by
  by_cases h : p
  · rw [if_neg (by simpa using h)]; exact h2 h
  · rw [if_pos (by simpa using h)]; exact h1 h
theorem ifb {b : Bool} {A B : Prop} (h1 : b = true → A) (h2 : b = false → B) : if b = true then A else B := by
  cases b with
  | true => rw [if_pos rfl]; exact h1 rfl
  | false => rw [if_neg Bool.false_ne_true]; exact h2 rfl
end Sf
namespace Sf
open PySem PySem.Spec PyProof.Rows L2
/-! the head's facts and one more Bool -/
abbrev AlO : Type := He.AlD × Bool
/-- what is looked at: the module's names, what they name, so on; a code object's own things are left out -/
def refsN (o : Obj) : List Addr := match o.data with
  | .dict es _ => es.toList.flatMap fun e => He.refV e.val
  | .func fd => He.refV fd.code ++ He.refV fd.defaults
  | .cls cd => cd.ns :: cd.mro.flatMap He.refV
  | _ => []
def stepN (g : Addr → Option Obj) (as : List Addr) : List Addr := as.flatMap fun a => match g a with
  | some o => refsN o
  | none => []
def asN (g : Addr → Option Obj) : Nat → List Addr → List Addr
  | 0, as => as
  | n + 1, as => as ++ asN g n (stepN g as)
def obsO (n : Nat) (fa : List He.Fa) (fn : List He.DefD) (ex : PySem.W.Frag → Bool) (g : Addr → Option Obj) : AlO := (He.obsD fa fn (He.frG g (asN g n [mainGlobals])), ex (He.frG g (asN g n [mainGlobals])))
def hookO (n : Nat) (fa : List He.Fa) (fn : List He.DefD) (ex : PySem.W.Frag → Bool) : PySem.W.Hook where
  α := AlO
  obs := fun s => obsO n fa fn ex s.heap.get?
  val := fun _ => (He.valD fn, true)
  says := fun _ h => ∃ K : PySem.W.Frag, K.In h ∧ He.SaysD fa fn K ∧ ex K = true
  of := fun _ _ e => ⟨_, He.frG_in, congrArg (fun z : AlO => z.1) e, congrArg (fun z : AlO => z.2) e⟩
  keeps := fun _ _ _ ⟨K, hK, c⟩ k => ⟨K, PySem.W.Frag.In.keeps hK k, c⟩
theorem obsO_eq {n : Nat} {fa : List He.Fa} {fn : List He.DefD} {ex : PySem.W.Frag → Bool} {g : Addr → Option Obj} {s : Shared} (h : ∀ a, g a = s.heap.get? a) : obsO n fa fn ex g = (hookO n fa fn ex).obs s := by
  have e : g = s.heap.get? := funext h
  rw [e] <;> rfl
def ownB (K : PySem.W.Frag) (x : Str) : Bool := PySem.W.selfFirst K (He.ga K x) && (decide (PySem.W.subIn K (.type "int") (.ref (He.ga K x)) = some false) && (He.eqO (PySem.W.findIn K (.ref (He.ga K x)) "__ne__") (some (some (.builtin "object.__ne__"))) &&
  (decide (PySem.W.mroIn K (He.ga K x) (.type "object") = some true) && (He.eqO (PySem.W.findIn K (.ref (He.ga K x)) "__class__") (some (some (.builtin "object.__class__"))) && (He.eqO (PySem.W.specialIn K (.builtin "object.__class__") "__get__") (some (some (.builtin "getset_descriptor.__get__"))) &&
  (decide (PySem.W.takesIn K (.builtin "object.__class__") = some true) && (decide (PySem.W.kitOne K (.ref (He.ga K x)) (.ref (He.ga K x)) = some true) && decide (PySem.W.kitOne K (.type "int") (.ref (He.ga K x)) = some false))))))))
/-- a module's name that holds a built-in function -/
def gblB (K : PySem.W.Frag) (x : Str) (id : String) : Bool := He.eqO (PySem.W.nsIn K mainGlobals x) (some (some (.builtin id)))
theorem gblB_ok {K : PySem.W.Frag} {h : Heap} {mg : Str → Option Value} (X : K.In h) (G : h.Ns mainGlobals mg) {x : Str} {id : String} (c : gblB K x id = true) : mg x = some (.builtin id) := PySem.W.mg_of X G (He.eqO_ok c)
end Sf

namespace Sf
open PySem PySem.Spec PyProof.Rows L2
def top (i : Nat) : Stmt := PySem.Challenge.pw_signfours_k25_root_papers_judged.main.body.getD i (.Pass ⟨0, 0, 0, 0⟩)
abbrev s_P__wall : Stmt := top 1
theorem sc_P__wall : FnScope ["k"] ["k"] (defScope s_P__wall) := ⟨rfl, rfl, rfl, by decide +kernel, rfl, by decide +kernel, by decide +kernel⟩
abbrev s_P_is_integer : Stmt := top 4
theorem sc_P_is_integer : FnScope ["value"] ["value"] (defScope s_P_is_integer) := ⟨rfl, rfl, rfl, by decide +kernel, rfl, by decide +kernel, by decide +kernel⟩
abbrev s_P_is_passed : Stmt := top 5
theorem sc_P_is_passed : FnScope ["value"] ["value"] (defScope s_P_is_passed) := ⟨rfl, rfl, rfl, by decide +kernel, rfl, by decide +kernel, by decide +kernel⟩
abbrev s_P_ParseError___init__ : Stmt := inClass (top 12) 0
theorem sc_P_ParseError___init__ : FnScope ["self", "spot"] ["self", "spot"] (defScope s_P_ParseError___init__) := ⟨rfl, rfl, rfl, by decide +kernel, rfl, by decide +kernel, by decide +kernel⟩
abbrev s_P_InvalidNumber___init__ : Stmt := inClass (top 13) 0
theorem sc_P_InvalidNumber___init__ : FnScope ["self", "given"] ["self", "given"] (defScope s_P_InvalidNumber___init__) := ⟨rfl, rfl, rfl, by decide +kernel, rfl, by decide +kernel, by decide +kernel⟩
abbrev s_P_TooMany___init__ : Stmt := inClass (top 14) 0
theorem sc_P_TooMany___init__ : FnScope ["self", "most"] ["self", "most"] (defScope s_P_TooMany___init__) := ⟨rfl, rfl, rfl, by decide +kernel, rfl, by decide +kernel, by decide +kernel⟩
abbrev s_P_Refused___init__ : Stmt := inClass (top 15) 0
theorem sc_P_Refused___init__ : FnScope ["self", "reason"] ["self", "reason"] (defScope s_P_Refused___init__) := ⟨rfl, rfl, rfl, by decide +kernel, rfl, by decide +kernel, by decide +kernel⟩
abbrev s_P_Ratio___init__ : Stmt := inClass (top 17) 0
theorem sc_P_Ratio___init__ : FnScope ["self", "top", "bottom"] ["self", "top", "bottom"] (defScope s_P_Ratio___init__) := ⟨rfl, rfl, rfl, by decide +kernel, rfl, by decide +kernel, by decide +kernel⟩
abbrev s_P_Ratio_read : Stmt := inClass (top 17) 1
theorem sc_P_Ratio_read : FnScope ["text", "top", "slash", "bottom", "found"] ["text"] (defScope s_P_Ratio_read) := ⟨rfl, rfl, rfl, by decide +kernel, rfl, by decide +kernel, by decide +kernel⟩
abbrev s_P_Ratio_over : Stmt := inClass (top 17) 2
theorem sc_P_Ratio_over : FnScope ["self", "other", "top", "bottom"] ["self", "other"] (defScope s_P_Ratio_over) := ⟨rfl, rfl, rfl, by decide +kernel, rfl, by decide +kernel, by decide +kernel⟩
abbrev s_P_Ratio_compared : Stmt := inClass (top 17) 3
theorem sc_P_Ratio_compared : FnScope ["self", "other"] ["self", "other"] (defScope s_P_Ratio_compared) := ⟨rfl, rfl, rfl, by decide +kernel, rfl, by decide +kernel, by decide +kernel⟩
abbrev s_P_Ratio___add__ : Stmt := inClass (top 17) 4
theorem sc_P_Ratio___add__ : FnScope ["self", "other", "top", "bottom"] ["self", "other"] (defScope s_P_Ratio___add__) := ⟨rfl, rfl, rfl, by decide +kernel, rfl, by decide +kernel, by decide +kernel⟩
abbrev s_P_Ratio___sub__ : Stmt := inClass (top 17) 5
theorem sc_P_Ratio___sub__ : FnScope ["self", "other", "top", "bottom"] ["self", "other"] (defScope s_P_Ratio___sub__) := ⟨rfl, rfl, rfl, by decide +kernel, rfl, by decide +kernel, by decide +kernel⟩
abbrev s_P_Ratio___mul__ : Stmt := inClass (top 17) 6
theorem sc_P_Ratio___mul__ : FnScope ["self", "other", "top", "bottom"] ["self", "other"] (defScope s_P_Ratio___mul__) := ⟨rfl, rfl, rfl, by decide +kernel, rfl, by decide +kernel, by decide +kernel⟩
abbrev s_P_Ratio___neg__ : Stmt := inClass (top 17) 7
theorem sc_P_Ratio___neg__ : FnScope ["self"] ["self"] (defScope s_P_Ratio___neg__) := ⟨rfl, rfl, rfl, by decide +kernel, rfl, by decide +kernel, by decide +kernel⟩
abbrev s_P_Ratio___eq__ : Stmt := inClass (top 17) 8
theorem sc_P_Ratio___eq__ : FnScope ["self", "value"] ["self", "value"] (defScope s_P_Ratio___eq__) := ⟨rfl, rfl, rfl, by decide +kernel, rfl, by decide +kernel, by decide +kernel⟩
abbrev s_P_Ratio___bool__ : Stmt := inClass (top 17) 9
theorem sc_P_Ratio___bool__ : FnScope ["self"] ["self"] (defScope s_P_Ratio___bool__) := ⟨rfl, rfl, rfl, by decide +kernel, rfl, by decide +kernel, by decide +kernel⟩
abbrev s_P_Ratio___str__ : Stmt := inClass (top 17) 10
theorem sc_P_Ratio___str__ : FnScope ["self"] ["self"] (defScope s_P_Ratio___str__) := ⟨rfl, rfl, rfl, by decide +kernel, rfl, by decide +kernel, by decide +kernel⟩
abbrev s_P_made_ratio : Stmt := top 18
theorem sc_P_made_ratio : FnScope ["top", "bottom", "terms", "made"] ["top", "bottom"] (defScope s_P_made_ratio) := ⟨rfl, rfl, rfl, by decide +kernel, rfl, by decide +kernel, by decide +kernel⟩
abbrev s_P_lowest_terms : Stmt := top 19
theorem sc_P_lowest_terms : FnScope ["top", "bottom", "common"] ["top", "bottom"] (defScope s_P_lowest_terms) := ⟨rfl, rfl, rfl, by decide +kernel, rfl, by decide +kernel, by decide +kernel⟩
abbrev s_P_sign_of : Stmt := top 20
theorem sc_P_sign_of : FnScope ["number"] ["number"] (defScope s_P_sign_of) := ⟨rfl, rfl, rfl, by decide +kernel, rfl, by decide +kernel, by decide +kernel⟩
abbrev s_P_is_fraction : Stmt := top 21
theorem sc_P_is_fraction : FnScope ["value"] ["value"] (defScope s_P_is_fraction) := ⟨rfl, rfl, rfl, by decide +kernel, rfl, by decide +kernel, by decide +kernel⟩
abbrev s_P_check_ratio : Stmt := top 22
theorem sc_P_check_ratio : FnScope ["value"] ["value"] (defScope s_P_check_ratio) := ⟨rfl, rfl, rfl, by decide +kernel, rfl, by decide +kernel, by decide +kernel⟩
abbrev s_P_terms_of : Stmt := top 23
theorem sc_P_terms_of : FnScope ["ratio"] ["ratio"] (defScope s_P_terms_of) := ⟨rfl, rfl, rfl, by decide +kernel, rfl, by decide +kernel, by decide +kernel⟩
abbrev s_P_is_digits : Stmt := top 24
theorem sc_P_is_digits : FnScope ["word"] ["word"] (defScope s_P_is_digits) := ⟨rfl, rfl, rfl, by decide +kernel, rfl, by decide +kernel, by decide +kernel⟩
abbrev s_P_is_prime : Stmt := top 27
theorem sc_P_is_prime : FnScope ["value", "divisor"] ["value"] (defScope s_P_is_prime) := ⟨rfl, rfl, rfl, by decide +kernel, rfl, by decide +kernel, by decide +kernel⟩
abbrev s_P_factors : Stmt := top 28
theorem sc_P_factors : FnScope ["number"] ["number"] (defScope s_P_factors) := ⟨rfl, rfl, rfl, by decide +kernel, rfl, by decide +kernel, by decide +kernel⟩
abbrev s_P_prime_powers : Stmt := top 29
theorem sc_P_prime_powers : FnScope ["number", "rest", "found", "divisor"] ["number"] (defScope s_P_prime_powers) := ⟨rfl, rfl, rfl, by decide +kernel, rfl, by decide +kernel, by decide +kernel⟩
abbrev s_P_check_number : Stmt := top 30
theorem sc_P_check_number : FnScope ["value"] ["value"] (defScope s_P_check_number) := ⟨rfl, rfl, rfl, by decide +kernel, rfl, by decide +kernel, by decide +kernel⟩
abbrev s_P_next_divisor : Stmt := top 31
theorem sc_P_next_divisor : FnScope ["divisor"] ["divisor"] (defScope s_P_next_divisor) := ⟨rfl, rfl, rfl, by decide +kernel, rfl, by decide +kernel, by decide +kernel⟩
abbrev s_P_stripped : Stmt := top 32
theorem sc_P_stripped : FnScope ["number", "prime", "many"] ["number", "prime"] (defScope s_P_stripped) := ⟨rfl, rfl, rfl, by decide +kernel, rfl, by decide +kernel, by decide +kernel⟩
abbrev s_P_rest_sign : Stmt := top 33
theorem sc_P_rest_sign : FnScope ["number", "prime"] ["number", "prime"] (defScope s_P_rest_sign) := ⟨rfl, rfl, rfl, by decide +kernel, rfl, by decide +kernel, by decide +kernel⟩
abbrev s_P_power_modulo : Stmt := top 34
theorem sc_P_power_modulo : FnScope ["number", "many", "modulus", "made", "square"] ["number", "many", "modulus"] (defScope s_P_power_modulo) := ⟨rfl, rfl, rfl, by decide +kernel, rfl, by decide +kernel, by decide +kernel⟩
abbrev s_P_square_unit : Stmt := top 36
theorem sc_P_square_unit : FnScope ["unit", "prime"] ["unit", "prime"] (defScope s_P_square_unit) := ⟨rfl, rfl, rfl, by decide +kernel, rfl, by decide +kernel, by decide +kernel⟩
abbrev s_P_signed_places : Stmt := top 38
theorem sc_P_signed_places : FnScope ["a", "b", "divisors", "place"] ["a", "b"] (defScope s_P_signed_places) := ⟨rfl, rfl, rfl, by decide +kernel, rfl, by decide +kernel, by decide +kernel⟩
abbrev s_P_is_square_at : Stmt := top 39
theorem sc_P_is_square_at : FnScope ["number", "place", "many", "unit"] ["number", "place"] (defScope s_P_is_square_at) := ⟨rfl, rfl, rfl, by decide +kernel, rfl, by decide +kernel, by decide +kernel⟩
abbrev s_P_check_place : Stmt := top 40
theorem sc_P_check_place : FnScope ["value"] ["value"] (defScope s_P_check_place) := ⟨rfl, rfl, rfl, by decide +kernel, rfl, by decide +kernel, by decide +kernel⟩
abbrev s_P_sign : Stmt := top 41
theorem sc_P_sign : FnScope ["a", "b", "place"] ["a", "b", "place"] (defScope s_P_sign) := ⟨rfl, rfl, rfl, by decide +kernel, rfl, by decide +kernel, by decide +kernel⟩
abbrev s_P_sign_at_two : Stmt := top 42
theorem sc_P_sign_at_two : FnScope ["a", "b", "s", "one", "t", "other", "told"] ["a", "b"] (defScope s_P_sign_at_two) := ⟨rfl, rfl, rfl, by decide +kernel, rfl, by decide +kernel, by decide +kernel⟩
abbrev s_P_quarter : Stmt := top 43
theorem sc_P_quarter : FnScope ["unit"] ["unit"] (defScope s_P_quarter) := ⟨rfl, rfl, rfl, by decide +kernel, rfl, by decide +kernel, by decide +kernel⟩
abbrev s_P_eighth : Stmt := top 44
theorem sc_P_eighth : FnScope ["unit"] ["unit"] (defScope s_P_eighth) := ⟨rfl, rfl, rfl, by decide +kernel, rfl, by decide +kernel, by decide +kernel⟩
abbrev s_P_sign_at_odd : Stmt := top 45
theorem sc_P_sign_at_odd : FnScope ["a", "b", "prime", "s", "one", "t", "other", "told"] ["a", "b", "prime"] (defScope s_P_sign_at_odd) := ⟨rfl, rfl, rfl, by decide +kernel, rfl, by decide +kernel, by decide +kernel⟩
abbrev s_P_Algebra___init__ : Stmt := inClass (top 49) 0
theorem sc_P_Algebra___init__ : FnScope ["self", "a", "b"] ["self", "a", "b"] (defScope s_P_Algebra___init__) := ⟨rfl, rfl, rfl, by decide +kernel, rfl, by decide +kernel, by decide +kernel⟩
abbrev s_P_Algebra_basis : Stmt := inClass (top 49) 1
theorem sc_P_Algebra_basis : FnScope ["self"] ["self"] (defScope s_P_Algebra_basis) := ⟨rfl, rfl, rfl, by decide +kernel, rfl, by decide +kernel, by decide +kernel⟩
abbrev s_P_Algebra___eq__ : Stmt := inClass (top 49) 2
theorem sc_P_Algebra___eq__ : FnScope ["self", "value"] ["self", "value"] (defScope s_P_Algebra___eq__) := ⟨rfl, rfl, rfl, by decide +kernel, rfl, by decide +kernel, by decide +kernel⟩
abbrev s_P_Algebra___str__ : Stmt := inClass (top 49) 3
theorem sc_P_Algebra___str__ : FnScope ["self"] ["self"] (defScope s_P_Algebra___str__) := ⟨rfl, rfl, rfl, by decide +kernel, rfl, by decide +kernel, by decide +kernel⟩
abbrev s_P_Four___init__ : Stmt := inClass (top 50) 0
theorem sc_P_Four___init__ : FnScope ["self", "algebra", "entries", "bottom"] ["self", "algebra", "entries", "bottom"] (defScope s_P_Four___init__) := ⟨rfl, rfl, rfl, by decide +kernel, rfl, by decide +kernel, by decide +kernel⟩
abbrev s_P_Four_mate : Stmt := inClass (top 50) 1
theorem sc_P_Four_mate : FnScope ["self"] ["self"] (defScope s_P_Four_mate) := ⟨rfl, rfl, rfl, by decide +kernel, rfl, by decide +kernel, by decide +kernel⟩
abbrev s_P_Four_inverse : Stmt := inClass (top 50) 2
theorem sc_P_Four_inverse : FnScope ["self", "entries", "part"] ["self"] (defScope s_P_Four_inverse) := ⟨rfl, rfl, rfl, by decide +kernel, rfl, by decide +kernel, by decide +kernel⟩
abbrev s_P_Four_power : Stmt := inClass (top 50) 3
theorem sc_P_Four_power : FnScope ["self", "many", "made", "under", "square", "below"] ["self", "many"] (defScope s_P_Four_power) := ⟨rfl, rfl, rfl, by decide +kernel, rfl, by decide +kernel, by decide +kernel⟩
abbrev s_P_Four_scaled : Stmt := inClass (top 50) 4
theorem sc_P_Four_scaled : FnScope ["self", "ratio", "top", "bottom", "part"] ["self", "ratio"] (defScope s_P_Four_scaled) := ⟨rfl, rfl, rfl, by decide +kernel, rfl, by decide +kernel, by decide +kernel⟩
abbrev s_P_Four___add__ : Stmt := inClass (top 50) 5
theorem sc_P_Four___add__ : FnScope ["self", "other", "entries", "one", "two"] ["self", "other"] (defScope s_P_Four___add__) := ⟨rfl, rfl, rfl, by decide +kernel, rfl, by decide +kernel, by decide +kernel⟩
abbrev s_P_Four___sub__ : Stmt := inClass (top 50) 6
theorem sc_P_Four___sub__ : FnScope ["self", "other"] ["self", "other"] (defScope s_P_Four___sub__) := ⟨rfl, rfl, rfl, by decide +kernel, rfl, by decide +kernel, by decide +kernel⟩
abbrev s_P_Four___mul__ : Stmt := inClass (top 50) 7
theorem sc_P_Four___mul__ : FnScope ["self", "other", "entries"] ["self", "other"] (defScope s_P_Four___mul__) := ⟨rfl, rfl, rfl, by decide +kernel, rfl, by decide +kernel, by decide +kernel⟩
abbrev s_P_Four___neg__ : Stmt := inClass (top 50) 8
theorem sc_P_Four___neg__ : FnScope ["self", "part"] ["self"] (defScope s_P_Four___neg__) := ⟨rfl, rfl, rfl, by decide +kernel, rfl, by decide +kernel, by decide +kernel⟩
abbrev s_P_Four___eq__ : Stmt := inClass (top 50) 9
theorem sc_P_Four___eq__ : FnScope ["self", "value"] ["self", "value"] (defScope s_P_Four___eq__) := ⟨rfl, rfl, rfl, by decide +kernel, rfl, by decide +kernel, by decide +kernel⟩
abbrev s_P_Four___bool__ : Stmt := inClass (top 50) 10
theorem sc_P_Four___bool__ : FnScope ["self"] ["self"] (defScope s_P_Four___bool__) := ⟨rfl, rfl, rfl, by decide +kernel, rfl, by decide +kernel, by decide +kernel⟩
abbrev s_P_Four___str__ : Stmt := inClass (top 50) 11
theorem sc_P_Four___str__ : FnScope ["self"] ["self"] (defScope s_P_Four___str__) := ⟨rfl, rfl, rfl, by decide +kernel, rfl, by decide +kernel, by decide +kernel⟩
abbrev s_P_made_four : Stmt := top 51
theorem sc_P_made_four : FnScope ["algebra", "entries", "bottom", "lowest", "made"] ["algebra", "entries", "bottom"] (defScope s_P_made_four) := ⟨rfl, rfl, rfl, by decide +kernel, rfl, by decide +kernel, by decide +kernel⟩
abbrev s_P_check_algebra : Stmt := top 52
theorem sc_P_check_algebra : FnScope ["value"] ["value"] (defScope s_P_check_algebra) := ⟨rfl, rfl, rfl, by decide +kernel, rfl, by decide +kernel, by decide +kernel⟩
abbrev s_P_is_four_of : Stmt := top 53
theorem sc_P_is_four_of : FnScope ["algebra", "value"] ["algebra", "value"] (defScope s_P_is_four_of) := ⟨rfl, rfl, rfl, by decide +kernel, rfl, by decide +kernel, by decide +kernel⟩
abbrev s_P_check_operands : Stmt := top 54
theorem sc_P_check_operands : FnScope ["one", "other"] ["one", "other"] (defScope s_P_check_operands) := ⟨rfl, rfl, rfl, by decide +kernel, rfl, by decide +kernel, by decide +kernel⟩
abbrev s_P_is_passed_entries : Stmt := top 55
theorem sc_P_is_passed_entries : FnScope ["value", "part"] ["value"] (defScope s_P_is_passed_entries) := ⟨rfl, rfl, rfl, by decide +kernel, rfl, by decide +kernel, by decide +kernel⟩
abbrev s_P_product_of_primes : Stmt := top 56
theorem sc_P_product_of_primes : FnScope ["places", "made", "place"] ["places"] (defScope s_P_product_of_primes) := ⟨rfl, rfl, rfl, by decide +kernel, rfl, by decide +kernel, by decide +kernel⟩
abbrev s_P_lowest_entries : Stmt := top 57
theorem sc_P_lowest_entries : FnScope ["entries", "bottom", "w", "x", "y", "z", "common"] ["entries", "bottom"] (defScope s_P_lowest_entries) := ⟨rfl, rfl, rfl, by decide +kernel, rfl, by decide +kernel, by decide +kernel⟩
abbrev s_P_mate_entries : Stmt := top 58
theorem sc_P_mate_entries : FnScope ["entries", "w", "x", "y", "z"] ["entries"] (defScope s_P_mate_entries) := ⟨rfl, rfl, rfl, by decide +kernel, rfl, by decide +kernel, by decide +kernel⟩
abbrev s_P_norm_of : Stmt := top 59
theorem sc_P_norm_of : FnScope ["algebra", "entries", "bottom", "w", "x", "y", "z", "top"] ["algebra", "entries", "bottom"] (defScope s_P_norm_of) := ⟨rfl, rfl, rfl, by decide +kernel, rfl, by decide +kernel, by decide +kernel⟩
abbrev s_P_product_entries : Stmt := top 60
theorem sc_P_product_entries : FnScope ["algebra", "one", "other", "a", "b", "w", "x", "y", "z", "s", "t", "u", "v"] ["algebra", "one", "other"] (defScope s_P_product_entries) := ⟨rfl, rfl, rfl, by decide +kernel, rfl, by decide +kernel, by decide +kernel⟩
abbrev s_P_written_terms : Stmt := top 61
theorem sc_P_written_terms : FnScope ["entries", "terms", "size", "letter"] ["entries"] (defScope s_P_written_terms) := ⟨rfl, rfl, rfl, by decide +kernel, rfl, by decide +kernel, by decide +kernel⟩
abbrev s_P_written_term : Stmt := top 62
theorem sc_P_written_term : FnScope ["size", "letter", "sign", "digits"] ["size", "letter"] (defScope s_P_written_term) := ⟨rfl, rfl, rfl, by decide +kernel, rfl, by decide +kernel, by decide +kernel⟩
abbrev s_P_is_root_paper : Stmt := top 65
theorem sc_P_is_root_paper : FnScope ["algebra", "number", "value", "word", "told"] ["algebra", "number", "value"] (defScope s_P_is_root_paper) := ⟨rfl, rfl, rfl, by decide +kernel, rfl, by decide +kernel, by decide +kernel⟩
abbrev s_P_has_root : Stmt := top 66
theorem sc_P_has_root : FnScope ["algebra", "number"] ["algebra", "number"] (defScope s_P_has_root) := ⟨rfl, rfl, rfl, by decide +kernel, rfl, by decide +kernel, by decide +kernel⟩
abbrev s_P_check_root : Stmt := top 67
theorem sc_P_check_root : FnScope ["algebra", "number"] ["algebra", "number"] (defScope s_P_check_root) := ⟨rfl, rfl, rfl, by decide +kernel, rfl, by decide +kernel, by decide +kernel⟩
abbrev s_P_check_side : Stmt := top 68
theorem sc_P_check_side : FnScope ["algebra"] ["algebra"] (defScope s_P_check_side) := ⟨rfl, rfl, rfl, by decide +kernel, rfl, by decide +kernel, by decide +kernel⟩
abbrev s_P_is_square : Stmt := top 69
theorem sc_P_is_square : FnScope ["number"] ["number"] (defScope s_P_is_square) := ⟨rfl, rfl, rfl, by decide +kernel, rfl, by decide +kernel, by decide +kernel⟩
abbrev s_P_is_root : Stmt := top 70
theorem sc_P_is_root : FnScope ["four", "number"] ["four", "number"] (defScope s_P_is_root) := ⟨rfl, rfl, rfl, by decide +kernel, rfl, by decide +kernel, by decide +kernel⟩
abbrev s_P_square_places : Stmt := top 71
theorem sc_P_square_places : FnScope ["places", "number", "place"] ["places", "number"] (defScope s_P_square_places) := ⟨rfl, rfl, rfl, by decide +kernel, rfl, by decide +kernel, by decide +kernel⟩
abbrev s_L_jug : Stmt := top 73
theorem sc_L_jug : FnScope ["_law_script", "_law_spot", "_law_cell", "_law_great", "_law_mixed"] ["_law_script", "_law_spot"] (defScope s_L_jug) := ⟨rfl, rfl, rfl, by decide +kernel, rfl, by decide +kernel, by decide +kernel⟩
abbrev s_L_pour : Stmt := top 74
theorem sc_L_pour : FnScope ["_law_jug_here", "_law_many", "_law_found", "_law_one", "_law_two"] ["_law_jug_here", "_law_many"] (defScope s_L_pour) := ⟨rfl, rfl, rfl, by decide +kernel, rfl, by decide +kernel, by decide +kernel⟩
abbrev s_L_of : Stmt := top 75
theorem sc_L_of : FnScope ["_law_jug_here", "_law_items"] ["_law_jug_here", "_law_items"] (defScope s_L_of) := ⟨rfl, rfl, rfl, by decide +kernel, rfl, by decide +kernel, by decide +kernel⟩
abbrev s_L_parts : Stmt := top 76
theorem sc_L_parts : FnScope ["_law_number", "_law_found", "_law_left", "_law_prime", "_law_many"] ["_law_number"] (defScope s_L_parts) := ⟨rfl, rfl, rfl, by decide +kernel, rfl, by decide +kernel, by decide +kernel⟩
abbrev s_L_residue : Stmt := top 77
theorem sc_L_residue : FnScope ["_law_number", "_law_prime", "_law_found", "_law_base", "_law_left"] ["_law_number", "_law_prime"] (defScope s_L_residue) := ⟨rfl, rfl, rfl, by decide +kernel, rfl, by decide +kernel, by decide +kernel⟩
abbrev s_L_bare : Stmt := top 78
theorem sc_L_bare : FnScope ["_law_number", "_law_prime", "_law_many"] ["_law_number", "_law_prime"] (defScope s_L_bare) := ⟨rfl, rfl, rfl, by decide +kernel, rfl, by decide +kernel, by decide +kernel⟩
abbrev s_L_sign : Stmt := top 79
theorem sc_L_sign : FnScope ["_law_a", "_law_b", "_law_place", "_law_s", "_law_left", "_law_t", "_law_right_here", "_law_odd", "_law_marks", "_law_found"] ["_law_a", "_law_b", "_law_place"] (defScope s_L_sign) := ⟨rfl, rfl, rfl, by decide +kernel, rfl, by decide +kernel, by decide +kernel⟩
abbrev s_L_places : Stmt := top 80
theorem sc_L_places : FnScope ["_law_a", "_law_b", "_law_near_here", "_law_part", "_law_place"] ["_law_a", "_law_b"] (defScope s_L_places) := ⟨rfl, rfl, rfl, by decide +kernel, rfl, by decide +kernel, by decide +kernel⟩
abbrev s_L_is_local_square : Stmt := top 81
theorem sc_L_is_local_square : FnScope ["_law_number", "_law_place", "_law_many", "_law_left"] ["_law_number", "_law_place"] (defScope s_L_is_local_square) := ⟨rfl, rfl, rfl, by decide +kernel, rfl, by decide +kernel, by decide +kernel⟩
abbrev s_L_times : Stmt := top 82
theorem sc_L_times : FnScope ["_law_a", "_law_b", "_law_one", "_law_other", "_law_w", "_law_x", "_law_y", "_law_z", "_law_s", "_law_t", "_law_u", "_law_v", "_law_first", "_law_second"] ["_law_a", "_law_b", "_law_one", "_law_other"] (defScope s_L_times) := ⟨rfl, rfl, rfl, by decide +kernel, rfl, by decide +kernel, by decide +kernel⟩
abbrev s_L_drawn : Stmt := top 83
theorem sc_L_drawn : FnScope ["_law_jug_here", "_law_most", "_law_found"] ["_law_jug_here", "_law_most"] (defScope s_L_drawn) := ⟨rfl, rfl, rfl, by decide +kernel, rfl, by decide +kernel, by decide +kernel⟩
abbrev s_L_pair : Stmt := top 84
theorem sc_L_pair : FnScope ["_law_jug_here", "_law_most"] ["_law_jug_here"] (defScope s_L_pair) := ⟨rfl, rfl, rfl, by decide +kernel, rfl, by decide +kernel, by decide +kernel⟩
abbrev s_L_squares_to : Stmt := top 85
theorem sc_L_squares_to : FnScope ["_law_algebra", "_law_four", "_law_number", "_law_e"] ["_law_algebra", "_law_four", "_law_number"] (defScope s_L_squares_to) := ⟨rfl, rfl, rfl, by decide +kernel, rfl, by decide +kernel, by decide +kernel⟩
abbrev s_L_is_due : Stmt := top 86
theorem sc_L_is_due : FnScope ["_law_algebra", "_law_number", "_law_value"] ["_law_algebra", "_law_number", "_law_value"] (defScope s_L_is_due) := ⟨rfl, rfl, rfl, by decide +kernel, rfl, by decide +kernel, by decide +kernel⟩
abbrev s_L_near : Stmt := top 87
theorem sc_L_near : FnScope ["_law_jug_here", "_law_algebra", "_law_strange", "_law_root", "_law_some", "_law_place", "_law_turn"] ["_law_jug_here", "_law_algebra", "_law_strange", "_law_root"] (defScope s_L_near) := ⟨rfl, rfl, rfl, by decide +kernel, rfl, by decide +kernel, by decide +kernel⟩
abbrev s_L_right : Stmt := top 88
theorem sc_L_right : FnScope ["_law_jug_here", "_law_a", "_law_b", "_law_algebra", "_law_strange", "_law_x", "_law_y", "_law_z", "_law_at", "_law_number", "_law_root", "_law_is_far", "_law_value", "_law_bars", "_law_place"] ["_law_jug_here"] (defScope s_L_right) := ⟨rfl, rfl, rfl, by decide +kernel, rfl, by decide +kernel, by decide +kernel⟩
abbrev s_L_law : Stmt := top 89
theorem sc_L_law : FnScope ["_law_script", "_law_spot", "_law_plain", "_law_told"] ["_law_script"] (defScope s_L_law) := ⟨rfl, rfl, rfl, by decide +kernel, rfl, by decide +kernel, by decide +kernel⟩
end Sf

namespace Sf
open PySem PySem.Spec PyProof.Rows L2
/-- what the head looks at for a class whose objects are no built-in things -/
def ownTB (K : PySem.W.Frag) (x : Str) : Bool := decide (PySem.W.kitOne K (.ref (He.ga K x)) (.type "int") = some false) && (decide (PySem.W.kitOne K (.ref (He.ga K x)) (.type "bool") = some false) && (decide (PySem.W.kitOne K (.ref (He.ga K x)) (.type "str") = some false) &&
  decide (PySem.W.kitOne K (.ref (He.ga K x)) (.type "tuple") = some false)))
end Sf

namespace Sf
open PySem PySem.Spec PyProof.Rows L2
def d_L_jug : He.DefD := ⟨("_law_jug", none), "_law_jug", "_law_jug", defArgs s_L_jug, defBody s_L_jug, defScope s_L_jug, [], []⟩
def d_L_pour : He.DefD := ⟨("_law_pour", none), "_law_pour", "_law_pour", defArgs s_L_pour, defBody s_L_pour, defScope s_L_pour, [], []⟩
def d_L_of : He.DefD := ⟨("_law_of", none), "_law_of", "_law_of", defArgs s_L_of, defBody s_L_of, defScope s_L_of, [], []⟩
def d_L_drawn : He.DefD := ⟨("_law_drawn", none), "_law_drawn", "_law_drawn", defArgs s_L_drawn, defBody s_L_drawn, defScope s_L_drawn, [], []⟩
def d_L_pair : He.DefD := ⟨("_law_pair", none), "_law_pair", "_law_pair", defArgs s_L_pair, defBody s_L_pair, defScope s_L_pair, [], []⟩
def d_P_check_algebra : He.DefD := ⟨("check_algebra", none), "check_algebra", "check_algebra", defArgs s_P_check_algebra, defBody s_P_check_algebra, defScope s_P_check_algebra, [], []⟩
def d_P_is_integer : He.DefD := ⟨("is_integer", none), "is_integer", "is_integer", defArgs s_P_is_integer, defBody s_P_is_integer, defScope s_P_is_integer, [], []⟩
def d_P_is_passed : He.DefD := ⟨("is_passed", none), "is_passed", "is_passed", defArgs s_P_is_passed, defBody s_P_is_passed, defScope s_P_is_passed, [], []⟩
def d_P_is_passed_entries : He.DefD := ⟨("is_passed_entries", none), "is_passed_entries", "is_passed_entries", defArgs s_P_is_passed_entries, defBody s_P_is_passed_entries, defScope s_P_is_passed_entries, [], []⟩
def d_P_lowest_entries : He.DefD := ⟨("lowest_entries", none), "lowest_entries", "lowest_entries", defArgs s_P_lowest_entries, defBody s_P_lowest_entries, defScope s_P_lowest_entries, [], []⟩
def d_P_lowest_terms : He.DefD := ⟨("lowest_terms", none), "lowest_terms", "lowest_terms", defArgs s_P_lowest_terms, defBody s_P_lowest_terms, defScope s_P_lowest_terms, [], []⟩
def d_P_sign_of : He.DefD := ⟨("sign_of", none), "sign_of", "sign_of", defArgs s_P_sign_of, defBody s_P_sign_of, defScope s_P_sign_of, [], []⟩
def d_P_Ratio___init__ : He.DefD := ⟨("Ratio", some "__init__"), "__init__", "Ratio.__init__", defArgs s_P_Ratio___init__, defBody s_P_Ratio___init__, defScope s_P_Ratio___init__, [.int 1], []⟩
def d_P_made_ratio : He.DefD := ⟨("made_ratio", none), "made_ratio", "made_ratio", defArgs s_P_made_ratio, defBody s_P_made_ratio, defScope s_P_made_ratio, [], []⟩
def d_P_norm_of : He.DefD := ⟨("norm_of", none), "norm_of", "norm_of", defArgs s_P_norm_of, defBody s_P_norm_of, defScope s_P_norm_of, [], []⟩
def d_P_Four___init__ : He.DefD := ⟨("Four", some "__init__"), "__init__", "Four.__init__", defArgs s_P_Four___init__, defBody s_P_Four___init__, defScope s_P_Four___init__, [.int 1], []⟩
def d_P_Algebra___eq__ : He.DefD := ⟨("Algebra", some "__eq__"), "__eq__", "Algebra.__eq__", defArgs s_P_Algebra___eq__, defBody s_P_Algebra___eq__, defScope s_P_Algebra___eq__, [], []⟩
def d_P_check_operands : He.DefD := ⟨("check_operands", none), "check_operands", "check_operands", defArgs s_P_check_operands, defBody s_P_check_operands, defScope s_P_check_operands, [], []⟩
def d_P_made_four : He.DefD := ⟨("made_four", none), "made_four", "made_four", defArgs s_P_made_four, defBody s_P_made_four, defScope s_P_made_four, [], []⟩
def d_P_Four___add__ : He.DefD := ⟨("Four", some "__add__"), "__add__", "Four.__add__", defArgs s_P_Four___add__, defBody s_P_Four___add__, defScope s_P_Four___add__, [], []⟩
def d_P_Four___neg__ : He.DefD := ⟨("Four", some "__neg__"), "__neg__", "Four.__neg__", defArgs s_P_Four___neg__, defBody s_P_Four___neg__, defScope s_P_Four___neg__, [], []⟩
def d_P_is_fraction : He.DefD := ⟨("is_fraction", none), "is_fraction", "is_fraction", defArgs s_P_is_fraction, defBody s_P_is_fraction, defScope s_P_is_fraction, [], []⟩
def d_P_check_ratio : He.DefD := ⟨("check_ratio", none), "check_ratio", "check_ratio", defArgs s_P_check_ratio, defBody s_P_check_ratio, defScope s_P_check_ratio, [], []⟩
def d_P_terms_of : He.DefD := ⟨("terms_of", none), "terms_of", "terms_of", defArgs s_P_terms_of, defBody s_P_terms_of, defScope s_P_terms_of, [], []⟩
def d_P_Four_scaled : He.DefD := ⟨("Four", some "scaled"), "scaled", "Four.scaled", defArgs s_P_Four_scaled, defBody s_P_Four_scaled, defScope s_P_Four_scaled, [], []⟩
def d_L_near : He.DefD := ⟨("_law_near", none), "_law_near", "_law_near", defArgs s_L_near, defBody s_L_near, defScope s_L_near, [], []⟩
def d_P_is_square : He.DefD := ⟨("is_square", none), "is_square", "is_square", defArgs s_P_is_square, defBody s_P_is_square, defScope s_P_is_square, [], []⟩
def d_P_check_side : He.DefD := ⟨("check_side", none), "check_side", "check_side", defArgs s_P_check_side, defBody s_P_check_side, defScope s_P_check_side, [], []⟩
def d_P_check_root : He.DefD := ⟨("check_root", none), "check_root", "check_root", defArgs s_P_check_root, defBody s_P_check_root, defScope s_P_check_root, [], []⟩
def d_P_is_four_of : He.DefD := ⟨("is_four_of", none), "is_four_of", "is_four_of", defArgs s_P_is_four_of, defBody s_P_is_four_of, defScope s_P_is_four_of, [], []⟩
def d_P_Algebra_basis : He.DefD := ⟨("Algebra", some "basis"), "basis", "Algebra.basis", defArgs s_P_Algebra_basis, defBody s_P_Algebra_basis, defScope s_P_Algebra_basis, [], []⟩
def d_P_Four___eq__ : He.DefD := ⟨("Four", some "__eq__"), "__eq__", "Four.__eq__", defArgs s_P_Four___eq__, defBody s_P_Four___eq__, defScope s_P_Four___eq__, [], []⟩
def d_P_product_entries : He.DefD := ⟨("product_entries", none), "product_entries", "product_entries", defArgs s_P_product_entries, defBody s_P_product_entries, defScope s_P_product_entries, [], []⟩
def d_P_Four___mul__ : He.DefD := ⟨("Four", some "__mul__"), "__mul__", "Four.__mul__", defArgs s_P_Four___mul__, defBody s_P_Four___mul__, defScope s_P_Four___mul__, [], []⟩
def d_P_is_root : He.DefD := ⟨("is_root", none), "is_root", "is_root", defArgs s_P_is_root, defBody s_P_is_root, defScope s_P_is_root, [], []⟩
def d_P_check_number : He.DefD := ⟨("check_number", none), "check_number", "check_number", defArgs s_P_check_number, defBody s_P_check_number, defScope s_P_check_number, [], []⟩
def d_P_next_divisor : He.DefD := ⟨("next_divisor", none), "next_divisor", "next_divisor", defArgs s_P_next_divisor, defBody s_P_next_divisor, defScope s_P_next_divisor, [], []⟩
def d_P_is_prime : He.DefD := ⟨("is_prime", none), "is_prime", "is_prime", defArgs s_P_is_prime, defBody s_P_is_prime, defScope s_P_is_prime, [], []⟩
def d_P_check_place : He.DefD := ⟨("check_place", none), "check_place", "check_place", defArgs s_P_check_place, defBody s_P_check_place, defScope s_P_check_place, [], []⟩
def d_P_stripped : He.DefD := ⟨("stripped", none), "stripped", "stripped", defArgs s_P_stripped, defBody s_P_stripped, defScope s_P_stripped, [], []⟩
def d_P_power_modulo : He.DefD := ⟨("power_modulo", none), "power_modulo", "power_modulo", defArgs s_P_power_modulo, defBody s_P_power_modulo, defScope s_P_power_modulo, [], []⟩
def d_P_rest_sign : He.DefD := ⟨("rest_sign", none), "rest_sign", "rest_sign", defArgs s_P_rest_sign, defBody s_P_rest_sign, defScope s_P_rest_sign, [], []⟩
def d_P_square_unit : He.DefD := ⟨("square_unit", none), "square_unit", "square_unit", defArgs s_P_square_unit, defBody s_P_square_unit, defScope s_P_square_unit, [], []⟩
def d_P_is_square_at : He.DefD := ⟨("is_square_at", none), "is_square_at", "is_square_at", defArgs s_P_is_square_at, defBody s_P_is_square_at, defScope s_P_is_square_at, [], []⟩
def d_P_square_places : He.DefD := ⟨("square_places", none), "square_places", "square_places", defArgs s_P_square_places, defBody s_P_square_places, defScope s_P_square_places, [], []⟩
def d_P_is_root_paper : He.DefD := ⟨("is_root_paper", none), "is_root_paper", "is_root_paper", defArgs s_P_is_root_paper, defBody s_P_is_root_paper, defScope s_P_is_root_paper, [], []⟩
def d_L_times : He.DefD := ⟨("_law_times", none), "_law_times", "_law_times", defArgs s_L_times, defBody s_L_times, defScope s_L_times, [], []⟩
def d_L_squares_to : He.DefD := ⟨("_law_squares_to", none), "_law_squares_to", "_law_squares_to", defArgs s_L_squares_to, defBody s_L_squares_to, defScope s_L_squares_to, [], []⟩
def d_L_parts : He.DefD := ⟨("_law_parts", none), "_law_parts", "_law_parts", defArgs s_L_parts, defBody s_L_parts, defScope s_L_parts, [], []⟩
def d_L_bare : He.DefD := ⟨("_law_bare", none), "_law_bare", "_law_bare", defArgs s_L_bare, defBody s_L_bare, defScope s_L_bare, [], []⟩
def d_L_residue : He.DefD := ⟨("_law_residue", none), "_law_residue", "_law_residue", defArgs s_L_residue, defBody s_L_residue, defScope s_L_residue, [], []⟩
def d_L_sign : He.DefD := ⟨("_law_sign", none), "_law_sign", "_law_sign", defArgs s_L_sign, defBody s_L_sign, defScope s_L_sign, [], []⟩
def d_L_places : He.DefD := ⟨("_law_places", none), "_law_places", "_law_places", defArgs s_L_places, defBody s_L_places, defScope s_L_places, [], []⟩
def d_L_is_local_square : He.DefD := ⟨("_law_is_local_square", none), "_law_is_local_square", "_law_is_local_square", defArgs s_L_is_local_square, defBody s_L_is_local_square, defScope s_L_is_local_square, [], []⟩
def d_L_is_due : He.DefD := ⟨("_law_is_due", none), "_law_is_due", "_law_is_due", defArgs s_L_is_due, defBody s_L_is_due, defScope s_L_is_due, [], []⟩
def d_P_has_root : He.DefD := ⟨("has_root", none), "has_root", "has_root", defArgs s_P_has_root, defBody s_P_has_root, defScope s_P_has_root, [], []⟩
def d_P_prime_powers : He.DefD := ⟨("prime_powers", none), "prime_powers", "prime_powers", defArgs s_P_prime_powers, defBody s_P_prime_powers, defScope s_P_prime_powers, [], []⟩
def d_P_factors : He.DefD := ⟨("factors", none), "factors", "factors", defArgs s_P_factors, defBody s_P_factors, defScope s_P_factors, [], []⟩
def d_P_quarter : He.DefD := ⟨("quarter", none), "quarter", "quarter", defArgs s_P_quarter, defBody s_P_quarter, defScope s_P_quarter, [], []⟩
def d_P_eighth : He.DefD := ⟨("eighth", none), "eighth", "eighth", defArgs s_P_eighth, defBody s_P_eighth, defScope s_P_eighth, [], []⟩
def d_P_sign_at_two : He.DefD := ⟨("sign_at_two", none), "sign_at_two", "sign_at_two", defArgs s_P_sign_at_two, defBody s_P_sign_at_two, defScope s_P_sign_at_two, [], []⟩
def d_P_sign_at_odd : He.DefD := ⟨("sign_at_odd", none), "sign_at_odd", "sign_at_odd", defArgs s_P_sign_at_odd, defBody s_P_sign_at_odd, defScope s_P_sign_at_odd, [], []⟩
def d_P_sign : He.DefD := ⟨("sign", none), "sign", "sign", defArgs s_P_sign, defBody s_P_sign, defScope s_P_sign, [], []⟩
def d_P_signed_places : He.DefD := ⟨("signed_places", none), "signed_places", "signed_places", defArgs s_P_signed_places, defBody s_P_signed_places, defScope s_P_signed_places, [], []⟩
def d_P_product_of_primes : He.DefD := ⟨("product_of_primes", none), "product_of_primes", "product_of_primes", defArgs s_P_product_of_primes, defBody s_P_product_of_primes, defScope s_P_product_of_primes, [], []⟩
def d_P_Algebra___init__ : He.DefD := ⟨("Algebra", some "__init__"), "__init__", "Algebra.__init__", defArgs s_P_Algebra___init__, defBody s_P_Algebra___init__, defScope s_P_Algebra___init__, [], []⟩
def d_L_right : He.DefD := ⟨("_law_right", none), "_law_right", "_law_right", defArgs s_L_right, defBody s_L_right, defScope s_L_right, [], []⟩
def d_L_law : He.DefD := ⟨("law", none), "law", "law", defArgs s_L_law, defBody s_L_law, defScope s_L_law, [], []⟩
def fn : List He.DefD := [d_L_jug, d_L_pour, d_L_of, d_L_drawn, d_L_pair, d_P_check_algebra, d_P_is_integer, d_P_is_passed, d_P_is_passed_entries, d_P_lowest_entries, d_P_lowest_terms, d_P_sign_of, d_P_Ratio___init__, d_P_made_ratio, d_P_norm_of, d_P_Four___init__, d_P_Algebra___eq__, d_P_check_operands, d_P_made_four, d_P_Four___add__, d_P_Four___neg__, d_P_is_fraction, d_P_check_ratio, d_P_terms_of, d_P_Four_scaled, d_L_near, d_P_is_square, d_P_check_side, d_P_check_root, d_P_is_four_of, d_P_Algebra_basis, d_P_Four___eq__, d_P_product_entries, d_P_Four___mul__, d_P_is_root, d_P_check_number, d_P_next_divisor, d_P_is_prime, d_P_check_place, d_P_stripped, d_P_power_modulo, d_P_rest_sign, d_P_square_unit, d_P_is_square_at, d_P_square_places, d_P_is_root_paper, d_L_times, d_L_squares_to, d_L_parts, d_L_bare, d_L_residue, d_L_sign, d_L_places, d_L_is_local_square, d_L_is_due, d_P_has_root, d_P_prime_powers, d_P_factors, d_P_quarter, d_P_eighth, d_P_sign_at_two, d_P_sign_at_odd, d_P_sign, d_P_signed_places, d_P_product_of_primes, d_P_Algebra___init__, d_L_right, d_L_law]
def fa : List He.Fa := ([.glo "_law_jug", .glo "_law_pour", .glo "_law_of", .glo "_law_drawn", .glo "_law_pair", .glo "check_algebra", .glo "is_integer", .glo "is_passed", .glo "is_passed_entries", .glo "lowest_entries", .glo "lowest_terms", .glo "sign_of", .glo "made_ratio", .glo "norm_of", .glo "check_operands", .glo "made_four", .glo "is_fraction", .glo "check_ratio", .glo "terms_of", .glo "_law_near", .glo "is_square", .glo "check_side", .glo "check_root", .glo "is_four_of", .glo "product_entries", .glo "is_root", .glo "check_number", .glo "next_divisor", .glo "is_prime", .glo "check_place"] : List He.Fa) ++ ([.glo "stripped", .glo "power_modulo", .glo "rest_sign", .glo "square_unit", .glo "is_square_at", .glo "square_places", .glo "is_root_paper", .glo "_law_times", .glo "_law_squares_to", .glo "_law_parts", .glo "_law_bare", .glo "_law_residue", .glo "_law_sign", .glo "_law_places", .glo "_law_is_local_square", .glo "_law_is_due", .glo "has_root", .glo "prime_powers", .glo "factors", .glo "quarter", .glo "eighth", .glo "sign_at_two", .glo "sign_at_odd", .glo "sign", .glo "signed_places", .glo "product_of_primes", .glo "_law_right", .glo "law", .free "isinstance", .free "int"] : List He.Fa) ++ ([.free "bool", .free "abs", .free "str", .free "sorted", .free "tuple", .free "set", .free "len", .free "zip", .free "any", .free "all", .free "max", .free "sum", .free "list", .free "range", .free "repr", .free "min", .int "TOO_LONG" 1000000000000000000000000000000000000000000000000000000000000, .int "MAX_NUMBER" 1000000000, .int "MAX_POWER" 1000, .int "MAX_SIDE" 10000, .glo "Algebra", .cls "Algebra", .noat "Algebra" "places", .noat "Algebra" "a", .noat "Algebra" "b", .noat "Algebra" "discriminant", .noat "Algebra" "is_tables", .noat "Algebra" "is_definite", .glo "Ratio", .cls "Ratio"] : List He.Fa) ++ ([.noat "Ratio" "top", .noat "Ratio" "bottom", .noat "Ratio" "sign", .mkr "Ratio", .glo "Four", .cls "Four", .noat "Four" "algebra", .noat "Four" "entries", .noat "Four" "bottom", .noat "Four" "trace", .noat "Four" "norm", .noat "Four" "is_ratio", .meth "Algebra" "__eq__", .mkr "Four", .meth "Four" "__add__", .meth "Four" "__neg__", .meth "Four" "scaled", .meth "Algebra" "basis", .meth "Four" "__eq__", .meth "Four" "__mul__", .mkr "Algebra"] : List He.Fa)
def ex (K : PySem.W.Frag) : Bool := gblB K "gcd" "math.gcd" && (gblB K "isqrt" "math.isqrt" && (ownB K "Algebra" && (ownB K "Ratio" && (ownB K "Four" && (ownTB K "Four" && (true))))))
abbrev R : PySem.W.OpenRow := PySem.W.OpenLaw.row PySem.Challenge.rw_signfours_k25_root_papers_judged
abbrev hk : PySem.W.Hook := hookO 4 fa fn ex
def ob (s : PySem.W.SharedT) : AlO := obsO 4 fa fn ex (HandSHeadRun.getT s)
theorem ob_eq (s : PySem.W.SharedT) : ob s = hk.obs s.abs := obsO_eq (HandSHeadRun.getT_eq s)
def loose : List Str := (["_wall", "TOO_LONG", "is_integer", "is_passed", "FourError", "InvalidRatio", "InvalidAlgebra", "InvalidFour", "InvalidOperation", "ParseError", "InvalidNumber", "TooMany", "Refused", "Ratio", "made_ratio", "lowest_terms", "sign_of", "is_fraction", "check_ratio", "terms_of", "is_digits", "MAX_NUMBER", "is_prime", "factors", "prime_powers", "check_number", "next_divisor", "stripped", "rest_sign", "power_modulo"] : List Str) ++ (["square_unit", "signed_places", "is_square_at", "check_place", "sign", "sign_at_two", "quarter", "eighth", "sign_at_odd", "MAX_POWER", "LETTERS", "Algebra", "Four", "made_four", "check_algebra", "is_four_of", "check_operands", "is_passed_entries", "product_of_primes", "lowest_entries", "mate_entries", "norm_of", "product_entries", "written_terms", "written_term", "MAX_SIDE", "is_root_paper", "has_root", "check_root", "check_side"] : List Str) ++ (["is_square", "is_root", "square_places", "_law_jug", "_law_pour", "_law_of", "_law_parts", "_law_residue", "_law_bare", "_law_sign", "_law_places", "_law_is_local_square", "_law_times", "_law_drawn", "_law_pair", "_law_squares_to", "_law_is_due", "_law_near", "_law_right"] : List Str)
set_option maxHeartbeats 0 in
theorem run (w : World) : HandSHeadRun.RunEqI R (PySem.W.view R.prog [0, 89]) hk ob 20000 loose w := by
  unfold HandSHeadRun.RunEqI
  kernel_rfl
end Sf

namespace Sf
open PySem PySem.Spec PyProof.Rows L2
abbrev FnD (K : PySem.W.Frag) (x qual : Str) (st : Stmt) (f : Addr) (fd : FuncData) : Prop := FunD K x qual (defArgs st) (defBody st) (defScope st) [] [] f fd
/-- a def with defaults -/
abbrev FnDD (K : PySem.W.Frag) (x qual : Str) (st : Stmt) (dvs : List V) (f : Addr) (fd : FuncData) : Prop := FunD K x qual (defArgs st) (defBody st) (defScope st) dvs [] f fd
theorem lt3000 {a : Int} (h0 : 0 ≤ a) (h : a < 10 ^ 400) : a.natAbs < 2 ^ 3000 := by
  have h1 : (10 : Int) ^ 400 < 2 ^ 3000 := by decide +kernel
  have h2 : ((a.natAbs : Nat) : Int) < ((2 ^ 3000 : Nat) : Int) := by
    rw [Int.natAbs_of_nonneg h0]
    exact Int.lt_trans h h1
  exact Int.ofNat_lt.mp h2
theorem lt3000s {a : Int} (h0 : -1000000000000000000000000000000 < a) (h : a < 1000000000000000000000000000000) : a.natAbs < 2 ^ 3000 := Nat.lt_trans (by omega : a.natAbs < 1000000000000000000000000000000) (by decide +kernel)
theorem inV_two (x a b : Int) : inV (.int x) [.int a, .int b] = decide (x = a ∨ x = b) := by
  show ((a == x) || ((b == x) || false)) = _
  rw [Bool.or_false, Bool.eq_iff_iff]
  simp only [Bool.or_eq_true, beq_iff_eq, decide_eq_true_eq]
  constructor
  · rintro (h | h)
    · exact .inl h.symm
    · exact .inr h.symm
  · rintro (h | h)
    · exact .inl h.symm
    · exact .inr h.symm
theorem inV_ints (x : Int) (l : List Int) : inV (.int x) (l.map V.int) = decide (x ∈ l) := by
  unfold inV
  rw [List.any_map, Bool.eq_iff_iff, List.any_eq_true]
  simp only [decide_eq_true_eq]
  constructor
  · rintro ⟨y, hy, e⟩
    have e2 : (y == x) = true := e
    rw [← beq_iff_eq.mp e2]
    exact hy
  · intro h
    refine ⟨x, h, ?_⟩
    show (x == x) = true
    exact beq_self_eq_true x
theorem all_flat (l : List Int) : (l.map V.int).all flatV = true := by
  rw [List.all_map, List.all_eq_true]
  intro x _
  rfl
end Sf

namespace Sf
open PySem PySem.Spec PyProof.Rows L2
section
variable {P : Program} {w : World} {K : PySem.W.Frag} {mg : Str → Option Value} {base : Heap} {f : Addr} {fd : FuncData}
def spNext : Sp := fun vs H Q _ => ∃ d : Int, vs = [.int d] ∧ Q (.int (if d = 2 then 3 else d + 2)) H
theorem ok_next (F : FnD K "next_divisor" "next_divisor" s_P_next_divisor f fd) : FnOk P w K mg base CX0 1 f fd ["divisor"] spNext := by
  refine F.ok sc_P_next_divisor (fun vs H Q E h => ?_) (fun cdv A outer s H vs Q E hr h => ?_)
  · obtain ⟨d, rfl, _⟩ := h; rfl
  · obtain ⟨d, rfl, q⟩ := h
    refine ⟨_, PSs.nox (pss_one (ps_ret (pe_ifExp (pt_cmp (pc_eqI (pv 0) pe_int)) pe_int (pe_op op_add (pv 0) pe_int)))), ?_⟩
    refine ⟨_, rfl, _, _, rfl, rfl, _, rfl, ifd (fun h => ?_) (fun h => ?_)⟩
    · rw [if_pos h] at q
      exact q
    · rw [if_neg h] at q
      exact ⟨_, rfl, _, _, rfl, rfl, q⟩
end
end Sf

namespace Sf
open PySem PySem.Spec PyProof.Rows L2
section
variable {P : Program} {w : World} {K : PySem.W.Frag} {mg : Str → Option Value} {base : Heap} {f : Addr} {fd : FuncData}
/-- what is left of a number other than 0, and how often p was taken out -/
def Strip (n p : Int) (m : Nat) (u : Int) : Prop := n = p ^ m * u ∧ u % p ≠ 0
def spStripped : Sp := fun vs H Q _ => ∃ n p : Int, vs = [.int n, .int p] ∧ n ≠ 0 ∧ 2 ≤ p ∧ p.natAbs < 2 ^ 3000 ∧
  ∀ (m : Nat) (u : Int) (a : Addr), Strip n p m u → H a = none → Q (.ref a) (upd H a (.tup [.int m, .int u]))
theorem strip_less {u p : Int} (hu : u ≠ 0) (hp : 2 ≤ p) (h : u % p = 0) : (u / p).natAbs < u.natAbs ∧ u / p ≠ 0 ∧ u = p * (u / p) := by
  have e : u = p * (u / p) := by
    have := Int.emod_add_mul_ediv u p
    omega
  have h2 : u / p ≠ 0 := fun z => by
    rw [z] at e
    omega
  refine ⟨?_, h2, e⟩
  have e2 : u.natAbs = p.natAbs * (u / p).natAbs := by
    conv => lhs; rw [e]
    exact Int.natAbs_mul _ _
  have h3 : 0 < (u / p).natAbs := by omega
  have h4 : 2 ≤ p.natAbs := by omega
  have h5 : 2 * (u / p).natAbs ≤ p.natAbs * (u / p).natAbs := Nat.mul_le_mul_right _ h4
  omega
theorem ok_stripped (F : FnD K "stripped" "stripped" s_P_stripped f fd) : FnOk P w K mg base CX0 1 f fd ["number", "prime"] spStripped := by
  refine F.ok sc_P_stripped (fun vs H Q E h => ?_) (fun cdv A outer s H vs Q E hr h => ?_)
  · obtain ⟨n, p, rfl, _⟩ := h; rfl
  · obtain ⟨n, p, rfl, hn, hp, hb, q⟩ := h
    refine ⟨_, PSs.nox (pss_cons (ps_set (i := 2) sc_P_stripped.nd rfl (Or.inl rfl) pe_int)
      (pss_cons (ps_while PassesOwn.never (pt_cmp (pc_eqI (pe_op op_mod (pv 0) (pv 1)) pe_int)) (pss_cons (ps_set (i := 2) sc_P_stripped.nd rfl (Or.inl rfl) (pe_op op_add (pv 2) pe_int))
      (pss_one (ps_set (i := 0) sc_P_stripped.nd rfl (Or.inl rfl) (pe_op op_fdivW (pv 0) (pv 1))))))
      (pss_one (ps_ret (pe_tup (pa_cons (pv 2) (pa_cons (pv 0) pa_nil))))))), ?_⟩
    refine ⟨fun c σ H' => H' = H ∧ ∃ (m : Nat) (u : Int), σ = [some (.int u), some (.int p), some (.int m)] ∧ n = p ^ m * u ∧ u ≠ 0 ∧ c = u.natAbs, ⟨_, rfl, 0, n, rfl, by simp, hn, rfl⟩, ?_⟩
    rintro c σ _ ⟨rfl, m, u, rfl, e, hu, rfl⟩
    refine ⟨_, rfl, _, rfl, _, _, rfl, rfl, (by omega), _, _, rfl, rfl, _, rfl, ifd (fun h => ⟨_, fun _ _ z => z, ?_⟩) (fun h => ?_)⟩
    · have hl := strip_less hu hp h
      refine ⟨_, rfl, _, _, rfl, rfl, _, rfl, _, rfl, _, _, rfl, rfl, CDivW.of (by omega) hb, ?_⟩
      refine ⟨_, hl.1, rfl, m + 1, u / p, rfl, ?_, hl.2.1, rfl⟩
      rw [e, Int.pow_succ, Int.mul_assoc, ← hl.2.2]
    · refine ⟨_, rfl, _, rfl, (by show 2 ≤ sizeLine; decide), fun a ha => ?_⟩
      exact q m u a ⟨e, h⟩ ha
end
end Sf

namespace Sf
open PySem PySem.Spec PyProof.Rows L2
section
variable {P : Program} {w : World} {K : PySem.W.Frag} {mg : Str → Option Value} {base : Heap} {f : Addr} {fd : FuncData}
theorem pow_mod (a m : Int) (k : Nat) : (a % m) ^ k % m = a ^ k % m := by
  induction k with
  | zero => rw [Int.pow_zero, Int.pow_zero]
  | succ k ih => rw [Int.pow_succ, Int.pow_succ, Int.mul_emod, ih, Int.emod_emod_of_dvd _ (Int.dvd_refl _), ← Int.mul_emod]
/-- a power, reduced -/
def spPowMod : Sp := fun vs H Q _ => ∃ n k m : Int, vs = [.int n, .int k, .int m] ∧ 0 ≤ k ∧ 1 ≤ m ∧ m.natAbs < 2 ^ 1000 ∧ Q (.int (n ^ k.toNat % m)) H
theorem mod_lt3000 {a m : Int} (h1 : 1 ≤ m) (hb : m.natAbs < 2 ^ 1000) : (a % m).natAbs < 2 ^ 3000 := by
  have h2 := Int.emod_nonneg a (by omega : m ≠ 0)
  have h3 := Int.emod_lt_of_pos a (by omega : 0 < m)
  have h4 : (a % m).natAbs < 2 ^ 1000 := by omega
  exact Nat.lt_trans h4 (by decide +kernel)
theorem pow_half (a : Int) (k : Int) (hk : 0 < k) : a ^ k.toNat = (a * a) ^ (k / 2).toNat * a ^ (k % 2).toNat := by
  have e : k.toNat = (k / 2).toNat + (k / 2).toNat + (k % 2).toNat := by omega
  rw [e, Int.pow_add, Int.pow_add, Int.mul_pow]
theorem ok_powmod (F : FnD K "power_modulo" "power_modulo" s_P_power_modulo f fd) : FnOk P w K mg base CX0 1 f fd ["number", "many", "modulus"] spPowMod := by
  refine F.ok sc_P_power_modulo (fun vs H Q E h => ?_) (fun cdv A outer s H vs Q E hr h => ?_)
  · obtain ⟨n, k, m, rfl, _⟩ := h; rfl
  · obtain ⟨n, k, m, rfl, hk, hm, hb, q⟩ := h
    refine ⟨_, PSs.nox (pss_cons (ps_set (i := 3) sc_P_power_modulo.nd rfl (Or.inl rfl) (pe_op op_mod pe_int (pv 2)))
      (pss_cons (ps_set (i := 4) sc_P_power_modulo.nd rfl (Or.inl rfl) (pe_op op_mod (pv 0) (pv 2)))
      (pss_cons (ps_while PassesOwn.never (pt_cmp (pc_gt (pv 1) pe_int)) (pss_cons (ps_if (pt_cmp (pc_eqI (pe_op op_mod (pv 1) pe_int) pe_int)) (pss_one (ps_set (i := 3) sc_P_power_modulo.nd rfl (Or.inl rfl) (pe_op op_mod (pe_op op_mulW (pv 3) (pv 4)) (pv 2)))) pss_nil)
      (pss_cons (ps_set (i := 4) sc_P_power_modulo.nd rfl (Or.inl rfl) (pe_op op_mod (pe_op op_mulW (pv 4) (pv 4)) (pv 2)))
      (pss_one (ps_set (i := 1) sc_P_power_modulo.nd rfl (Or.inl rfl) (pe_op op_fdivW (pv 1) pe_int))))))
      (pss_one (ps_ret (pv 3)))))), ?_⟩
    have hm0 : (0 : Int) < m := by omega
    refine ⟨_, rfl, _, _, rfl, rfl, hm0, _, rfl, _, rfl, _, _, rfl, rfl, hm0, ?_⟩
    refine ⟨fun c σ H' => H' = H ∧ ∃ k' made sq : Int, σ = [some (.int n), some (.int k'), some (.int m), some (.int made), some (.int sq)] ∧ 0 ≤ k' ∧ (made * sq ^ k'.toNat) % m = n ^ k.toNat % m ∧ made % m = made ∧ made.natAbs < 2 ^ 3000 ∧ sq.natAbs < 2 ^ 3000 ∧ c = k'.toNat,
      ⟨_, rfl, k, 1 % m, n % m, rfl, hk, ?_, Int.emod_emod_of_dvd _ (Int.dvd_refl _), mod_lt3000 hm hb, mod_lt3000 hm hb, rfl⟩, ?_⟩
    · rw [Int.mul_emod, Int.emod_emod_of_dvd _ (Int.dvd_refl _), ← Int.mul_emod, Int.one_mul]
      exact pow_mod _ _ _
    rintro c σ _ ⟨rfl, k', made, sq, rfl, hk', e, em, b1, b2, rfl⟩
    refine ⟨_, rfl, _, _, rfl, rfl, _, rfl, ifd (fun h => ⟨_, fun _ _ z => z, ?_⟩) (fun h => ?_)⟩
    · have hh := pow_half sq k' h
      have hsq : ((sq * sq) ^ (k' / 2).toNat) % m = ((sq * sq % m) ^ (k' / 2).toNat) % m := (pow_mod _ _ _).symm
      refine ⟨_, rfl, _, _, rfl, rfl, (by show (0 : Int) < 2; decide), _, _, rfl, rfl, _, rfl, ifd (fun h2 => ?_) (fun h2 => ?_)⟩
      · refine ⟨_, rfl, _, rfl, _, _, rfl, rfl, CMulW.of b1 b2, _, rfl, _, _, rfl, rfl, hm0, ?_⟩
        refine ⟨_, rfl, _, rfl, _, _, rfl, rfl, CMulW.of b2 b2, _, rfl, _, _, rfl, rfl, hm0, ?_⟩
        refine ⟨_, rfl, _, _, rfl, rfl, CDivW.of (by decide) (by decide +kernel), ?_⟩
        refine ⟨_, ?_, rfl, k' / 2, _, _, rfl, by omega, ?_, Int.emod_emod_of_dvd _ (Int.dvd_refl _), mod_lt3000 hm hb, mod_lt3000 hm hb, rfl⟩
        · omega
        · rw [← e, hh, h2]
          show made * sq % m * (sq * sq % m) ^ (k' / 2).toNat % m = made * ((sq * sq) ^ (k' / 2).toNat * sq ^ 1) % m
          rw [Int.mul_emod, ← hsq, Int.emod_emod_of_dvd _ (Int.dvd_refl _), ← Int.mul_emod, Int.pow_one]
          congr 1
          rw [Int.mul_assoc, Int.mul_comm sq]
      · refine ⟨_, rfl, _, rfl, _, _, rfl, rfl, CMulW.of b2 b2, _, rfl, _, _, rfl, rfl, hm0, ?_⟩
        refine ⟨_, rfl, _, _, rfl, rfl, CDivW.of (by decide) (by decide +kernel), ?_⟩
        refine ⟨_, ?_, rfl, k' / 2, _, _, rfl, by omega, ?_, em, b1, mod_lt3000 hm hb, rfl⟩
        · omega
        · have h3 : k' % 2 = 0 := by omega
          rw [← e, hh, h3]
          show made * (sq * sq % m) ^ (k' / 2).toNat % m = made * ((sq * sq) ^ (k' / 2).toNat * sq ^ 0) % m
          rw [Int.mul_emod, ← hsq, ← Int.mul_emod, Int.pow_zero, Int.mul_one]
    · have h3 : k' = 0 := by omega
      subst h3
      have e2 : made = n ^ k.toNat % m := by
        rw [← e]
        show made = made * sq ^ 0 % m
        rw [Int.pow_zero, Int.mul_one, em]
      refine ⟨_, rfl, ?_⟩
      rw [e2]
      exact q
end
end Sf

namespace Sf
/-! primes by trial -/
def PrP (n : Int) : Prop := 2 ≤ n ∧ ∀ k : Int, 2 ≤ k → k < n → n % k ≠ 0
theorem prp_of_trial {n d : Int} (hn : 2 ≤ n) (hd : 2 ≤ d) (h : ∀ k : Int, 2 ≤ k → k < d → n % k ≠ 0) (hl : n < d * d) : PrP n := by
  refine ⟨hn, fun k h2 hk hz => ?_⟩
  by_cases hkd : k < d
  · exact h k h2 hkd hz
  · have e : n = k * (n / k) := by
      have := Int.emod_add_mul_ediv n k
      omega
    have hm0 : 0 < n / k := by
      rcases Int.lt_or_le 0 (n / k) with z | z
      · exact z
      · have : k * (n / k) ≤ 0 := Int.mul_nonpos_of_nonneg_of_nonpos (by omega) z
        omega
    have hm1 : n / k ≠ 1 := fun z => by
      rw [z] at e
      omega
    have h3 : d * (n / k) ≤ k * (n / k) := Int.mul_le_mul_of_nonneg_right (by omega) (by omega)
    have h4 : d * (n / k) < d * d := by omega
    have h5 : n / k < d := Int.lt_of_mul_lt_mul_left h4 (by omega)
    refine h (n / k) (by omega) h5 ?_
    rw [e]
    exact Int.emod_eq_zero_of_dvd ⟨k, by rw [Int.mul_ediv_cancel_left _ (by omega : k ≠ 0)]; exact Int.mul_comm _ _⟩
/-- no divisor below d; d is 2 or odd -/
def NoDiv (n d : Int) : Prop := 2 ≤ d ∧ (d = 2 ∨ d % 2 = 1) ∧ ∀ k : Int, 2 ≤ k → k < d → n % k ≠ 0
theorem nodiv2 (n : Int) : NoDiv n 2 := ⟨by omega, .inl rfl, fun k h1 h2 => by omega⟩
theorem mod_of_dvd {n a b : Int} (h : n % b = 0) (hb : b % a = 0) : n % a = 0 := by
  have h1 : b ∣ n := Int.dvd_of_emod_eq_zero h
  have h2 : a ∣ b := Int.dvd_of_emod_eq_zero hb
  exact Int.emod_eq_zero_of_dvd (Int.dvd_trans h2 h1)
theorem nodiv_next {n d : Int} (h : NoDiv n d) (hd : n % d ≠ 0) : NoDiv n (if d = 2 then 3 else d + 2) := by
  obtain ⟨h1, h2, h3⟩ := h
  by_cases e : d = 2
  · rw [if_pos e]
    refine ⟨by omega, .inr rfl, fun k a b => ?_⟩
    have : k = d := by omega
    rw [this]
    exact hd
  · rw [if_neg e]
    refine ⟨by omega, .inr (by omega), fun k a b => ?_⟩
    by_cases c : k < d
    · exact h3 k a c
    · by_cases c2 : k = d
      · rw [c2]
        exact hd
      · intro z
        exact h3 2 (by omega) (by omega) (mod_of_dvd z (by omega))
theorem nodiv_prime {n d : Int} (h : NoDiv n d) (hd : n % d = 0) : PrP d := by
  refine ⟨h.1, fun k a b z => ?_⟩
  exact h.2.2 k a b (mod_of_dvd hd z)
theorem nodiv_of {n u d : Int} (h : NoDiv n d) (hu : n % u = 0) : NoDiv u d := ⟨h.1, h.2.1, fun k a b z => h.2.2 k a b (mod_of_dvd hu z)⟩
theorem nodiv_lt {n d : Int} (h : NoDiv n d) (hn : 2 ≤ n) : d ≤ n := by
  rcases Int.lt_or_le n d with z | z
  · exact absurd Int.emod_self (h.2.2 n hn z)
  · exact z
/-! factors -/
def prodF : List (Int × Nat) → Int
  | [] => 1
  | q :: l => q.1 ^ q.2 * prodF l
theorem prodF_append : ∀ l m : List (Int × Nat), prodF (l ++ m) = prodF l * prodF m
  | [], m => by
    show prodF m = 1 * prodF m
    rw [Int.one_mul]
  | q :: l, m => by
    show q.1 ^ q.2 * prodF (l ++ m) = q.1 ^ q.2 * prodF l * prodF m
    rw [prodF_append l m, Int.mul_assoc]
def Sorted (l : List (Int × Nat)) : Prop := l.Pairwise fun a b => a.1 < b.1
def Primes (l : List (Int × Nat)) : Prop := ∀ q ∈ l, PrP q.1 ∧ 1 ≤ q.2
def FactOf (n : Int) (l : List (Int × Nat)) : Prop := prodF l = n ∧ Sorted l ∧ Primes l
theorem pow_pos_int {p : Int} (h : 0 < p) (e : Nat) : 0 < p ^ e := Int.pow_pos h
theorem pow_ge {p : Int} (h : 2 ≤ p) : ∀ {e : Nat}, 1 ≤ e → 2 ≤ p ^ e
  | 0, h0 => by omega
  | e + 1, _ => by
    rw [Int.pow_succ]
    have h1 : 0 < p ^ e := pow_pos_int (by omega) e
    have h2 : 1 * 2 ≤ p ^ e * p := Int.mul_le_mul (by omega) h (by omega) (by omega)
    omega
theorem prodF_len : ∀ {l : List (Int × Nat)}, Primes l → (2 : Int) ^ l.length ≤ prodF l
  | [], _ => Int.le_refl _
  | q :: l, h => by
    have ih := prodF_len (l := l) fun r hr => h r (List.mem_cons_of_mem _ hr)
    obtain ⟨hp, he⟩ := h q List.mem_cons_self
    have h1 : 2 ≤ q.1 ^ q.2 := pow_ge hp.1 he
    show (2 : Int) ^ (l.length + 1) ≤ q.1 ^ q.2 * prodF l
    rw [Int.pow_succ, Int.mul_comm]
    have h0 : (0 : Int) < 2 ^ l.length := pow_pos_int (by omega) _
    exact Int.mul_le_mul h1 ih (by omega) (by omega)
theorem len_of_prod {l : List (Int × Nat)} (h : Primes l) (hb : prodF l ≤ 1000000000) : l.length < 30 := by
  have h1 := prodF_len h
  rcases Nat.lt_or_ge l.length 30 with z | z
  · exact z
  · have e : l.length = 30 + (l.length - 30) := by omega
    have h3 : (2 : Int) ^ 30 = 1073741824 := by decide
    have h4 : (0 : Int) < 2 ^ (l.length - 30) := pow_pos_int (by omega) _
    rw [e, Int.pow_add, h3] at h1
    omega
end Sf

namespace Sf
open PySem PySem.Spec PyProof.Rows L2
/-- what the module's names hold -/
structure Glob (mg : Str → Option Value) : Prop where
  m_isinstance : mg "isinstance" = none
  m_int : mg "int" = none
  m_bool : mg "bool" = none
  m_abs : mg "abs" = none
  m_str : mg "str" = none
  m_sorted : mg "sorted" = none
  m_tuple : mg "tuple" = none
  m_set : mg "set" = none
  m_len : mg "len" = none
  m_zip : mg "zip" = none
  m_any : mg "any" = none
  m_all : mg "all" = none
  m_max : mg "max" = none
  m_sum : mg "sum" = none
  m_list : mg "list" = none
  m_range : mg "range" = none
  m_repr : mg "repr" = none
  m_min : mg "min" = none
  m_gcd : mg "gcd" = some (.builtin "math.gcd")
  m_isqrt : mg "isqrt" = some (.builtin "math.isqrt")
  m_TOO_LONG : ∃ t, mg "TOO_LONG" = some (.int 1000000000000000000000000000000000000000000000000000000000000 t)
  m_MAX_NUMBER : ∃ t, mg "MAX_NUMBER" = some (.int 1000000000 t)
  m_MAX_POWER : ∃ t, mg "MAX_POWER" = some (.int 1000 t)
  m_MAX_SIDE : ∃ t, mg "MAX_SIDE" = some (.int 10000 t)
/-- what isinstance(x, int) and not isinstance(x, bool) comes to -/
def IntB (K : PySem.W.Frag) (H : Hp) (x : V) (b : Bool) : Prop := ∃ (t : Value) (bi bb : Bool), TyX K H x t ∧ PySem.W.kitOne K t (.type "int") = some bi ∧ PySem.W.kitOne K t (.type "bool") = some bb ∧ b = (bi && !bb)
theorem IntB.int {K : PySem.W.Frag} {H : Hp} (i : Int) : IntB K H (.int i) true := ⟨.type "int", true, false, .base (.int i), kit_ty (by decide +kernel), kit_ty (by decide +kernel), rfl⟩
theorem IntB.bl {K : PySem.W.Frag} {H : Hp} (i : Bool) : IntB K H (.bl i) false := ⟨.type "bool", true, true, .base (.bl i), kit_ty (by decide +kernel), kit_ty (by decide +kernel), rfl⟩
theorem IntB.non {K : PySem.W.Frag} {H : Hp} : IntB K H .non false := ⟨.type "NoneType", false, false, .base .non, kit_ty (by decide +kernel), kit_ty (by decide +kernel), rfl⟩
theorem IntB.str {K : PySem.W.Frag} {H : Hp} (x : Str) : IntB K H (.str x) false := ⟨.type "str", false, false, .base (.str x), kit_ty (by decide +kernel), kit_ty (by decide +kernel), rfl⟩
theorem IntB.lst {K : PySem.W.Frag} {H : Hp} {a : Addr} {xs : List V} (h : H a = some (.lst xs)) : IntB K H (.ref a) false := ⟨.type "list", false, false, .base (.lst h), kit_ty (by decide +kernel), kit_ty (by decide +kernel), rfl⟩
theorem IntB.tup {K : PySem.W.Frag} {H : Hp} {a : Addr} {xs : List V} (h : H a = some (.tup xs)) : IntB K H (.ref a) false := ⟨.type "tuple", false, false, .base (.tup h), kit_ty (by decide +kernel), kit_ty (by decide +kernel), rfl⟩
theorem IntB.dK {K : PySem.W.Frag} {H : Hp} {a : Addr} {xs : List (Key × V)} (h : H a = some (.dK xs)) : IntB K H (.ref a) false := ⟨.type "dict", false, false, .base (.dK h), kit_ty (by decide +kernel), kit_ty (by decide +kernel), rfl⟩
end Sf

namespace Sf
open PySem PySem.Spec PyProof.Rows L2
section
variable {P : Program} {w : World} {K : PySem.W.Frag} {mg : Str → Option Value} {base : Heap} {f : Addr} {fd : FuncData}
def spIsInt (K : PySem.W.Frag) : Sp := fun vs H Q _ => ∃ (x : V) (b : Bool), vs = [x] ∧ IntB K H x b ∧ Q (.bl b) H
theorem ok_is_integer (F : FnD K "is_integer" "is_integer" s_P_is_integer f fd) (T : Glob mg) : FnOk P w K mg base CX0 1 f fd ["value"] (spIsInt K) := by
  refine F.ok sc_P_is_integer (fun vs H Q E h => ?_) (fun cdv A outer s H vs Q E hr h => ?_)
  · obtain ⟨x, b, rfl, _⟩ := h; rfl
  · obtain ⟨x, b, rfl, ⟨t, bi, bb, ty, h1, h2, rfl⟩, q⟩ := h
    refine ⟨_, PSs.nox (pss_one (ps_ret (pe_and (pe_callB call_isi (by rfl) T.m_isinstance (by decide +kernel) (pa_cons (pv 0) (pa_cons (pe_bltn (v := .ty "int") (u := .type "int") (by rfl) T.m_int (by decide +kernel) rfl) pa_nil))) (pe_one (pe_not (pe_callB call_isi (by rfl) T.m_isinstance (by decide +kernel) (pa_cons (pv 0) (pa_cons (pe_bltn (v := .ty "bool") (u := .type "bool") (by rfl) T.m_bool (by decide +kernel) rfl) pa_nil)))))))), ?_⟩
    refine ⟨_, rfl, _, _, _, _, _, rfl, .ty "int", ty, h1, _, rfl, ifb (fun e => ?_) (fun e => ?_)⟩
    · refine ⟨_, rfl, _, _, _, _, _, rfl, .ty "bool", ty, h2, _, rfl, ?_⟩
      rw [e] at q
      exact q
    · rw [e] at q
      exact q
end
end Sf

namespace Sf
open PySem PySem.Spec PyProof.Rows L2
section
variable {P : Program} {w : World} {K : PySem.W.Frag} {mg : Str → Option Value} {base : Heap} {f : Addr} {fd : FuncData}
def spIsPrime (K : PySem.W.Frag) : Sp := fun vs H Q _ => ∃ (x : V) (b : Bool), vs = [x] ∧ IntB K H x b ∧ (b = true → ∃ n, x = .int n) ∧ ∀ r : Bool, (r = true ↔ ∃ n, x = .int n ∧ PrP n ∧ n ≤ 1000000000) → Q (.bl r) H
theorem ok_is_prime (F : FnD K "is_prime" "is_prime" s_P_is_prime f fd) (T : Glob mg) (C_P_is_integer : Cal P w K mg base 1 "is_integer" ["value"] (spIsInt K)) (C_P_next_divisor : Cal P w K mg base 1 "next_divisor" ["divisor"] spNext) :
    FnOk P w K mg base CX0 2 f fd ["value"] (spIsPrime K) := by
  refine F.ok sc_P_is_prime (fun vs H Q E h => ?_) (fun cdv A outer s H vs Q E hr h => ?_)
  · obtain ⟨x, b, rfl, _⟩ := h; rfl
  · obtain ⟨x, b, rfl, hx, hi, q⟩ := h
    obtain ⟨tM, hc_MAX_NUMBER⟩ := T.m_MAX_NUMBER
    refine ⟨_, PSs.nox (pss_cons (ps_if (PW.pt (pw_or (pt_not (pt_val (pe_cal C_P_is_integer (hr.mono (by decide)) (pa_cons (pv 0) pa_nil)))) (pw_or (pt_cmp (pc_lt (pv 0) pe_int)) (pw_or1 (pt_cmp (pc_gt (pv 0) (pe_glob (v := .int 1000000000) rfl hc_MAX_NUMBER ⟨_, rfl⟩))))))) (pss_one (ps_ret pe_bl)) pss_nil)
      (pss_cons (ps_set (i := 1) sc_P_is_prime.nd rfl (Or.inl rfl) pe_int)
      (pss_cons (ps_while PassesOwn.never (pt_cmp (pc_le (pe_op op_mulW (pv 1) (pv 1)) (pv 0))) (pss_cons (ps_if (pt_cmp (pc_eqI (pe_op op_mod (pv 0) (pv 1)) pe_int)) (pss_one (ps_ret pe_bl)) pss_nil)
      (pss_one (ps_set (i := 1) sc_P_is_prime.nd rfl (Or.inl rfl) (pe_cal C_P_next_divisor (hr.mono (by decide)) (pa_cons (pv 1) pa_nil))))))
      (pss_one (ps_ret pe_bl))))), ?_⟩
    refine ⟨_, rfl, x, b, rfl, hx, _, rfl, ?_⟩
    cases b with
    | false =>
      refine iteT (q false ⟨fun z => Bool.noConfusion z, fun ⟨n, e, _⟩ => ?_⟩)
      subst e
      obtain ⟨t, bi, bb, ty, k1, k2, k3⟩ := hx
      cases ty with
      | base ty => cases ty with
        | int _ =>
          have e1 : PySem.W.kitOne K (.type "int") (.type "int") = some true := kit_ty (by decide +kernel)
          have e2 : PySem.W.kitOne K (.type "int") (.type "bool") = some false := kit_ty (by decide +kernel)
          rw [e1] at k1
          rw [e2] at k2
          cases k1
          cases k2
          cases k3
    | true =>
      obtain ⟨n, rfl⟩ := hi rfl
      have qf : ¬ (PrP n ∧ n ≤ 1000000000) → Q (.bl false) H := fun hn => q false ⟨fun z => Bool.noConfusion z, fun ⟨m, e, h⟩ => by
        cases e
        exact absurd h hn⟩
      refine iteF ⟨_, rfl, _, _, rfl, rfl, _, rfl, ifd (fun e => qf fun z => ?_) (fun e => ⟨_, rfl, _, _, rfl, rfl, _, rfl, ifd (fun e2 => qf fun z => ?_) (fun e2 => ?_)⟩)⟩
      · have := z.1.1
        omega
      · have := z.2
        omega
      · refine ⟨fun c σ H' => H' = H ∧ ∃ d : Int, σ = [some (.int n), some (.int d)] ∧ NoDiv n d ∧ d ≤ n + 2 ∧ c = (n + 2 - d).toNat, ⟨_, rfl, 2, rfl, nodiv2 n, by omega, rfl⟩, ?_⟩
        rintro c σ _ ⟨rfl, d, rfl, hd, hdn, rfl⟩
        have hd2 := hd.1
        have hdb : d.natAbs < 2 ^ 3000 := Nat.lt_trans (by omega : d.natAbs < 2 ^ 31) (by decide +kernel)
        refine ⟨_, rfl, _, rfl, _, _, rfl, rfl, CMulW.of hdb hdb, _, rfl, _, _, rfl, rfl, _, rfl, ifd (fun h => ⟨_, fun _ _ z => z, ?_⟩) (fun h => ?_)⟩
        · refine ⟨_, rfl, _, rfl, _, _, rfl, rfl, (by omega), _, _, rfl, rfl, _, rfl, ifd (fun h2 => ?_) (fun h2 => ?_)⟩
          · refine qf fun z => ?_
            have h3 : d < n := by
              have : d * 2 ≤ d * d := Int.mul_le_mul_of_nonneg_left hd2 (by omega)
              omega
            exact z.1.2 d hd2 h3 h2
          · refine ⟨_, rfl, d, rfl, ?_⟩
            have hlt : d ≤ n := by
              have : d * 1 ≤ d * d := Int.mul_le_mul_of_nonneg_left (by omega) (by omega)
              omega
            have hnx := nodiv_next hd h2
            refine ⟨_, ?_, rfl, _, rfl, hnx, ?_, rfl⟩
            · split <;> omega
            · split <;> omega
        · refine q true ⟨fun _ => ⟨n, rfl, prp_of_trial (by omega) hd2 hd.2.2 (by omega), by omega⟩, fun _ => rfl⟩
end
end Sf

namespace Sf
open PySem PySem.Spec PyProof.Rows L2
section
variable {P : Program} {w : World} {K : PySem.W.Frag} {mg : Str → Option Value} {base : Heap} {f : Addr} {fd : FuncData}
def spCheckNumber : Sp := fun vs H Q _ => ∃ n : Int, vs = [.int n] ∧ n ≠ 0 ∧ -1000000000 ≤ n ∧ n ≤ 1000000000 ∧ Q .non H
theorem ok_check_number (F : FnD K "check_number" "check_number" s_P_check_number f fd) (T : Glob mg) (C_P_is_integer : Cal P w K mg base 1 "is_integer" ["value"] (spIsInt K)) : FnOk P w K mg base CX0 2 f fd ["value"] spCheckNumber := by
  refine F.ok sc_P_check_number (fun vs H Q E h => ?_) (fun cdv A outer s H vs Q E hr h => ?_)
  · obtain ⟨n, rfl, _⟩ := h; rfl
  · obtain ⟨n, rfl, h0, h1, h2, q⟩ := h
    obtain ⟨tM, hc_MAX_NUMBER⟩ := T.m_MAX_NUMBER
    refine ⟨_, PSs.nox (pss_one (ps_if (PW.pt (pw_or (pt_not (pt_val (pe_cal C_P_is_integer (hr.mono (by decide)) (pa_cons (pv 0) pa_nil)))) (pw_or (pt_cmp (pc_eqI (pv 0) pe_int)) (pw_or1 (pt_cmp (pc_gt (pe_callB call_abs (by rfl) T.m_abs (by decide +kernel) (pa_cons (pv 0) pa_nil)) (pe_glob (v := .int 1000000000) rfl hc_MAX_NUMBER ⟨_, rfl⟩))))))) (pss_one ps_never) pss_nil)), ?_⟩
    refine ⟨_, rfl, .int n, true, rfl, .int n, _, rfl, iteF ?_⟩
    refine ⟨_, rfl, _, _, rfl, rfl, _, rfl, ifd (fun e => absurd e h0) (fun _ => ?_)⟩
    refine ⟨_, rfl, n, rfl, _, _, rfl, rfl, _, rfl, ifd (fun e => ?_) (fun e => ?_)⟩
    · exfalso
      split at e <;> omega
    · exact q
end
end Sf

namespace Sf
open PySem PySem.Spec PyProof.Rows L2
section
variable {P : Program} {w : World} {K : PySem.W.Frag} {mg : Str → Option Value} {base : Heap} {f : Addr} {fd : FuncData}
/-- the residue sign by a power -/
def restSign (n p : Int) : Int := if n % p = 0 then 0 else if p = 2 then (if n % 8 = 1 ∨ n % 8 = 7 then 1 else -1) else if n ^ ((p - 1) / 2).toNat % p = 1 then 1 else -1
def spRestSign : Sp := fun vs H Q _ => ∃ n p : Int, vs = [.int n, .int p] ∧ 2 ≤ p ∧ p.natAbs < 2 ^ 1000 ∧ ∀ H', Same H H' → Q (.int (restSign n p)) H'
theorem ok_rest_sign (F : FnD K "rest_sign" "rest_sign" s_P_rest_sign f fd) (C_P_power_modulo : Cal P w K mg base 1 "power_modulo" ["number", "many", "modulus"] spPowMod) : FnOk P w K mg base CX0 2 f fd ["number", "prime"] spRestSign := by
  refine F.ok sc_P_rest_sign (fun vs H Q E h => ?_) (fun cdv A outer s H vs Q E hr h => ?_)
  · obtain ⟨n, p, rfl, _⟩ := h; rfl
  · obtain ⟨n, p, rfl, hp, hb, q⟩ := h
    refine ⟨_, PSs.nox (pss_cons (ps_if (pt_cmp (pc_eqI (pe_op op_mod (pv 0) (pv 1)) pe_int)) (pss_one (ps_ret pe_int)) pss_nil)
      (pss_cons (ps_if (pt_cmp (pc_eqI (pv 1) pe_int)) (pss_one (ps_ret (pe_ifExp (pt_cmpR op_in_seq (pe_op op_mod (pv 0) pe_int) (pe_tup (pa_cons pe_int (pa_cons pe_int pa_nil))) (by rfl)) pe_int (pe_un un_neg pe_int)))) pss_nil)
      (pss_one (ps_ret (pe_ifExp (pt_cmp (pc_eqI (pe_cal C_P_power_modulo (hr.mono (by decide)) (pa_cons (pv 0) (pa_cons (pe_op op_fdivW (pe_op op_sub (pv 1) pe_int) pe_int) (pa_cons (pv 1) pa_nil)))) pe_int)) pe_int (pe_un un_neg pe_int)))))), ?_⟩
    unfold restSign at q
    refine ⟨_, rfl, _, rfl, _, _, rfl, rfl, (by omega), _, _, rfl, rfl, _, rfl, ifd (fun h => ?_) (fun h => ?_)⟩
    · rw [if_pos h] at q
      exact q H (Same.refl H)
    · rw [if_neg h] at q
      refine ⟨_, rfl, _, _, rfl, rfl, _, rfl, ifd (fun h2 => ?_) (fun h2 => ?_)⟩
      · rw [if_pos h2] at q
        refine ⟨_, rfl, _, _, rfl, rfl, (by show (0 : Int) < 8; decide), (by show 2 ≤ sizeLine; decide), fun a ha => ?_⟩
        refine ⟨a, _, rfl, .inr (.inl (.inl upd_same)), rfl, rfl, _, rfl, ?_⟩
        rw [inV_two]
        refine ifd (fun e => ?_) (fun e => ?_)
        · rw [if_pos e] at q
          exact q _ (same_upd ha)
        · rw [if_neg e] at q
          exact ⟨_, rfl, q _ (same_upd ha)⟩
      · rw [if_neg h2] at q
        refine ⟨_, rfl, _, rfl, _, _, rfl, rfl, _, _, rfl, rfl, CDivW.of (by decide) (by decide +kernel), _, rfl, n, (p - 1) / 2, p, rfl, by omega, by omega, hb, _, _, rfl, rfl, _, rfl, ifd (fun h3 => ?_) (fun h3 => ?_)⟩
        · rw [if_pos h3] at q
          exact q H (Same.refl H)
        · rw [if_neg h3] at q
          exact ⟨_, rfl, q H (Same.refl H)⟩
end
end Sf

namespace Sf
open PySem PySem.Spec PyProof.Rows L2
section
variable {P : Program} {w : World} {K : PySem.W.Frag} {mg : Str → Option Value} {base : Heap} {f : Addr} {fd : FuncData}
def spCheckPlace : Sp := fun vs H Q _ => ∃ p : Int, vs = [.int p] ∧ (p = 0 ∨ (PrP p ∧ p ≤ 1000000000)) ∧ Q .non H
theorem ok_check_place (F : FnD K "check_place" "check_place" s_P_check_place f fd) (C_P_is_prime : Cal P w K mg base 2 "is_prime" ["value"] (spIsPrime K)) (C_P_is_integer : Cal P w K mg base 1 "is_integer" ["value"] (spIsInt K)) : FnOk P w K mg base CX0 3 f fd ["value"] spCheckPlace := by
  refine F.ok sc_P_check_place (fun vs H Q E h => ?_) (fun cdv A outer s H vs Q E hr h => ?_)
  · obtain ⟨n, rfl, _⟩ := h; rfl
  · obtain ⟨n, rfl, h0, q⟩ := h
    refine ⟨_, PSs.nox (pss_one (ps_if (PW.pt (pw_and (pt_not (pt_val (pe_cal C_P_is_prime (hr.mono (by decide)) (pa_cons (pv 0) pa_nil)))) (pw_and1 (pt_not (PW.pt (pw_and (pt_val (pe_cal C_P_is_integer (hr.mono (by decide)) (pa_cons (pv 0) pa_nil))) (pw_and1 (pt_cmp (pc_eqI (pv 0) pe_int))))))))) (pss_one ps_never) pss_nil)), ?_⟩
    refine ⟨_, rfl, .int n, true, rfl, .int n, fun _ => ⟨n, rfl⟩, fun r hr => ⟨_, rfl, ?_⟩⟩
    cases r with
    | true => exact q
    | false =>
      have e0 : n = 0 := by
        rcases h0 with h0 | h0
        · exact h0
        · exact absurd (hr.mpr ⟨n, rfl, h0.1, h0.2⟩) Bool.false_ne_true
      subst e0
      refine ⟨_, rfl, .int 0, true, rfl, .int 0, _, rfl, ?_⟩
      exact ⟨_, rfl, _, _, rfl, rfl, _, rfl, q⟩
end
end Sf

namespace Sf
open PySem PySem.Spec PyProof.Rows L2
/-- the sack of draws: three numbers, so many draws made -/
def SackO (n : Nat) (xs : List V) : Prop := ∃ a b c : Int, xs = [.int a, .int b, .int c] ∧ 0 ≤ a ∧ a < 10 ^ 500 ∧ 0 ≤ b ∧ b < 1000000000000000000000000 ∧ 0 ≤ c ∧ c ≤ n
theorem sq_upd {K : PySem.W.Frag} {H : Hp} {a p : Addr} {xs : List V} {o : HO} (h : SqL K H a xs) (n : a ≠ p) : SqL K (upd H p o) a xs := by
  rcases h with (h | ⟨u, h⟩) | h
  · exact .inl (.inl (by rw [upd_ne n]; exact h))
  · exact .inl (.inr ⟨u, by rw [upd_ne n]; exact h⟩)
  · exact .inr h
end Sf

namespace Sf
open PySem PySem.Spec PyProof.Rows L2
/-- all but the thing at p stays -/
def Keep (p : Addr) (H H' : Hp) : Prop := ∀ b o, H b = some o → b ≠ p → H' b = some o
theorem Keep.refl (p : Addr) (H : Hp) : Keep p H H := fun _ _ h _ => h
theorem Keep.trans {p : Addr} {H H1 H2 : Hp} (a : Keep p H H1) (b : Keep p H1 H2) : Keep p H H2 := fun c o h n => b c o (a c o h n) n
theorem Keep.same {p : Addr} {H H' : Hp} (s : Same H H') : Keep p H H' := fun c o h _ => s c o h
theorem Keep.upd {p : Addr} {H : Hp} {o : HO} : Keep p H (upd H p o) := fun c u h n => by rw [upd_ne n]; exact h
theorem Keep.new {p q : Addr} {H : Hp} {o : HO} (h : H q = none) : Keep p H (L2.upd H q o) := Keep.same (same_upd h)
/-- the sack stands at p, n draws made at most -/
def Sk (p : Addr) (n : Nat) (H : Hp) : Prop := ∃ xs, H p = some (.lst xs) ∧ SackO n xs
theorem SackO.mono {n m : Nat} {xs : List V} (h : SackO n xs) (l : n ≤ m) : SackO m xs := by
  obtain ⟨a, b, c, e, h1, h2, h3, h4, h5, h6⟩ := h
  exact ⟨a, b, c, e, h1, h2, h3, h4, h5, by omega⟩
theorem Sk.mono {p : Addr} {n m : Nat} {H : Hp} (h : Sk p n H) (l : n ≤ m) : Sk p m H := let ⟨xs, a, b⟩ := h; ⟨xs, a, b.mono l⟩
theorem Sk.same {p : Addr} {n : Nat} {H H' : Hp} (h : Sk p n H) (s : Same H H') : Sk p n H' := let ⟨xs, a, b⟩ := h; ⟨xs, s _ _ a, b⟩
theorem Sk.ne {p q : Addr} {n : Nat} {H : Hp} (h : Sk p n H) (hq : H q = none) : p ≠ q := let ⟨_, a, _⟩ := h; ne_of_none a hq
theorem Keep.free {p q : Addr} {n : Nat} {H H' : Hp} (k : Keep p H H') (s : Sk p n H') (h : H' q = none) : H q = none := by
  cases e : H q with
  | none => rfl
  | some o =>
    have n : q ≠ p := fun z => by
      obtain ⟨_, a, _⟩ := s
      rw [z, a] at h
      cases h
    rw [k q o e n] at h
    cases h
end Sf

namespace Sf
/-! the state of trial division: what was found, what is left -/
structure Trial (N : Int) (l : List (Int × Nat)) (r d : Int) : Prop where
  prod : prodF l * r = N
  pos : 1 ≤ r
  le : r ≤ N
  srt : Sorted l
  prm : Primes l
  low : ∀ q ∈ l, q.1 < d
  nod : NoDiv r d
theorem trial_start {N : Int} (h : 1 ≤ N) : Trial N [] N 2 := ⟨by show 1 * N = N; omega, h, Int.le_refl _, List.Pairwise.nil, (fun _ h => by cases h), (fun _ h => by cases h), nodiv2 N⟩
theorem sorted_snoc {l : List (Int × Nat)} {p : Int} {e : Nat} (h : Sorted l) (hl : ∀ q ∈ l, q.1 < p) : Sorted (l ++ [(p, e)]) := by
  unfold Sorted at *
  rw [List.pairwise_append]
  refine ⟨h, List.pairwise_singleton _ _, fun a ha b hb => ?_⟩
  rw [List.mem_singleton] at hb
  rw [hb]
  exact hl a ha
theorem primes_snoc {l : List (Int × Nat)} {p : Int} {e : Nat} (h : Primes l) (hp : PrP p) (he : 1 ≤ e) : Primes (l ++ [(p, e)]) := fun q hq => by
  rcases List.mem_append.mp hq with z | z
  · exact h q z
  · rw [List.mem_singleton] at z
    rw [z]
    exact ⟨hp, he⟩
theorem prodF_one (p : Int) (e : Nat) : prodF [(p, e)] = p ^ e := by
  show p ^ e * 1 = p ^ e
  rw [Int.mul_one]
theorem next_gt {d : Int} (h : 2 ≤ d) : d < (if d = 2 then 3 else d + 2) := by split <;> omega
theorem trial_pass {N r d : Int} {l : List (Int × Nat)} (h : Trial N l r d) (hd : r % d ≠ 0) : Trial N l r (if d = 2 then 3 else d + 2) :=
  ⟨h.prod, h.pos, h.le, h.srt, h.prm, fun q hq => Int.lt_trans (h.low q hq) (next_gt h.nod.1), nodiv_next h.nod hd⟩
theorem trial_take {N r d u : Int} {m : Nat} {l : List (Int × Nat)} (h : Trial N l r d) (hd : r % d = 0) (e : r = d ^ m * u) (hu : u % d ≠ 0) : Trial N (l ++ [(d, m)]) u (if d = 2 then 3 else d + 2) ∧ 1 ≤ m ∧ u ≤ r := by
  have hd2 := h.nod.1
  have hr := h.pos
  have hm : 1 ≤ m := by
    rcases Nat.eq_zero_or_pos m with z | z
    · subst z
      rw [Int.pow_zero, Int.one_mul] at e
      rw [e] at hd
      exact absurd hd hu
    · exact z
  have hdm : 0 < d ^ m := pow_pos_int (by omega) m
  have hu0 : 1 ≤ u := by
    rcases Int.lt_or_le 0 u with z | z
    · omega
    · have := Int.mul_nonpos_of_nonneg_of_nonpos (Int.le_of_lt hdm) z
      omega
  have hur : u ≤ r := by
    have : 1 * u ≤ d ^ m * u := Int.mul_le_mul_of_nonneg_right (by omega) (by omega)
    omega
  have hdu : r % u = 0 := Int.emod_eq_zero_of_dvd ⟨d ^ m, by rw [e]; exact Int.mul_comm _ _⟩
  refine ⟨⟨?_, hu0, Int.le_trans hur h.le, sorted_snoc h.srt h.low, primes_snoc h.prm (nodiv_prime h.nod hd) hm, fun q hq => ?_, nodiv_next (nodiv_of h.nod hdu) hu⟩, hm, hur⟩
  · rw [prodF_append, prodF_one, Int.mul_assoc, ← e]
    exact h.prod
  · have hn := next_gt hd2
    rcases List.mem_append.mp hq with z | z
    · exact Int.lt_trans (h.low q z) hn
    · rw [List.mem_singleton] at z
      rw [z]
      exact hn
theorem trial_end1 {N d : Int} {l : List (Int × Nat)} (h : Trial N l 1 d) : FactOf N l := ⟨by have := h.prod; rw [Int.mul_one] at this; exact this, h.srt, h.prm⟩
theorem trial_end {N r d : Int} {l : List (Int × Nat)} (h : Trial N l r d) (hr : 1 < r) (hd : r < d * d) : FactOf N (l ++ [(r, 1)]) ∧ ∀ q ∈ l, q.1 < r := by
  have h2 := nodiv_lt h.nod (by omega)
  have hl : ∀ q ∈ l, q.1 < r := fun q hq => Int.lt_of_lt_of_le (h.low q hq) h2
  have hp : PrP r := prp_of_trial (by omega) h.nod.1 h.nod.2.2 hd
  refine ⟨⟨?_, sorted_snoc h.srt hl, primes_snoc h.prm hp (by omega)⟩, hl⟩
  rw [prodF_append, prodF_one, Int.pow_succ, Int.pow_zero, Int.one_mul]
  exact h.prod
theorem prodF_pos {l : List (Int × Nat)} (h : Primes l) : 1 ≤ prodF l := by
  have h1 := prodF_len h
  have h2 : (0 : Int) < 2 ^ l.length := pow_pos_int (by omega) _
  omega
theorem trial_len {N r d : Int} {l : List (Int × Nat)} (h : Trial N l r d) (hN : N ≤ 1000000000) : l.length < 30 := by
  refine len_of_prod h.prm ?_
  have h1 := prodF_pos h.prm
  have h2 := h.prod
  have h3 := h.pos
  have h4 : prodF l * 1 ≤ prodF l * r := Int.mul_le_mul_of_nonneg_left h3 (by omega)
  omega
theorem fact_len {N : Int} {l : List (Int × Nat)} (h : FactOf N l) (hN : N ≤ 1000000000) : l.length < 30 := len_of_prod h.2.2 (by rw [h.1]; exact hN)
/-- the product of the primes with an odd power -/
def oddF : List (Int × Nat) → Int
  | [] => 1
  | q :: l => (if q.2 % 2 = 1 then q.1 else 1) * oddF l
theorem oddF_append : ∀ l m : List (Int × Nat), oddF (l ++ m) = oddF l * oddF m
  | [], m => by
    show oddF m = 1 * oddF m
    rw [Int.one_mul]
  | q :: l, m => by
    show (if q.2 % 2 = 1 then q.1 else 1) * oddF (l ++ m) = (if q.2 % 2 = 1 then q.1 else 1) * oddF l * oddF m
    rw [oddF_append l m, Int.mul_assoc]
theorem pow_split (p : Int) (e : Nat) : p ^ e = (if e % 2 = 1 then p else 1) * (p ^ (e / 2) * p ^ (e / 2)) := by
  have e1 : e = e % 2 + (e / 2 + e / 2) := by omega
  conv => lhs; rw [e1]
  rw [Int.pow_add, Int.pow_add]
  congr 1
  split
  · rename_i h
    rw [h, Int.pow_succ, Int.pow_zero, Int.one_mul]
  · rename_i h
    rw [show e % 2 = 0 by omega, Int.pow_zero]
theorem oddF_bound {l : List (Int × Nat)} : Primes l → 1 ≤ oddF l ∧ oddF l ≤ prodF l := by
  induction l with
  | nil => intro _; exact ⟨Int.le_refl _, Int.le_refl _⟩
  | cons q l ih =>
    intro h
    have ih := ih fun r hr => h r (List.mem_cons_of_mem _ hr)
    obtain ⟨hp, he⟩ := h q List.mem_cons_self
    have hp2 := hp.1
    have h1 : 1 ≤ (if q.2 % 2 = 1 then q.1 else 1) := by split <;> omega
    have h2 : (if q.2 % 2 = 1 then q.1 else 1) ≤ q.1 ^ q.2 := by
      rw [pow_split q.1 q.2]
      have h3 : 0 < q.1 ^ (q.2 / 2) := pow_pos_int (by omega) _
      have h4 : 0 < q.1 ^ (q.2 / 2) * q.1 ^ (q.2 / 2) := Int.mul_pos h3 h3
      have h5 : (if q.2 % 2 = 1 then q.1 else 1) * 1 ≤ (if q.2 % 2 = 1 then q.1 else 1) * (q.1 ^ (q.2 / 2) * q.1 ^ (q.2 / 2)) := Int.mul_le_mul_of_nonneg_left h4 (by omega)
      omega
    show 1 ≤ (if q.2 % 2 = 1 then q.1 else 1) * oddF l ∧ (if q.2 % 2 = 1 then q.1 else 1) * oddF l ≤ q.1 ^ q.2 * prodF l
    refine ⟨?_, Int.mul_le_mul h2 ih.2 (by omega) (by omega)⟩
    have := Int.mul_pos (show 0 < (if q.2 % 2 = 1 then q.1 else 1) by omega) (show 0 < oddF l by omega)
    omega
theorem prodF_take {l : List (Int × Nat)} (h : Primes l) (i : Nat) : prodF (l.take i) ≤ prodF l := by
  have e : prodF l = prodF (l.take i) * prodF (l.drop i) := by rw [← prodF_append, List.take_append_drop]
  have h1 : 1 ≤ prodF (l.take i) := prodF_pos fun q hq => h q (List.mem_of_mem_take hq)
  have h2 : 1 ≤ prodF (l.drop i) := prodF_pos fun q hq => h q (List.mem_of_mem_drop hq)
  have h3 : prodF (l.take i) * 1 ≤ prodF (l.take i) * prodF (l.drop i) := Int.mul_le_mul_of_nonneg_left h2 (by omega)
  omega
theorem self_le_pow {p : Int} (h : 2 ≤ p) : ∀ {e : Nat}, 1 ≤ e → p ≤ p ^ e
  | 0, h0 => by omega
  | e + 1, _ => by
    rw [Int.pow_succ]
    have h1 : 0 < p ^ e := pow_pos_int (by omega) e
    have h2 : 1 * p ≤ p ^ e * p := Int.mul_le_mul_of_nonneg_right (by omega) (by omega)
    omega
theorem prodF_mem : ∀ {l : List (Int × Nat)}, Primes l → ∀ q ∈ l, q.1 ≤ prodF l
  | [], _, q, hq => by cases hq
  | r :: l, h, q, hq => by
    have h1 : 1 ≤ prodF l := prodF_pos fun q hq => h q (List.mem_cons_of_mem _ hq)
    obtain ⟨hp, he⟩ := h r List.mem_cons_self
    have hp2 := hp.1
    have h2 := self_le_pow hp2 he
    show q.1 ≤ r.1 ^ r.2 * prodF l
    rcases List.mem_cons.mp hq with z | z
    · subst z
      have h3 : q.1 ^ q.2 * 1 ≤ q.1 ^ q.2 * prodF l := Int.mul_le_mul_of_nonneg_left h1 (by omega)
      omega
    · have h3 := prodF_mem (l := l) (fun q hq => h q (List.mem_cons_of_mem _ hq)) q z
      have h4 : 1 * prodF l ≤ r.1 ^ r.2 * prodF l := Int.mul_le_mul_of_nonneg_right (by omega) (by omega)
      omega
theorem nat_lt_pow {p : Int} (h : 2 ≤ p) : ∀ e : Nat, (e : Int) < p ^ e
  | 0 => by rw [Int.pow_zero]; decide
  | e + 1 => by
    have ih := nat_lt_pow h e
    rw [Int.pow_succ]
    have h1 : 0 < p ^ e := pow_pos_int (by omega) e
    have h2 : p ^ e * 2 ≤ p ^ e * p := Int.mul_le_mul_of_nonneg_left h (by omega)
    omega
theorem prodF_mem2 : ∀ {l : List (Int × Nat)}, Primes l → ∀ q ∈ l, (q.2 : Int) < prodF l
  | [], _, q, hq => by cases hq
  | r :: l, h, q, hq => by
    have h1 : 1 ≤ prodF l := prodF_pos fun q hq => h q (List.mem_cons_of_mem _ hq)
    obtain ⟨hp, he⟩ := h r List.mem_cons_self
    have hp2 := hp.1
    have h2 := self_le_pow hp2 he
    show (q.2 : Int) < r.1 ^ r.2 * prodF l
    rcases List.mem_cons.mp hq with z | z
    · subst z
      have h3 : q.1 ^ q.2 * 1 ≤ q.1 ^ q.2 * prodF l := Int.mul_le_mul_of_nonneg_left h1 (by omega)
      have h4 := nat_lt_pow hp2 q.2
      omega
    · have h3 := prodF_mem2 (l := l) (fun q hq => h q (List.mem_cons_of_mem _ hq)) q z
      have h4 : 1 * prodF l ≤ r.1 ^ r.2 * prodF l := Int.mul_le_mul_of_nonneg_right (by omega) (by omega)
      omega
end Sf

namespace Sf
open PySem PySem.Spec PyProof.Rows L2
/-- the pairs of a dict of factors -/
def kvsF (l : List (Int × Nat)) : List (Key × V) := l.map fun q => ((Sum.inl q.1 : Key), V.int q.2)
theorem kvsF_none : ∀ {l : List (Int × Nat)} {p : Int}, (∀ q ∈ l, q.1 < p) → valV (kvsF l) (Sum.inl p : Key) = none
  | [], _, _ => rfl
  | q :: l, p, h => by
    show valV (((Sum.inl q.1 : Key), V.int q.2) :: kvsF l) (Sum.inl p : Key) = none
    rw [valV_neg]
    · exact kvsF_none fun r hr => h r (List.mem_cons_of_mem _ hr)
    · intro e
      have e1 : q.1 = p := Sum.inl.inj e
      have := h q List.mem_cons_self
      omega
theorem kvsF_snoc (l : List (Int × Nat)) (p : Int) (e : Nat) : kvsF (l ++ [(p, e)]) = kvsF l ++ [((Sum.inl p : Key), V.int e)] := by
  unfold kvsF
  rw [List.map_append]
  rfl
theorem kvsF_len (l : List (Int × Nat)) : (kvsF l).length = l.length := List.length_map ..
section
variable {P : Program} {w : World} {K : PySem.W.Frag} {mg : Str → Option Value} {base : Heap} {f : Addr} {fd : FuncData}
def absI (n : Int) : Int := if n < 0 then -n else n
def spFactors : Sp := fun vs H Q _ => ∃ n : Int, vs = [.int n] ∧ n ≠ 0 ∧ -1000000000 ≤ n ∧ n ≤ 1000000000 ∧
  ∀ (l : List (Int × Nat)) (d : Addr) (H' : Hp), FactOf (absI n) l → Same H H' → H d = none → H' d = some (.dK (kvsF l)) → Q (.ref d) H'
theorem ok_prime_powers (F : FnD K "prime_powers" "prime_powers" s_P_prime_powers f fd) (T : Glob mg)
    (C_P_stripped : Cal P w K mg base 1 "stripped" ["number", "prime"] spStripped) (C_P_next_divisor : Cal P w K mg base 1 "next_divisor" ["divisor"] spNext) :
    FnOk P w K mg base CX0 2 f fd ["number"] spFactors := by
  refine F.ok sc_P_prime_powers (fun vs H Q E h => ?_) (fun cdv A outer s H vs Q E hr h => ?_)
  · obtain ⟨n, rfl, _⟩ := h; rfl
  · obtain ⟨n, rfl, hn, h1, h2, q⟩ := h
    have hu := hu_of hr
    have hN1 : 1 ≤ absI n := by unfold absI; split <;> omega
    have hN2 : absI n ≤ 1000000000 := by unfold absI; split <;> omega
    refine ⟨_, PSs.nox (pss_cons (ps_set (i := 1) sc_P_prime_powers.nd rfl (Or.inl rfl) (pe_callB call_abs (by rfl) T.m_abs (by decide +kernel) (pa_cons (pv 0) pa_nil)))
      (pss_cons (ps_set (i := 2) sc_P_prime_powers.nd rfl (Or.inl rfl) pe_dnewK)
      (pss_cons (ps_set (i := 3) sc_P_prime_powers.nd rfl (Or.inl rfl) pe_int)
      (pss_cons (ps_while PassesOwn.never (pt_cmp (pc_le (pe_op op_mulW (pv 3) (pv 3)) (pv 1))) (pss_cons (ps_if (pt_cmp (pc_eqI (pe_op op_mod (pv 1) (pv 3)) pe_int)) (pss_one (ps_asg (pe_cal C_P_stripped (hr.mono (by decide)) (pa_cons (pv 1) (pa_cons (pv 3) pa_nil))) (pg_tup (by rfl) (pgs_cons (pg_sub (pv 2) (pv 3) (set_dict hu)) (pgs_cons (pg_name (i := 1) sc_P_prime_powers.nd rfl (Or.inl rfl)) pgs_nil))))) pss_nil)
      (pss_one (ps_set (i := 3) sc_P_prime_powers.nd rfl (Or.inl rfl) (pe_cal C_P_next_divisor (hr.mono (by decide)) (pa_cons (pv 3) pa_nil))))))
      (pss_cons (ps_if (pt_cmp (pc_gt (pv 1) pe_int)) (pss_one (ps_dput hu (pv 2) (pv 1) pe_int rfl)) pss_nil)
      (pss_one (ps_ret (pv 2)))))))), ?_⟩
    refine ⟨_, rfl, n, rfl, fun d hd => ?_⟩
    refine ⟨fun c σ H' => ∃ (l : List (Int × Nat)) (r t : Int), σ = [some (.int n), some (.int r), some (.ref d), some (.int t)] ∧ Same H H' ∧ H' d = some (.dK (kvsF l)) ∧ Trial (absI n) l r t ∧ t ≤ absI n + 2 ∧ c = (r - t + 3).toNat,
      ⟨_, [], absI n, 2, rfl, same_upd hd, upd_same, trial_start hN1, by omega, rfl⟩, ?_⟩
    rintro c σ H' ⟨l, r, t, rfl, hs, hdd, ht, htN, rfl⟩
    have t2 := ht.nod.1
    have rN := ht.le
    have r1 := ht.pos
    have hlen := trial_len ht hN2
    have tb : t.natAbs < 2 ^ 3000 := lt3000s (by omega) (by omega)
    have htt : t * 2 ≤ t * t := Int.mul_le_mul_of_nonneg_left t2 (by omega)
    refine ⟨_, rfl, _, rfl, _, _, rfl, rfl, CMulW.of tb tb, _, rfl, _, _, rfl, rfl, _, rfl, ifd (fun h => ⟨_, fun _ _ z => z, ?_⟩) (fun h => ?_)⟩
    · have tr : t ≤ r := nodiv_lt ht.nod (by omega)
      refine ⟨_, rfl, _, rfl, _, _, rfl, rfl, (by omega), _, _, rfl, rfl, _, rfl, ifd (fun h2 => ?_) (fun h2 => ?_)⟩
      · refine ⟨_, rfl, _, rfl, r, t, rfl, by omega, t2, tb, fun m u a hst ha => ?_⟩
        obtain ⟨k1, k2, k3⟩ := trial_take ht h2 hst.1 hst.2
        have nad : d ≠ a := ne_of_none hdd ha
        refine ⟨a, _, rfl, .inl (.inl upd_same), rfl, _, _, rfl, _, rfl, _, rfl, d, _, rfl, DPut.k (k := Sum.inl t) (by rw [upd_ne nad]; exact hdd) (by rw [kvsF_len]; exact small1000 (by omega)), _, _, rfl, rfl, ?_⟩
        refine ⟨_, rfl, t, rfl, ?_⟩
        refine ⟨_, ?_, l ++ [(t, m)], u, _, rfl, ?_, ?_, k1, ?_, rfl⟩
        · split <;> omega
        · intro b o e
          have h3 := hs b o e
          have nb : b ≠ d := ne_of_none e hd
          rw [upd_ne nb, upd_ne (ne_of_none h3 ha)]
          exact h3
        · rw [upd_same, putK_new _ (kvsF_none ht.low), kvsF_snoc]
        · split <;> omega
      · refine ⟨_, rfl, t, rfl, ?_⟩
        refine ⟨_, ?_, l, r, _, rfl, hs, hdd, trial_pass ht h2, ?_, rfl⟩
        · split <;> omega
        · split <;> omega
    · refine ⟨_, rfl, _, _, rfl, rfl, _, rfl, ifd (fun h3 => ?_) (fun h3 => ?_)⟩
      · obtain ⟨k1, k2⟩ := trial_end ht (by omega) (by omega)
        refine ⟨_, rfl, _, rfl, d, _, rfl, DPut.k (k := Sum.inl r) hdd (by rw [kvsF_len]; exact small1000 (by omega)), ?_⟩
        refine ⟨_, rfl, q _ d _ k1 (fun b o e => ?_) hd ?_⟩
        · rw [upd_ne (ne_of_none e hd)]
          exact hs b o e
        · rw [upd_same, putK_new _ (kvsF_none k2), kvsF_snoc]
          rfl
      · have hr : r = 1 := by omega
        subst hr
        exact ⟨_, rfl, q l d H' (trial_end1 ht) hs hd hdd⟩
theorem ok_factors (F : FnD K "factors" "factors" s_P_factors f fd) (C_P_check_number : Cal P w K mg base 2 "check_number" ["value"] spCheckNumber)
    (C_P_prime_powers : Cal P w K mg base 2 "prime_powers" ["number"] spFactors) :
    FnOk P w K mg base CX0 3 f fd ["number"] spFactors := by
  refine F.ok sc_P_factors (fun vs H Q E h => ?_) (fun cdv A outer s H vs Q E hr h => ?_)
  · obtain ⟨n, rfl, _⟩ := h; rfl
  · obtain ⟨n, rfl, hn, h1, h2, q⟩ := h
    refine ⟨_, PSs.nox (pss_cons (ps_expr (pe_cal C_P_check_number (hr.mono (by decide)) (pa_cons (pv 0) pa_nil)))
      (pss_one (ps_ret (pe_cal C_P_prime_powers (hr.mono (by decide)) (pa_cons (pv 0) pa_nil))))), ?_⟩
    exact ⟨_, rfl, n, rfl, hn, h1, h2, _, rfl, n, rfl, hn, h1, h2, fun l d H1 hf hs hd hdd => q l d H1 hf hs hd hdd⟩
end
end Sf

namespace Sf
/-! a prime divides a product only if it divides a factor -/
theorem PrP.pos {p : Int} (h : PrP p) : 0 < p := by have := h.1; omega
theorem gcd_of_prime {p : Int} (h : PrP p) {a : Int} (ha : ¬ p ∣ a) : Nat.Coprime p.natAbs a.natAbs := by
  have hp := h.1
  have h1 : Nat.gcd p.natAbs a.natAbs ∣ p.natAbs := Nat.gcd_dvd_left ..
  have h2 : Nat.gcd p.natAbs a.natAbs ∣ a.natAbs := Nat.gcd_dvd_right ..
  have h0 : 0 < Nat.gcd p.natAbs a.natAbs := Nat.gcd_pos_of_pos_left _ (by omega)
  have hle : Nat.gcd p.natAbs a.natAbs ≤ p.natAbs := Nat.le_of_dvd (by omega) h1
  unfold Nat.Coprime
  rcases Nat.lt_or_ge (Nat.gcd p.natAbs a.natAbs) 2 with z | z
  · omega
  · rcases Nat.lt_or_ge (Nat.gcd p.natAbs a.natAbs) p.natAbs with z2 | z2
    · exfalso
      refine h.2 (Nat.gcd p.natAbs a.natAbs : Int) (by omega) (by omega) ?_
      refine Int.emod_eq_zero_of_dvd ?_
      have : ((Nat.gcd p.natAbs a.natAbs : Nat) : Int) ∣ ((p.natAbs : Nat) : Int) := Int.ofNat_dvd.mpr h1
      rwa [Int.natAbs_of_nonneg (by omega : 0 ≤ p)] at this
    · exfalso
      have e : Nat.gcd p.natAbs a.natAbs = p.natAbs := by omega
      rw [e] at h2
      exact ha (Int.natAbs_dvd_natAbs.mp h2)
theorem prime_mul {p : Int} (h : PrP p) {a b : Int} (hd : p ∣ a * b) : p ∣ a ∨ p ∣ b := by
  by_cases ha : p ∣ a
  · exact .inl ha
  · refine .inr ?_
    have h1 : p.natAbs ∣ a.natAbs * b.natAbs := by
      rw [← Int.natAbs_mul]
      exact Int.natAbs_dvd_natAbs.mpr hd
    exact Int.natAbs_dvd_natAbs.mp (Nat.Coprime.dvd_of_dvd_mul_left (gcd_of_prime h ha) h1)
theorem prime_one {p : Int} (h : PrP p) : ¬ p ∣ 1 := fun z => by
  have h1 := Int.le_of_dvd (by omega) z
  have := h.1
  omega
theorem prime_pow {p a : Int} (h : PrP p) : ∀ {e : Nat}, p ∣ a ^ e → p ∣ a
  | 0, z => absurd (by rwa [Int.pow_zero] at z) (prime_one h)
  | e + 1, z => by
    rw [Int.pow_succ] at z
    rcases prime_mul h z with y | y
    · exact prime_pow h y
    · exact y
theorem prime_dvd_prime {p q : Int} (hp : PrP p) (hq : PrP q) (h : p ∣ q) : p = q := by
  have h1 := hp.1
  have h2 := hq.1
  have h3 := Int.le_of_dvd (by omega) h
  rcases Int.lt_or_le p q with z | z
  · exact absurd (Int.emod_eq_zero_of_dvd h) (hq.2 p h1 z)
  · omega
theorem prime_prodF {p : Int} (h : PrP p) : ∀ {l : List (Int × Nat)}, Primes l → p ∣ prodF l → ∃ e, (p, e) ∈ l
  | [], _, z => absurd z (prime_one h)
  | q :: l, hl, z => by
    rcases prime_mul h (show p ∣ q.1 ^ q.2 * prodF l from z) with y | y
    · have e := prime_dvd_prime h (hl q List.mem_cons_self).1 (prime_pow h y)
      exact ⟨q.2, by rw [e]; exact List.mem_cons_self⟩
    · obtain ⟨e, he⟩ := prime_prodF h (fun r hr => hl r (List.mem_cons_of_mem _ hr)) y
      exact ⟨e, List.mem_cons_of_mem _ he⟩
theorem pow_cancel {p : Int} (h : PrP p) {R S : Int} (hR : ¬ p ∣ R) (hS : ¬ p ∣ S) : ∀ {a b : Nat}, p ^ a * R = p ^ b * S → a = b ∧ R = S
  | 0, 0, e => ⟨rfl, by rwa [Int.pow_zero, Int.one_mul, Int.one_mul] at e⟩
  | 0, b + 1, e => by
    rw [Int.pow_zero, Int.one_mul, Int.pow_succ, Int.mul_assoc] at e
    refine absurd ?_ hR
    rw [e, Int.mul_comm, Int.mul_assoc]
    exact Int.dvd_mul_right ..
  | a + 1, 0, e => by
    rw [Int.pow_zero, Int.one_mul, Int.pow_succ, Int.mul_assoc] at e
    refine absurd ?_ hS
    rw [← e, Int.mul_comm, Int.mul_assoc]
    exact Int.dvd_mul_right ..
  | a + 1, b + 1, e => by
    have h0 := h.pos
    rw [Int.pow_succ, Int.pow_succ, Int.mul_comm (p ^ a), Int.mul_comm (p ^ b), Int.mul_assoc, Int.mul_assoc] at e
    obtain ⟨h1, h2⟩ := pow_cancel h hR hS (Int.eq_of_mul_eq_mul_left (by omega) e)
    exact ⟨by omega, h2⟩
/-! one number, one factorization -/
def Distinct (l : List (Int × Nat)) : Prop := (l.map (·.1)).Nodup
theorem distinct_of_sorted {l : List (Int × Nat)} (h : Sorted l) : Distinct l := by
  unfold Distinct List.Nodup
  rw [List.pairwise_map]
  exact h.imp fun h e => by omega
theorem distinct_perm {l m : List (Int × Nat)} (h : l.Perm m) (d : Distinct l) : Distinct m := by
  unfold Distinct at *
  exact (h.map _).nodup_iff.mp d
theorem prodF_perm {l m : List (Int × Nat)} (h : l.Perm m) : prodF l = prodF m := by
  induction h with
  | nil => rfl
  | cons x _ ih => show x.1 ^ x.2 * _ = x.1 ^ x.2 * _; rw [ih]
  | swap x y l => show y.1 ^ y.2 * (x.1 ^ x.2 * _) = x.1 ^ x.2 * (y.1 ^ y.2 * _); exact Int.mul_left_comm ..
  | trans _ _ a b => exact a.trans b
theorem oddF_perm {l m : List (Int × Nat)} (h : l.Perm m) : oddF l = oddF m := by
  induction h with
  | nil => rfl
  | cons x _ ih => show (if x.2 % 2 = 1 then x.1 else 1) * _ = (if x.2 % 2 = 1 then x.1 else 1) * _; rw [ih]
  | swap x y l => exact Int.mul_left_comm ..
  | trans _ _ a b => exact a.trans b
theorem not_dvd_rest {p : Int} {e : Nat} {l : List (Int × Nat)} (hp : Primes ((p, e) :: l)) (hd : Distinct ((p, e) :: l)) : ¬ p ∣ prodF l := fun z => by
  obtain ⟨e', he⟩ := prime_prodF (hp (p, e) List.mem_cons_self).1 (fun r hr => hp r (List.mem_cons_of_mem _ hr)) z
  unfold Distinct at hd
  rw [List.map_cons, List.nodup_cons] at hd
  exact hd.1 (List.mem_map.mpr ⟨(p, e'), he, rfl⟩)
theorem fact_unique : ∀ {l m : List (Int × Nat)}, Primes l → Distinct l → Primes m → Distinct m → prodF l = prodF m → l.Perm m
  | [], m, _, _, hm, _, e => by
    cases m with
    | nil => exact List.Perm.nil
    | cons q m =>
      have h1 := prodF_len hm
      rw [← e] at h1
      have h2 : (0 : Int) < 2 ^ m.length := pow_pos_int (by omega) _
      rw [List.length_cons, Int.pow_succ] at h1
      have h3 : prodF [] = 1 := rfl
      omega
  | (p, a) :: l, m, hl, dl, hm, dm, e => by
    have hp := (hl (p, a) List.mem_cons_self).1
    have ha := (hl (p, a) List.mem_cons_self).2
    have hdv : p ∣ prodF m := by
      rw [← e]
      show p ∣ p ^ a * prodF l
      obtain ⟨k, rfl⟩ : ∃ k, a = k + 1 := ⟨a - 1, by have : 1 ≤ a := ha; omega⟩
      rw [Int.pow_succ, Int.mul_comm (p ^ k), Int.mul_assoc]
      exact Int.dvd_mul_right ..
    obtain ⟨b, hb⟩ := prime_prodF hp hm hdv
    have hperm := List.perm_cons_erase hb
    have hm2 : Primes ((p, b) :: m.erase (p, b)) := fun r hr => hm r (hperm.mem_iff.mpr hr)
    have dm2 : Distinct ((p, b) :: m.erase (p, b)) := distinct_perm hperm dm
    have e2 : p ^ a * prodF l = p ^ b * prodF (m.erase (p, b)) := e.trans (prodF_perm hperm)
    obtain ⟨h1, h2⟩ := pow_cancel hp (not_dvd_rest hl dl) (not_dvd_rest hm2 dm2) e2
    subst h1
    have ih := fact_unique (l := l) (m := m.erase (p, a)) (fun r hr => hl r (List.mem_cons_of_mem _ hr)) ((List.nodup_cons.mp dl).2) (fun r hr => hm2 r (List.mem_cons_of_mem _ hr)) ((List.nodup_cons.mp dm2).2) h2
    exact (ih.cons (p, a)).trans hperm.symm
/-! the square-free part -/
def oddL (l : List (Int × Nat)) : List (Int × Nat) := (l.filter fun q => q.2 % 2 == 1).map fun q => (q.1, 1)
theorem oddL_prod : ∀ l : List (Int × Nat), prodF (oddL l) = oddF l ∧ oddF (oddL l) = oddF l
  | [] => ⟨rfl, rfl⟩
  | q :: l => by
    obtain ⟨h1, h2⟩ := oddL_prod l
    unfold oddL at *
    by_cases h : q.2 % 2 = 1
    · rw [List.filter_cons_of_pos (by simp [h]), List.map_cons]
      show q.1 ^ 1 * _ = (if q.2 % 2 = 1 then q.1 else 1) * _ ∧ (if (1 : Nat) % 2 = 1 then q.1 else 1) * _ = (if q.2 % 2 = 1 then q.1 else 1) * _
      rw [if_pos h, h1, h2, Int.pow_succ, Int.pow_zero, Int.one_mul]
      exact ⟨rfl, rfl⟩
    · rw [List.filter_cons_of_neg (by simp [h])]
      show _ = (if q.2 % 2 = 1 then q.1 else 1) * _ ∧ _ = (if q.2 % 2 = 1 then q.1 else 1) * _
      rw [if_neg h, h1, h2, Int.one_mul]
      exact ⟨rfl, rfl⟩
theorem oddL_primes {l : List (Int × Nat)} (h : Primes l) : Primes (oddL l) := fun q hq => by
  obtain ⟨r, hr, e⟩ := List.mem_map.mp hq
  rw [← e]
  exact ⟨(h r (List.mem_filter.mp hr).1).1, Nat.le_refl _⟩
theorem oddL_distinct {l : List (Int × Nat)} (h : Distinct l) : Distinct (oddL l) := by
  unfold Distinct oddL
  rw [List.map_map]
  have : ((fun x : Int × Nat => x.1) ∘ fun q => (q.1, 1)) = fun q : Int × Nat => q.1 := rfl
  rw [this]
  exact h.sublist (List.filter_sublist.map _)
def rootF : List (Int × Nat) → Int
  | [] => 1
  | q :: l => q.1 ^ (q.2 / 2) * rootF l
theorem rootF_append : ∀ l m : List (Int × Nat), rootF (l ++ m) = rootF l * rootF m
  | [], m => by show rootF m = 1 * rootF m; rw [Int.one_mul]
  | q :: l, m => by
    show q.1 ^ (q.2 / 2) * rootF (l ++ m) = q.1 ^ (q.2 / 2) * rootF l * rootF m
    rw [rootF_append l m, Int.mul_assoc]
theorem odd_root : ∀ l : List (Int × Nat), oddF l * rootF l * rootF l = prodF l
  | [] => rfl
  | q :: l => by
    have ih := odd_root l
    show (if q.2 % 2 = 1 then q.1 else 1) * oddF l * (q.1 ^ (q.2 / 2) * rootF l) * (q.1 ^ (q.2 / 2) * rootF l) = q.1 ^ q.2 * prodF l
    rw [pow_split q.1 q.2, ← ih]
    generalize (if q.2 % 2 = 1 then q.1 else 1) = c
    generalize q.1 ^ (q.2 / 2) = g
    generalize oddF l = o
    generalize rootF l = r
    simp only [Int.mul_comm, Int.mul_left_comm, Int.mul_assoc]
theorem rootF_bound : ∀ {l : List (Int × Nat)}, Primes l → 1 ≤ rootF l ∧ rootF l ≤ prodF l
  | [], _ => ⟨Int.le_refl _, Int.le_refl _⟩
  | q :: l, h => by
    have ih := rootF_bound (l := l) fun r hr => h r (List.mem_cons_of_mem _ hr)
    have hp2 := (h q List.mem_cons_self).1.1
    have h1 : 0 < q.1 ^ (q.2 / 2) := pow_pos_int (by omega) _
    have h2 : q.1 ^ (q.2 / 2) ≤ q.1 ^ q.2 := by
      have e : q.2 = q.2 / 2 + (q.2 - q.2 / 2) := by omega
      have h3 : 0 < q.1 ^ (q.2 - q.2 / 2) := pow_pos_int (by omega) _
      have h4 : q.1 ^ (q.2 / 2) * 1 ≤ q.1 ^ (q.2 / 2) * q.1 ^ (q.2 - q.2 / 2) := Int.mul_le_mul_of_nonneg_left (by omega) (by omega)
      rw [← Int.pow_add, ← e] at h4
      omega
    show 1 ≤ q.1 ^ (q.2 / 2) * rootF l ∧ q.1 ^ (q.2 / 2) * rootF l ≤ q.1 ^ q.2 * prodF l
    refine ⟨?_, Int.mul_le_mul h2 ih.2 (by omega) (by omega)⟩
    have := Int.mul_pos h1 (show 0 < rootF l by omega)
    omega
theorem primes_take {l : List (Int × Nat)} (h : Primes l) (i : Nat) : Primes (l.take i) := fun r hr => h r (List.mem_of_mem_take hr)
theorem rootF_take_pos {l : List (Int × Nat)} (h : Primes l) (i j : Nat) {q : Int} (hq : 2 ≤ q := by omega) : 1 ≤ rootF (l.take i) * q ^ j := by
  have h1 := (rootF_bound (primes_take h i)).1
  have h2 : 0 < q ^ j := pow_pos_int (by omega) _
  have := Int.mul_pos (show 0 < rootF (l.take i) by omega) h2
  omega
theorem pow_le_pow {p : Int} (h : 1 ≤ p) {a b : Nat} (hab : a ≤ b) : p ^ a ≤ p ^ b := by
  have e : b = a + (b - a) := by omega
  have h1 : 0 < p ^ a := pow_pos_int (by omega) _
  have h2 : 0 < p ^ (b - a) := pow_pos_int (by omega) _
  have h4 : p ^ a * 1 ≤ p ^ a * p ^ (b - a) := Int.mul_le_mul_of_nonneg_left (by omega) (by omega)
  rw [← Int.pow_add, ← e] at h4
  omega
theorem rootF_take_le {l : List (Int × Nat)} (h : Primes l) {i j : Nat} (hi : i < l.length) (hj : j < l[i].2 / 2) : rootF (l.take i) * l[i].1 ^ j ≤ prodF l := by
  have hp2 := (h _ (List.getElem_mem hi)).1.1
  have h1 := rootF_bound (primes_take h (i + 1))
  have e : rootF (l.take (i + 1)) = rootF (l.take i) * l[i].1 ^ (l[i].2 / 2) := by
    rw [List.take_add_one, List.getElem?_eq_getElem hi, rootF_append]
    show _ = _
    congr 1
    show l[i].1 ^ (l[i].2 / 2) * 1 = _
    rw [Int.mul_one]
  have h2 := (rootF_bound (primes_take h i)).1
  have h3 : l[i].1 ^ j ≤ l[i].1 ^ (l[i].2 / 2) := pow_le_pow (by omega) (by omega)
  have h4 : rootF (l.take i) * l[i].1 ^ j ≤ rootF (l.take i) * l[i].1 ^ (l[i].2 / 2) := Int.mul_le_mul_of_nonneg_left h3 (by omega)
  have h5 := prodF_take h (i + 1)
  rw [← e] at h4
  omega
theorem sq_not_dvd {l : List (Int × Nat)} (h : Primes l) (d : Distinct l) {q : Int × Nat} (hq : q ∈ l) : ¬ (q.1 * q.1) ∣ oddF l := fun z => by
  have hp := (h q hq).1
  have hperm := List.perm_cons_erase hq
  have h2 : Primes (q :: l.erase q) := fun r hr => h r (hperm.mem_iff.mpr hr)
  have d2 : Distinct (q :: l.erase q) := distinct_perm hperm d
  rw [oddF_perm hperm] at z
  have h3 : q.1 ∣ oddF (l.erase q) := by
    obtain ⟨k, hk⟩ := z
    have hk2 : (if q.2 % 2 = 1 then q.1 else 1) * oddF (l.erase q) = q.1 * q.1 * k := hk
    by_cases c : q.2 % 2 = 1
    · rw [if_pos c, Int.mul_assoc] at hk2
      exact ⟨k, Int.eq_of_mul_eq_mul_left (by have := hp.pos; omega) hk2⟩
    · rw [if_neg c, Int.one_mul, Int.mul_assoc] at hk2
      exact ⟨q.1 * k, hk2⟩
  have h4 : q.1 ∣ prodF (l.erase q) := by
    rw [← odd_root]
    exact Int.dvd_mul_of_dvd_left (Int.dvd_mul_of_dvd_left h3)
  obtain ⟨p, e⟩ := q
  exact not_dvd_rest h2 d2 h4
end Sf

namespace Sf
open PySem PySem.Spec PyProof.Rows L2
/-- the rests of squares, and the sign by them -/
def sqs (p : Int) : List Int := (List.range (p - 1).toNat).map fun i => ((1 : Int) + (i : Nat)) * (1 + (i : Nat)) % p
theorem sqs_at {p : Int} {i : Nat} (h : i < (p - 1).toNat) : (sqs p)[i]? = some (((1 : Int) + (i : Nat)) * (1 + (i : Nat)) % p) := by
  unfold sqs
  rw [List.getElem?_map, List.getElem?_range h]
  rfl
def lawSign (n p : Int) : Int := if n % p = 0 then 0 else if p = 2 then (if n % 8 = 1 ∨ n % 8 = 7 then 1 else -1) else if n % p ∈ sqs p then 1 else -1
end Sf

namespace Sf
/-! residues by tables -/
def maskOf (p : Nat) : List Nat → Nat
  | [] => 0
  | x :: l => maskOf p l ||| 2 ^ (x * x % p)
theorem maskOf_bit (p r : Nat) : ∀ l : List Nat, (maskOf p l).testBit r = l.any fun x => x * x % p == r
  | [] => Nat.zero_testBit r
  | x :: l => by
    unfold maskOf
    rw [Nat.testBit_or, maskOf_bit p r l, Nat.testBit_two_pow, List.any_cons, Bool.or_comm]
    rfl
def euler (p : Nat) : Bool :=
  let m := maskOf p (List.range' 1 (p - 1))
  (List.range' 1 (p - 1)).all fun r => (r ^ ((p - 1) / 2) % p == 1) == m.testBit r && (r ^ ((p - 1) / 2) % p == 1 || r ^ ((p - 1) / 2) % p == p - 1)
theorem sqs_nat {p r : Nat} : ((r : Int) ∈ sqs p) ↔ (List.range' 1 (p - 1)).any (fun x => x * x % p == r) = true := by
  unfold sqs
  rw [List.mem_map, List.any_eq_true]
  constructor
  · rintro ⟨i, hi, e⟩
    rw [List.mem_range] at hi
    refine ⟨1 + i, by rw [List.mem_range'_1]; omega, ?_⟩
    rw [beq_iff_eq]
    have e2 : (((1 + i) * (1 + i) % p : Nat) : Int) = (r : Int) := by
      rw [← e]
      push_cast
      rfl
    exact Int.ofNat.inj e2
  · rintro ⟨x, hx, e⟩
    rw [List.mem_range'_1] at hx
    refine ⟨x - 1, by rw [List.mem_range]; omega, ?_⟩
    rw [beq_iff_eq] at e
    have e1 : (1 : Int) + ((x - 1 : Nat) : Int) = (x : Int) := by omega
    rw [e1, ← e]
    push_cast
    rfl
theorem emod_cast {n : Int} {p : Nat} (hp : 0 < p) : ∃ r : Nat, r < p ∧ n % p = (r : Int) := by
  have h1 := Int.emod_nonneg n (by omega : (p : Int) ≠ 0)
  have h2 := Int.emod_lt_of_pos n (by omega : (0 : Int) < p)
  exact ⟨(n % p).toNat, by omega, by omega⟩
theorem half_cast (p : Nat) (hp : 1 ≤ p) : ((((p : Int) - 1) / 2).toNat) = (p - 1) / 2 := by omega
theorem pow_rest {n : Int} {p r : Nat} (k : Nat) (e : n % p = (r : Int)) : n ^ k % p = ((r ^ k % p : Nat) : Int) := by
  rw [← pow_mod, e]
  push_cast
  rfl
theorem euler_at {p : Nat} (h : euler p = true) {r : Nat} (h1 : 1 ≤ r) (h2 : r < p) : (r ^ ((p - 1) / 2) % p = 1 ↔ (r : Int) ∈ sqs p) ∧ (r ^ ((p - 1) / 2) % p = 1 ∨ r ^ ((p - 1) / 2) % p = p - 1) := by
  unfold euler at h
  have h3 := List.all_eq_true.mp h r (by rw [List.mem_range'_1]; omega)
  rw [Bool.and_eq_true, maskOf_bit] at h3
  obtain ⟨h4, h5⟩ := h3
  refine ⟨?_, by simpa using h5⟩
  rw [sqs_nat]
  have h6 := beq_iff_eq.mp h4
  rw [← h6, beq_iff_eq]
theorem sign_eq {p : Nat} (hp : 3 ≤ p) (h : euler p = true) (n : Int) : restSign n p = lawSign n p := by
  unfold restSign lawSign
  by_cases h0 : n % p = 0
  · rw [if_pos h0, if_pos h0]
  · rw [if_neg h0, if_neg h0, if_neg (by omega : ¬ (p : Int) = 2), if_neg (by omega : ¬ (p : Int) = 2)]
    obtain ⟨r, hr, e⟩ := emod_cast (n := n) (by omega : 0 < p)
    have h1 : 1 ≤ r := by
      rcases Nat.eq_zero_or_pos r with z | z
      · rw [z] at e
        exact absurd e h0
      · exact z
    have h2 := (euler_at h h1 hr).1
    rw [half_cast p (by omega), pow_rest _ e, e]
    by_cases c : r ^ ((p - 1) / 2) % p = 1
    · rw [if_pos (h2.mp c), if_pos (by rw [c]; rfl)]
    · rw [if_neg (fun z => c (h2.mpr z)), if_neg (fun z => c (by omega))]
theorem sign_eq2 (n : Int) : restSign n 2 = lawSign n 2 := by
  unfold restSign lawSign
  rfl
theorem sign_mul {p : Nat} (hp : 3 ≤ p) (h : euler p = true) (hq : PrP p) (a b : Int) : restSign (a * b) p = restSign a p * restSign b p := by
  unfold restSign
  have hn : ¬ (p : Int) = 2 := by omega
  by_cases ha : a % p = 0
  · have hab : a * b % p = 0 := Int.emod_eq_zero_of_dvd (Int.dvd_mul_of_dvd_left (Int.dvd_of_emod_eq_zero ha))
    rw [if_pos ha, if_pos hab, Int.zero_mul]
  · by_cases hb : b % p = 0
    · have hab : a * b % p = 0 := Int.emod_eq_zero_of_dvd (Int.dvd_mul_of_dvd_right (Int.dvd_of_emod_eq_zero hb))
      rw [if_pos hb, if_pos hab, Int.mul_zero]
    · have hab : ¬ a * b % p = 0 := fun z => by
        rcases prime_mul hq (Int.dvd_of_emod_eq_zero z) with y | y
        · exact ha (Int.emod_eq_zero_of_dvd y)
        · exact hb (Int.emod_eq_zero_of_dvd y)
      rw [if_neg ha, if_neg hb, if_neg hab, if_neg hn, if_neg hn, if_neg hn, half_cast p (by omega)]
      obtain ⟨r, hr, er⟩ := emod_cast (n := a) (by omega : 0 < p)
      obtain ⟨t, ht, et⟩ := emod_cast (n := b) (by omega : 0 < p)
      have r1 : 1 ≤ r := by
        rcases Nat.eq_zero_or_pos r with z | z
        · rw [z] at er
          exact absurd er ha
        · exact z
      have t1 : 1 ≤ t := by
        rcases Nat.eq_zero_or_pos t with z | z
        · rw [z] at et
          exact absurd et hb
        · exact z
      have e1 := (euler_at h r1 hr).2
      have e2 := (euler_at h t1 ht).2
      have p1 := pow_rest ((p - 1) / 2) er
      have p2 := pow_rest ((p - 1) / 2) et
      have pm : (a * b) ^ ((p - 1) / 2) % p = ((a ^ ((p - 1) / 2) % p) * (b ^ ((p - 1) / 2) % p)) % p := by rw [Int.mul_pow, Int.mul_emod]
      have c1 : ((p - 1 : Nat) : Int) = (p : Int) - 1 := by omega
      have q1 : ((p : Int) - 1) * ((p : Int) - 1) % p = 1 := by
        have : ((p : Int) - 1) * ((p : Int) - 1) = 1 + p * (p - 2) := by
          have e3 : (p : Int) * (p - 2) = p * p - p * 2 := Int.mul_sub ..
          rw [e3, Int.sub_mul, Int.mul_sub]
          omega
        rw [this, Int.add_mul_emod_self_left]
        exact Int.emod_eq_of_lt (by omega) (by omega)
      have q2 : ((p : Int) - 1) % p = p - 1 := Int.emod_eq_of_lt (by omega) (by omega)
      have n1 : ¬ ((p : Int) - 1) = 1 := by omega
      rw [pm, p1, p2]
      rcases e1 with e1 | e1 <;> rcases e2 with e2 | e2 <;> rw [e1, e2]
      · have : ((1 : Nat) : Int) * ((1 : Nat) : Int) % p = 1 := Int.emod_eq_of_lt (by decide) (by show (1 : Int) < p; omega)
        rw [this]
        rfl
      · rw [c1, show ((1 : Nat) : Int) * ((p : Int) - 1) = p - 1 by omega, q2, if_neg n1]
        rfl
      · rw [c1, show ((p : Int) - 1) * ((1 : Nat) : Int) = p - 1 by omega, q2, if_neg n1]
        rfl
      · rw [c1, q1, if_neg n1]
        rfl
theorem sign_mul2 (a b : Int) : restSign (a * b) 2 = restSign a 2 * restSign b 2 := by
  have key : ∀ r : Fin 8, ∀ t : Fin 8, restSign ((r.val : Int) * (t.val : Int)) 2 = restSign r.val 2 * restSign t.val 2 := by decide +kernel
  have red : ∀ n : Int, restSign n 2 = restSign (n % 8) 2 := fun n => by
    unfold restSign
    have h1 : n % 8 % 2 = n % 2 := by omega
    have h2 : n % 8 % 8 = n % 8 := by omega
    rw [h1, h2]
    rfl
  have k2 : ∀ n : Int, ∃ r : _root_.Fin 8, n % 8 = (r.val : Int) := fun n => ⟨⟨(n % 8).toNat, by omega⟩, by show n % 8 = ((n % 8).toNat : Int); omega⟩
  obtain ⟨r, hr⟩ := k2 a
  obtain ⟨t, ht⟩ := k2 b
  rw [red (a * b), Int.mul_emod, ← red, red a, red b, hr, ht]
  exact key r t
end Sf

namespace Sf
open PySem PySem.Spec PyProof.Rows L2
/-! lists and tuples of ints as data -/
theorem lay_ints : ∀ ns : List Int, PyData.canLayAll0 (ns.map PyData.int) = true ∧ PyData.depthAll (ns.map PyData.int) = 0
  | [] => ⟨rfl, rfl⟩
  | n :: ns => by
    obtain ⟨h1, h2⟩ := lay_ints ns
    refine ⟨?_, ?_⟩
    · show (true && PyData.canLayAll0 (ns.map PyData.int)) = true
      rw [h1]
      rfl
    · show max 0 (PyData.depthAll (ns.map PyData.int)) = 0
      rw [h2]
      rfl
theorem shp_list (ns : List Int) : SeqAt.shaped (.list (ns.map PyData.int)) = true := by
  obtain ⟨h1, h2⟩ := lay_ints ns
  show (PyData.canLayAll0 (ns.map PyData.int) && decide (PyData.depthAll (ns.map PyData.int) + 1 ≤ 64)) = true
  rw [h1, h2]
  rfl
theorem shp_tup (ns : List Int) : SeqAt.shaped (.tuple (ns.map PyData.int)) = true := by
  obtain ⟨h1, h2⟩ := lay_ints ns
  show (PyData.canLayAll0 (ns.map PyData.int) && decide (PyData.depthAll (ns.map PyData.int) + 1 ≤ 64)) = true
  rw [h1, h2]
  rfl
theorem eqv_ints : ∀ a b : List Int, PyData.eqvAll (a.map PyData.int) (b.map PyData.int) = decide (a = b)
  | [], [] => rfl
  | [], _ :: _ => rfl
  | _ :: _, [] => rfl
  | x :: a, y :: b => by
    show ((x == y) && PyData.eqvAll (a.map PyData.int) (b.map PyData.int)) = _
    rw [eqv_ints a b, Bool.eq_iff_iff]
    simp only [Bool.and_eq_true, beq_iff_eq, decide_eq_true_eq, List.cons.injEq]
theorem dpAll_ints (K : PySem.W.Frag) (H : Hp) : ∀ ns : List Int, DpAll K H (ns.map V.int) (ns.map PyData.int)
  | [] => .nil
  | n :: ns => .cons (.int n) (dpAll_ints K H ns)
theorem dp_list {K : PySem.W.Frag} {H : Hp} {a : Addr} {ns : List Int} (h : SqL K H a (ns.map V.int)) : Dp K H (.ref a) (.list (ns.map PyData.int)) := .lst h (dpAll_ints K H ns)
theorem dp_tup {K : PySem.W.Frag} {H : Hp} {a : Addr} {ns : List Int} (h : SqT K H a (ns.map V.int)) : Dp K H (.ref a) (.tuple (ns.map PyData.int)) := .tup h (dpAll_ints K H ns)
end Sf

namespace Sf
theorem strip_unique {n p : Int} (hp : PrP p) {m m' : Nat} {u u' : Int} (h : Strip n p m u) (h' : Strip n p m' u') : m = m' ∧ u = u' :=
  pow_cancel hp (fun z => h.2 (Int.emod_eq_zero_of_dvd z)) (fun z => h'.2 (Int.emod_eq_zero_of_dvd z)) (h.1.symm.trans h'.1)
theorem strip_ne {n p : Int} {m : Nat} {u : Int} (h : Strip n p m u) : u ≠ 0 := fun z => h.2 (by rw [z]; exact Int.zero_emod _)
theorem strip_le {n p : Int} (hp : 2 ≤ p) {m : Nat} {u : Int} (h : Strip n p m u) : u.natAbs ≤ n.natAbs ∧ (m : Int) < n.natAbs + 1 := by
  have h1 := h.1
  have hu := strip_ne h
  have hpm : 0 < p ^ m := pow_pos_int (by omega) m
  have e : n.natAbs = (p ^ m).natAbs * u.natAbs := by rw [h1]; exact Int.natAbs_mul _ _
  have g1 : 1 ≤ (p ^ m).natAbs := by omega
  have g2 : 1 ≤ u.natAbs := by omega
  have g3 : 1 * u.natAbs ≤ (p ^ m).natAbs * u.natAbs := Nat.mul_le_mul_right _ g1
  have g4 : (p ^ m).natAbs * 1 ≤ (p ^ m).natAbs * u.natAbs := Nat.mul_le_mul_left _ g2
  have g5 := nat_lt_pow hp m
  omega
/-- the sign at a prime by what is stripped -/
def sgnAt (p : Int) (s t : Nat) (u v : Int) : Int :=
  if p = 2 then (if ((u - 1) / 2 * ((v - 1) / 2) + s * ((v * v - 1) / 8) + t * ((u * u - 1) / 8)) % 2 = 1 then -1 else 1)
  else (if s * t % 2 = 1 then restSign (-1) p else 1) * (if t % 2 = 1 then restSign u p else 1) * (if s % 2 = 1 then restSign v p else 1)
def HSign (a b p r : Int) : Prop := (p = 0 ∧ r = if a < 0 ∧ b < 0 then -1 else 1) ∨ (p ≠ 0 ∧ ∃ (s t : Nat) (u v : Int), Strip a p s u ∧ Strip b p t v ∧ r = sgnAt p s t u v)
theorem hsign_unique {a b p r r' : Int} (hp : p = 0 ∨ PrP p) (h : HSign a b p r) (h' : HSign a b p r') : r = r' := by
  rcases h with ⟨h0, h1⟩ | ⟨h0, s, t, u, v, h1, h2, h3⟩
  · rcases h' with ⟨_, g1⟩ | ⟨g0, _⟩
    · rw [h1, g1]
    · exact absurd h0 g0
  · rcases h' with ⟨g0, _⟩ | ⟨_, s', t', u', v', g1, g2, g3⟩
    · exact absurd g0 h0
    · have hp := hp.resolve_left h0
      obtain ⟨e1, e2⟩ := strip_unique hp h1 g1
      obtain ⟨e3, e4⟩ := strip_unique hp h2 g2
      rw [h3, g3, e1, e2, e3, e4]
theorem sgnAt_comm (p : Int) (s t : Nat) (u v : Int) : sgnAt p s t u v = sgnAt p t s v u := by
  unfold sgnAt
  by_cases h : p = 2
  · rw [if_pos h, if_pos h]
    have e : (u - 1) / 2 * ((v - 1) / 2) + s * ((v * v - 1) / 8) + t * ((u * u - 1) / 8) = (v - 1) / 2 * ((u - 1) / 2) + t * ((u * u - 1) / 8) + s * ((v * v - 1) / 8) := by
      rw [Int.mul_comm ((u - 1) / 2)]
      omega
    rw [e]
  · rw [if_neg h, if_neg h, Nat.mul_comm s t, Int.mul_assoc, Int.mul_assoc]
    congr 1
    exact Int.mul_comm _ _
theorem hsign_comm {a b p r : Int} (h : HSign a b p r) : HSign b a p r := by
  rcases h with ⟨h0, h1⟩ | ⟨h0, s, t, u, v, h1, h2, h3⟩
  · refine .inl ⟨h0, ?_⟩
    rw [h1]
    by_cases c : a < 0 ∧ b < 0
    · rw [if_pos c, if_pos c.symm]
    · rw [if_neg c, if_neg (fun z => c z.symm)]
  · exact .inr ⟨h0, t, s, v, u, h2, h1, by rw [h3]; exact sgnAt_comm ..⟩
theorem rest_small (n p : Int) : -1 ≤ restSign n p ∧ restSign n p ≤ 1 := by
  unfold restSign
  split
  · decide
  · split
    · split <;> decide
    · split <;> decide
end Sf

namespace Sf
open PySem PySem.Spec PyProof.Rows L2
section
variable {P : Program} {w : World} {K : PySem.W.Frag} {mg : Str → Option Value} {base : Heap} {f : Addr} {fd : FuncData}
def spQuarter : Sp := fun vs H Q _ => ∃ u : Int, vs = [.int u] ∧ Q (.int ((u - 1) / 2)) H
theorem ok_quarter (F : FnD K "quarter" "quarter" s_P_quarter f fd) : FnOk P w K mg base CX0 1 f fd ["unit"] spQuarter := by
  refine F.ok sc_P_quarter (fun vs H Q E h => ?_) (fun cdv A outer s H vs Q E hr h => ?_)
  · obtain ⟨n, rfl, _⟩ := h; rfl
  · obtain ⟨n, rfl, q⟩ := h
    refine ⟨_, PSs.nox (pss_one (ps_ret (pe_op op_fdivW (pe_op op_sub (pv 0) pe_int) pe_int))), ?_⟩
    exact ⟨_, rfl, _, _, rfl, rfl, _, _, rfl, rfl, CDivW.of (by decide) (by decide +kernel), q⟩
def spEighth : Sp := fun vs H Q _ => ∃ u : Int, vs = [.int u] ∧ u.natAbs < 2 ^ 3000 ∧ Q (.int ((u * u - 1) / 8)) H
theorem ok_eighth (F : FnD K "eighth" "eighth" s_P_eighth f fd) : FnOk P w K mg base CX0 1 f fd ["unit"] spEighth := by
  refine F.ok sc_P_eighth (fun vs H Q E h => ?_) (fun cdv A outer s H vs Q E hr h => ?_)
  · obtain ⟨n, rfl, _⟩ := h; rfl
  · obtain ⟨n, rfl, hb, q⟩ := h
    refine ⟨_, PSs.nox (pss_one (ps_ret (pe_op op_fdivW (pe_op op_sub (pe_op op_mulW (pv 0) (pv 0)) pe_int) pe_int))), ?_⟩
    exact ⟨_, rfl, _, rfl, _, _, rfl, rfl, CMulW.of hb hb, _, _, rfl, rfl, _, _, rfl, rfl, CDivW.of (by decide) (by decide +kernel), q⟩
structure SgnP (two : Bool) (vs : List V) (H : Hp) (Q : VK) : Prop where
  ex : ∃ a b p : Int, vs = (if two then [.int a, .int b] else [.int a, .int b, .int p]) ∧ (two = true → p = 2) ∧ (two = false → p ≠ 2) ∧ a ≠ 0 ∧ b ≠ 0 ∧ a.natAbs ≤ 1000000000 ∧ b.natAbs ≤ 1000000000 ∧ 2 ≤ p ∧ p ≤ 1000000000 ∧
    ∀ (s t : Nat) (u v : Int) (H' : Hp), Strip a p s u → Strip b p t v → Same H H' → Q (.int (sgnAt p s t u v)) H'
def spSgn (two : Bool) : Sp := fun vs H Q _ => SgnP two vs H Q
theorem small_mul {a b A B : Int} (ha : a.natAbs ≤ A.natAbs) (hb : b.natAbs ≤ B.natAbs) : (a * b).natAbs ≤ (A * B).natAbs := by
  rw [Int.natAbs_mul, Int.natAbs_mul]
  exact Nat.mul_le_mul ha hb
theorem ok_sign_at_two (F : FnD K "sign_at_two" "sign_at_two" s_P_sign_at_two f fd) (C_P_stripped : Cal P w K mg base 1 "stripped" ["number", "prime"] spStripped) (C_P_quarter : Cal P w K mg base 1 "quarter" ["unit"] spQuarter) (C_P_eighth : Cal P w K mg base 1 "eighth" ["unit"] spEighth) :
    FnOk P w K mg base CX0 2 f fd ["a", "b"] (spSgn true) := by
  refine F.ok sc_P_sign_at_two (fun vs H Q E h => ?_) (fun cdv A outer s H vs Q E hr h => ?_)
  · obtain ⟨a, b, p, rfl, _⟩ := h.ex; rfl
  · obtain ⟨a, b, p, rfl, h2, _, a0, b0, a1, b1, _, _, q⟩ := h.ex
    obtain rfl : p = 2 := h2 rfl
    refine ⟨_, PSs.nox (pss_cons (ps_asg (pe_cal C_P_stripped (hr.mono (by decide)) (pa_cons (pv 0) (pa_cons pe_int pa_nil))) (pg_tup (by rfl) (pgs_cons (pg_name (i := 2) sc_P_sign_at_two.nd rfl (Or.inl rfl)) (pgs_cons (pg_name (i := 3) sc_P_sign_at_two.nd rfl (Or.inl rfl)) pgs_nil))))
      (pss_cons (ps_asg (pe_cal C_P_stripped (hr.mono (by decide)) (pa_cons (pv 1) (pa_cons pe_int pa_nil))) (pg_tup (by rfl) (pgs_cons (pg_name (i := 4) sc_P_sign_at_two.nd rfl (Or.inl rfl)) (pgs_cons (pg_name (i := 5) sc_P_sign_at_two.nd rfl (Or.inl rfl)) pgs_nil))))
      (pss_cons (ps_set (i := 6) sc_P_sign_at_two.nd rfl (Or.inl rfl) (pe_op op_add (pe_op op_add (pe_op op_mulW (pe_cal C_P_quarter (hr.mono (by decide)) (pa_cons (pv 3) pa_nil)) (pe_cal C_P_quarter (hr.mono (by decide)) (pa_cons (pv 5) pa_nil))) (pe_op op_mulW (pv 2) (pe_cal C_P_eighth (hr.mono (by decide)) (pa_cons (pv 5) pa_nil)))) (pe_op op_mulW (pv 4) (pe_cal C_P_eighth (hr.mono (by decide)) (pa_cons (pv 3) pa_nil)))))
      (pss_one (ps_ret (pe_ifExp (pt_cmp (pc_eqI (pe_op op_mod (pv 6) pe_int) pe_int)) (pe_un un_neg pe_int) pe_int)))))), ?_⟩
    have tb : (2 : Int).natAbs < 2 ^ 3000 := by decide +kernel
    refine ⟨_, rfl, a, 2, rfl, a0, by decide, tb, fun s u x1 st1 hx1 => ⟨x1, _, rfl, .inl (.inl upd_same), rfl, _, _, rfl, _, _, rfl, rfl, ?_⟩⟩
    refine ⟨_, rfl, b, 2, rfl, b0, by decide, tb, fun t v x2 st2 hx2 => ⟨x2, _, rfl, .inl (.inl upd_same), rfl, _, _, rfl, _, _, rfl, rfl, ?_⟩⟩
    have l1 := strip_le (by decide) st1
    have l2 := strip_le (by decide) st2
    have ub : u.natAbs < 2 ^ 3000 := lt3000s (by omega) (by omega)
    have vb : v.natAbs < 2 ^ 3000 := lt3000s (by omega) (by omega)
    have uu : (u * u).natAbs ≤ 1000000000000000000 := by
      have := small_mul (a := u) (b := u) (A := 1000000000) (B := 1000000000) (by omega) (by omega)
      exact this
    have vv : (v * v).natAbs ≤ 1000000000000000000 := by
      have := small_mul (a := v) (b := v) (A := 1000000000) (B := 1000000000) (by omega) (by omega)
      exact this
    refine ⟨_, rfl, u, rfl, _, rfl, v, rfl, _, _, rfl, rfl, CMulW.of (lt3000s (by omega) (by omega)) (lt3000s (by omega) (by omega)), _, rfl, _, rfl, v, rfl, vb, _, _, rfl, rfl, CMulW.of (lt3000s (by omega) (by omega)) (lt3000s (by omega) (by omega)), _, _, rfl, rfl, _, rfl, _, rfl, u, rfl, ub, _, _, rfl, rfl, CMulW.of (lt3000s (by omega) (by omega)) (lt3000s (by omega) (by omega)), _, _, rfl, rfl, ?_⟩
    have z := q s t u v (upd (upd H x1 (.tup [.int s, .int u])) x2 (.tup [.int t, .int v])) st1 st2 ((same_upd hx1).trans (same_upd hx2))
    unfold sgnAt at z
    rw [if_pos rfl] at z
    refine ⟨_, rfl, _, _, rfl, rfl, (by show (0 : Int) < 2; decide), _, _, rfl, rfl, _, rfl, ifd (fun h => ?_) (fun h => ?_)⟩
    · rw [if_pos h] at z
      exact ⟨_, rfl, z⟩
    · rw [if_neg h] at z
      exact z
theorem mul1 (a : Int) : 1 * a = a := Int.one_mul a
theorem ok_sign_at_odd (F : FnD K "sign_at_odd" "sign_at_odd" s_P_sign_at_odd f fd) (C_P_stripped : Cal P w K mg base 1 "stripped" ["number", "prime"] spStripped) (C_P_rest_sign : Cal P w K mg base 2 "rest_sign" ["number", "prime"] spRestSign) :
    FnOk P w K mg base CX0 3 f fd ["a", "b", "prime"] (spSgn false) := by
  refine F.ok sc_P_sign_at_odd (fun vs H Q E h => ?_) (fun cdv A outer s H vs Q E hr h => ?_)
  · obtain ⟨a, b, p, rfl, _⟩ := h.ex; rfl
  · obtain ⟨a, b, p, rfl, _, hp2, a0, b0, a1, b1, p2, p9, q⟩ := h.ex
    have pn : p ≠ 2 := hp2 rfl
    refine ⟨_, PSs.nox (pss_cons (ps_asg (pe_cal C_P_stripped (hr.mono (by decide)) (pa_cons (pv 0) (pa_cons (pv 2) pa_nil))) (pg_tup (by rfl) (pgs_cons (pg_name (i := 3) sc_P_sign_at_odd.nd rfl (Or.inl rfl)) (pgs_cons (pg_name (i := 4) sc_P_sign_at_odd.nd rfl (Or.inl rfl)) pgs_nil))))
      (pss_cons (ps_asg (pe_cal C_P_stripped (hr.mono (by decide)) (pa_cons (pv 1) (pa_cons (pv 2) pa_nil))) (pg_tup (by rfl) (pgs_cons (pg_name (i := 5) sc_P_sign_at_odd.nd rfl (Or.inl rfl)) (pgs_cons (pg_name (i := 6) sc_P_sign_at_odd.nd rfl (Or.inl rfl)) pgs_nil))))
      (pss_cons (ps_set (i := 7) sc_P_sign_at_odd.nd rfl (Or.inl rfl) pe_int)
      (Evl.pss_cut (ps_if (pt_cmp (pc_eqI (pe_op op_mod (pe_op op_mulW (pv 3) (pv 5)) pe_int) pe_int)) (pss_one (ps_set (i := 7) sc_P_sign_at_odd.nd rfl (Or.inl rfl) (pe_op op_mulW (pv 7) (pe_cal C_P_rest_sign (hr.mono (by decide)) (pa_cons (pe_un un_neg pe_int) (pa_cons (pv 2) pa_nil)))))) pss_nil)
      (Evl.pss_cut (ps_if (pt_cmp (pc_eqI (pe_op op_mod (pv 5) pe_int) pe_int)) (pss_one (ps_set (i := 7) sc_P_sign_at_odd.nd rfl (Or.inl rfl) (pe_op op_mulW (pv 7) (pe_cal C_P_rest_sign (hr.mono (by decide)) (pa_cons (pv 4) (pa_cons (pv 2) pa_nil)))))) pss_nil)
      (pss_cons (ps_if (pt_cmp (pc_eqI (pe_op op_mod (pv 3) pe_int) pe_int)) (pss_one (ps_set (i := 7) sc_P_sign_at_odd.nd rfl (Or.inl rfl) (pe_op op_mulW (pv 7) (pe_cal C_P_rest_sign (hr.mono (by decide)) (pa_cons (pv 6) (pa_cons (pv 2) pa_nil)))))) pss_nil)
      (pss_one (ps_ret (pv 7))))))))), ?_⟩
    have tb : p.natAbs < 2 ^ 3000 := lt3000s (by omega) (by omega)
    have tb1 : p.natAbs < 2 ^ 1000 := Nat.lt_trans (by omega : p.natAbs < 2000000000) (by decide +kernel)
    refine ⟨_, rfl, _, rfl, a, p, rfl, a0, p2, tb, fun s u x1 st1 hx1 => ⟨x1, _, rfl, .inl (.inl upd_same), rfl, _, _, rfl, _, _, rfl, rfl, ?_⟩⟩
    refine ⟨_, rfl, _, rfl, b, p, rfl, b0, p2, tb, fun t v x2 st2 hx2 => ⟨x2, _, rfl, .inl (.inl upd_same), rfl, _, _, rfl, _, _, rfl, rfl, ?_⟩⟩
    have l1 := strip_le p2 st1
    have l2 := strip_le p2 st2
    have k0 : Same H (upd (upd H x1 (.tup [.int s, .int u])) x2 (.tup [.int t, .int v])) := (same_upd hx1).trans (same_upd hx2)
    have est : ((s : Int) * (t : Int)) = ((s * t : Nat) : Int) := (Int.natCast_mul s t).symm
    have hst : ((s : Int) * (t : Int)) % 2 = 1 ↔ s * t % 2 = 1 := by rw [est]; omega
    have r1 := rest_small (-1) p
    have r2 := rest_small u p
    have r3 := rest_small v p
    have z := fun H' k => q s t u v H' st1 st2 k
    unfold sgnAt at z
    rw [if_neg pn] at z
    refine ⟨fun σ' H' => σ' = [some (.int a), some (.int b), some (.int p), some (.int s), some (.int u), some (.int t), some (.int v), some (.int (if s * t % 2 = 1 then restSign (-1) p else 1))] ∧ Same H H', ?_, ?_⟩
    · refine ⟨_, rfl, _, rfl, _, _, rfl, rfl, CMulW.of (lt3000s (by omega) (by omega)) (lt3000s (by omega) (by omega)), _, _, rfl, rfl, (by show (0 : Int) < 2; decide), _, _, rfl, rfl, _, rfl, ifd (fun h => ?_) (fun h => ?_)⟩
      · have h' := hst.mp h
        rw [if_pos h']
        exact ⟨_, rfl, 1, rfl, _, rfl, -1, p, rfl, p2, tb1, fun H' k => ⟨_, _, rfl, rfl, CMulW.of (lt3000s (by decide) (by decide)) (lt3000s (by omega) (by omega)), (by show [some (V.int a), some (.int b), some (.int p), some (.int s), some (.int u), some (.int t), some (.int v), some (.int (1 * restSign (-1) p))] = _; rw [mul1]), k0.trans k⟩⟩
      · have h' := fun z => h (hst.mpr z)
        rw [if_neg h']
        exact ⟨rfl, k0⟩
    rintro σ' H1 ⟨rfl, k1⟩
    have b1 : -1 ≤ (if s * t % 2 = 1 then restSign (-1) p else 1) ∧ (if s * t % 2 = 1 then restSign (-1) p else 1) ≤ 1 := by split <;> omega
    have b2 : -1 ≤ (if t % 2 = 1 then restSign u p else 1) ∧ (if t % 2 = 1 then restSign u p else 1) ≤ 1 := by split <;> omega
    generalize (if s * t % 2 = 1 then restSign (-1) p else 1) = x at z b1
    refine ⟨fun σ' H' => σ' = [some (.int a), some (.int b), some (.int p), some (.int s), some (.int u), some (.int t), some (.int v), some (.int (x * (if t % 2 = 1 then restSign u p else 1)))] ∧ Same H H', ?_, ?_⟩
    · refine ⟨_, rfl, _, _, rfl, rfl, (by show (0 : Int) < 2; decide), _, _, rfl, rfl, _, rfl, ifd (fun h => ?_) (fun h => ?_)⟩
      · have h' : t % 2 = 1 := by omega
        rw [if_pos h']
        exact ⟨_, rfl, _, rfl, _, rfl, u, p, rfl, p2, tb1, fun H' k => ⟨_, _, rfl, rfl, CMulW.of (lt3000s (by omega) (by omega)) (lt3000s (by omega) (by omega)), rfl, k1.trans k⟩⟩
      · have h' : ¬ t % 2 = 1 := by omega
        rw [if_neg h', Int.mul_one]
        exact ⟨rfl, k1⟩
    rintro σ' H2 ⟨rfl, k2⟩
    generalize (if t % 2 = 1 then restSign u p else 1) = y at z b2
    have b3 : (x * y).natAbs ≤ 1 := small_mul (A := 1) (B := 1) (by omega) (by omega)
    refine ⟨_, rfl, _, _, rfl, rfl, (by show (0 : Int) < 2; decide), _, _, rfl, rfl, _, rfl, ifd (fun h => ?_) (fun h => ?_)⟩
    · have h' : s % 2 = 1 := by omega
      rw [if_pos h'] at z
      exact ⟨_, rfl, _, rfl, _, rfl, v, p, rfl, p2, tb1, fun H' k => ⟨_, _, rfl, rfl, CMulW.of (lt3000s (by omega) (by omega)) (lt3000s (by omega) (by omega)), _, rfl, z _ (k2.trans k)⟩⟩
    · have h' : ¬ s % 2 = 1 := by omega
      rw [if_neg h', Int.mul_one] at z
      exact ⟨_, rfl, z _ k2⟩
structure SignP (vs : List V) (H : Hp) (Q : VK) : Prop where
  ex : ∃ a b p : Int, vs = [.int a, .int b, .int p] ∧ a ≠ 0 ∧ b ≠ 0 ∧ a.natAbs ≤ 1000000000 ∧ b.natAbs ≤ 1000000000 ∧ (p = 0 ∨ PrP p ∧ p ≤ 1000000000) ∧ ∀ (r : Int) (H' : Hp), HSign a b p r → Same H H' → Q (.int r) H'
def spSign : Sp := fun vs H Q _ => SignP vs H Q
theorem ok_sign (F : FnD K "sign" "sign" s_P_sign f fd) (C_P_sign_at_two : Cal P w K mg base 2 "sign_at_two" ["a", "b"] (spSgn true)) (C_P_sign_at_odd : Cal P w K mg base 3 "sign_at_odd" ["a", "b", "prime"] (spSgn false)) :
    FnOk P w K mg base CX0 4 f fd ["a", "b", "place"] spSign := by
  refine F.ok sc_P_sign (fun vs H Q E h => ?_) (fun cdv A outer s H vs Q E hr h => ?_)
  · obtain ⟨a, b, p, rfl, _⟩ := h.ex; rfl
  · obtain ⟨a, b, p, rfl, a0, b0, a1, b1, hp, q⟩ := h.ex
    refine ⟨_, PSs.nox (pss_cons (ps_if (pt_cmp (pc_eqI (pv 2) pe_int)) (pss_one (ps_ret (pe_ifExp (PW.pt (pw_and (pt_cmp (pc_lt (pv 0) pe_int)) (pw_and1 (pt_cmp (pc_lt (pv 1) pe_int))))) (pe_un un_neg pe_int) pe_int))) pss_nil)
      (pss_cons (ps_if (pt_cmp (pc_eqI (pv 2) pe_int)) (pss_one (ps_ret (pe_cal C_P_sign_at_two (hr.mono (by decide)) (pa_cons (pv 0) (pa_cons (pv 1) pa_nil))))) pss_nil)
      (pss_one (ps_ret (pe_cal C_P_sign_at_odd (hr.mono (by decide)) (pa_cons (pv 0) (pa_cons (pv 1) (pa_cons (pv 2) pa_nil)))))))), ?_⟩
    refine ⟨_, rfl, _, _, rfl, rfl, _, rfl, ifd (fun h => ?_) (fun h => ?_)⟩
    · have z := fun r e => q r H (.inl ⟨h, e⟩) (Same.refl H)
      refine ⟨_, rfl, _, _, rfl, rfl, _, rfl, ifd (fun h1 => ⟨_, rfl, _, _, rfl, rfl, _, rfl, ifd (fun h2 => ?_) (fun h2 => ?_)⟩) (fun h1 => ?_)⟩
      · exact ⟨_, rfl, z _ (by rw [if_pos ⟨h1, h2⟩])⟩
      · exact z _ (by rw [if_neg (fun c => h2 c.2)])
      · exact z _ (by rw [if_neg (fun c => h1 c.1)])
    · have hp := hp.resolve_left h
      have p2 := hp.1.1
      refine ⟨_, rfl, _, _, rfl, rfl, _, rfl, ifd (fun h2 => ?_) (fun h2 => ?_)⟩
      · have h2 : p = 2 := h2
        subst h2
        exact ⟨_, rfl, _, rfl, ⟨a, b, 2, rfl, fun _ => rfl, fun z => Bool.noConfusion z, a0, b0, a1, b1, by decide, by decide, fun s t u v H' h3 h4 k => q _ H' (.inr ⟨h, s, t, u, v, h3, h4, rfl⟩) k⟩⟩
      · exact ⟨_, rfl, _, rfl, _, rfl, ⟨a, b, p, rfl, fun z => Bool.noConfusion z, fun _ => h2, a0, b0, a1, b1, p2, hp.2, fun s t u v H' h3 h4 k => q _ H' (.inr ⟨h, s, t, u, v, h3, h4, rfl⟩) k⟩⟩
end
end Sf

namespace Sf
open PySem PySem.Spec PyProof.Rows L2
theorem strip_exists {n p : Int} (hn : n ≠ 0) (hp : 2 ≤ p) : ∃ (m : Nat) (u : Int), Strip n p m u := by
  generalize hN : n.natAbs = N
  induction N using Nat.strongRecOn generalizing n with
  | ind N ih =>
    by_cases h : n % p = 0
    · obtain ⟨l1, l2, l3⟩ := strip_less hn hp h
      obtain ⟨m, u, e, hu⟩ := ih _ (by omega) l2 rfl
      refine ⟨m + 1, u, ?_, hu⟩
      rw [Int.pow_succ, Int.mul_comm (p ^ m) p, Int.mul_assoc, ← e]
      exact l3
    · exact ⟨0, n, by rw [Int.pow_zero, Int.one_mul], h⟩
theorem odd_sq8 {w : Int} (h : w % 2 ≠ 0) : w * w % 8 = 1 := by
  have h1 : w % 8 = 1 ∨ w % 8 = 3 ∨ w % 8 = 5 ∨ w % 8 = 7 := by omega
  rw [Int.mul_emod]
  rcases h1 with e | e | e | e <;> rw [e] <;> decide
/-- the same unit, up to what the sign sees -/
def Alike (p u v : Int) : Prop := if p = 2 then u % 8 = v % 8 else restSign u p = restSign v p
theorem half_par {u v : Int} (h : u % 8 = v % 8) : ((u - 1) / 2) % 2 = ((v - 1) / 2) % 2 := by omega
theorem w_par {u v : Int} (h : u % 8 = v % 8) : ((u * u - 1) / 8) % 2 = ((v * v - 1) / 8) % 2 := by
  have e : u = v + 8 * ((u - v) / 8) := by omega
  generalize (u - v) / 8 = k at e
  have e2 : u * u = v * v + 16 * (v * k + 4 * (k * k)) := by rw [e]; grind
  omega
theorem par_mul (a b c d : Int) (h1 : a % 2 = c % 2) (h2 : b % 2 = d % 2) : (a * b) % 2 = (c * d) % 2 := by
  rw [Int.mul_emod, h1, h2, ← Int.mul_emod]
theorem sgn_congr {p : Int} {s t s' t' : Nat} {u v u' v' : Int} (hs : s % 2 = s' % 2) (ht : t % 2 = t' % 2) (hu : Alike p u u') (hv : Alike p v v') : sgnAt p s t u v = sgnAt p s' t' u' v' := by
  unfold sgnAt
  unfold Alike at hu hv
  by_cases h : p = 2
  · rw [if_pos h] at hu hv ⊢
    rw [if_pos h]
    have h1 := par_mul _ _ _ _ (half_par hu) (half_par hv)
    have h2 := par_mul (s : Int) ((v * v - 1) / 8) (s' : Int) ((v' * v' - 1) / 8) (by omega) (w_par hv)
    have h3 := par_mul (t : Int) ((u * u - 1) / 8) (t' : Int) ((u' * u' - 1) / 8) (by omega) (w_par hu)
    have e : ((u - 1) / 2 * ((v - 1) / 2) + s * ((v * v - 1) / 8) + t * ((u * u - 1) / 8)) % 2 = ((u' - 1) / 2 * ((v' - 1) / 2) + s' * ((v' * v' - 1) / 8) + t' * ((u' * u' - 1) / 8)) % 2 := by omega
    rw [e]
  · rw [if_neg h] at hu hv ⊢
    rw [if_neg h, hu, hv, hs, ht, Nat.mul_mod s t, hs, ht, ← Nat.mul_mod]
theorem rest_unit {w p : Int} (h : w % p ≠ 0) : restSign w p * restSign w p = 1 := by
  unfold restSign
  rw [if_neg h]
  split
  · split <;> decide
  · split <;> decide
theorem alike_sq {p u w : Int} (hp : PrP p) (he : p = 2 ∨ ∃ q : Nat, p = q ∧ 3 ≤ q ∧ euler q = true) (hw : w % p ≠ 0) : Alike p (u * (w * w)) u := by
  unfold Alike
  by_cases h : p = 2
  · rw [if_pos h, Int.mul_emod, odd_sq8 (by rw [← h]; exact hw), Int.mul_one, Int.emod_emod_of_dvd _ (Int.dvd_refl _)]
  · rw [if_neg h]
    obtain ⟨q, rfl, h3, e⟩ := he.resolve_left h
    rw [sign_mul h3 e hp, sign_mul h3 e hp, rest_unit hw, Int.mul_one]
theorem strip_sq {p n m k u u' : Int} {s s' : Nat} (hp : PrP p) (hk : k ≠ 0) (e : n = m * (k * k)) (h : Strip n p s u) (h' : Strip m p s' u') : ∃ w : Int, w % p ≠ 0 ∧ u = u' * (w * w) ∧ s % 2 = s' % 2 := by
  obtain ⟨c, w, hw⟩ := strip_exists hk hp.1
  refine ⟨w, hw.2, ?_⟩
  have hs : Strip n p (s' + 2 * c) (u' * (w * w)) := by
    constructor
    · rw [e, h'.1, hw.1, Int.pow_add, Nat.two_mul, Int.pow_add]
      grind
    · intro z
      have d := Int.dvd_of_emod_eq_zero z
      rcases prime_mul hp d with d | d
      · exact h'.2 (Int.emod_eq_zero_of_dvd d)
      · rcases prime_mul hp d with d | d <;> exact hw.2 (Int.emod_eq_zero_of_dvd d)
  obtain ⟨e1, e2⟩ := strip_unique hp h hs
  exact ⟨e2, by omega⟩
theorem hsign_bare {a b a' b' p r : Int} (hp : PrP p) (he : p = 2 ∨ ∃ q : Nat, p = q ∧ 3 ≤ q ∧ euler q = true) (ha : ∃ k, k ≠ 0 ∧ a = a' * (k * k)) (hb : ∃ k, k ≠ 0 ∧ b = b' * (k * k)) (a0 : a' ≠ 0) (b0 : b' ≠ 0) (h : HSign a b p r) : HSign a' b' p r := by
  have p2 := hp.1
  rcases h with ⟨h0, _⟩ | ⟨h0, s, t, u, v, h1, h2, h3⟩
  · omega
  · obtain ⟨s', u', g1⟩ := strip_exists a0 p2
    obtain ⟨t', v', g2⟩ := strip_exists b0 p2
    obtain ⟨k, k0, e⟩ := ha
    obtain ⟨j, j0, f⟩ := hb
    obtain ⟨w, w0, w1, w2⟩ := strip_sq hp k0 e h1 g1
    obtain ⟨x, x0, x1, x2⟩ := strip_sq hp j0 f h2 g2
    refine .inr ⟨h0, s', t', u', v', g1, g2, ?_⟩
    rw [h3]
    exact sgn_congr w2 x2 (by rw [w1]; exact alike_sq hp he w0) (by rw [x1]; exact alike_sq hp he x0)
theorem rest_mod {n p : Int} (h : p ≠ 2) : restSign (n % p) p = restSign n p := by
  unfold restSign
  rw [Int.emod_emod_of_dvd _ (Int.dvd_refl p), if_neg h, if_neg h, pow_mod]
end Sf

namespace Sf
open PySem PySem.Spec PyProof.Rows L2
/-- the ascending places where the sign is -1 -/
def PlacesOf (a b : Int) (l : List Int) : Prop := l.Pairwise (· < ·) ∧ ∀ p : Int, p ∈ l ↔ (p = 0 ∨ PrP p) ∧ HSign a b p (-1)
theorem asc_unique : ∀ {l m : List Int}, l.Pairwise (· < ·) → m.Pairwise (· < ·) → (∀ x, x ∈ l ↔ x ∈ m) → l = m
  | [], [], _, _, _ => rfl
  | [], y :: m, _, _, h => absurd ((h y).mpr List.mem_cons_self) (by simp)
  | x :: l, [], _, _, h => absurd ((h x).mp List.mem_cons_self) (by simp)
  | x :: l, y :: m, h1, h2, h => by
    obtain ⟨a1, a2⟩ := List.pairwise_cons.mp h1
    obtain ⟨b1, b2⟩ := List.pairwise_cons.mp h2
    have e : x = y := by
      have c1 := (h x).mp List.mem_cons_self
      have c2 := (h y).mpr List.mem_cons_self
      rcases List.mem_cons.mp c1 with c1 | c1
      · exact c1
      · rcases List.mem_cons.mp c2 with c2 | c2
        · exact c2.symm
        · have := a1 y c2
          have := b1 x c1
          omega
    subst e
    rw [asc_unique a2 b2 fun z => ?_]
    constructor
    · intro hz
      rcases List.mem_cons.mp ((h z).mp (List.mem_cons_of_mem _ hz)) with e | e
      · have := a1 z hz
        omega
      · exact e
    · intro hz
      rcases List.mem_cons.mp ((h z).mpr (List.mem_cons_of_mem _ hz)) with e | e
      · have := b1 z hz
        omega
      · exact e
theorem places_unique {a b : Int} {l m : List Int} (h : PlacesOf a b l) (h' : PlacesOf a b m) : l = m := asc_unique h.1 h'.1 fun x => (h.2 x).trans (h'.2 x).symm
/-- at an odd prime that divides neither number the sign is 1 -/
theorem sign_far {a b p r : Int} (hp : PrP p) (h2 : p ≠ 2) (ha : a % p ≠ 0) (hb : b % p ≠ 0) (h : HSign a b p r) : r = 1 := by
  rcases h with ⟨h0, _⟩ | ⟨_, s, t, u, v, g1, g2, g3⟩
  · have := hp.1
    omega
  · have e1 := strip_unique hp g1 ⟨by rw [Int.pow_zero, Int.one_mul], ha⟩
    have e2 := strip_unique hp g2 ⟨by rw [Int.pow_zero, Int.one_mul], hb⟩
    rw [g3, e1.1, e2.1]
    unfold sgnAt
    rw [if_neg h2]
    rfl
theorem hsign_some {a b p : Int} (ha : a ≠ 0) (hb : b ≠ 0) (hp : p = 0 ∨ PrP p) : ∃ r, HSign a b p r := by
  rcases hp with e | hp
  · exact ⟨_, .inl ⟨e, rfl⟩⟩
  · obtain ⟨s, u, h1⟩ := strip_exists ha hp.1
    obtain ⟨t, v, h2⟩ := strip_exists hb hp.1
    have := hp.1
    exact ⟨_, .inr ⟨by omega, s, t, u, v, h1, h2, rfl⟩⟩
theorem abs_mod {n p : Int} (h : absI n % p = 0) : n % p = 0 := by
  unfold absI at h
  split at h
  · have d := Int.dvd_of_emod_eq_zero h
    exact Int.emod_eq_zero_of_dvd ((Int.dvd_neg).mp d)
  · exact h
theorem mod_abs {n p : Int} (h : n % p = 0) : absI n % p = 0 := by
  unfold absI
  split
  · exact Int.emod_eq_zero_of_dvd ((Int.dvd_neg).mpr (Int.dvd_of_emod_eq_zero h))
  · exact h
/-- a prime divides a number exactly if it is one of its factors -/
theorem fact_keys {n p : Int} {l : List (Int × Nat)} (h : FactOf n l) (hp : PrP p) : p ∈ l.map (·.1) ↔ n % p = 0 := by
  constructor
  · intro hm
    obtain ⟨q, hq, e⟩ := List.mem_map.mp hm
    subst e
    obtain ⟨i, hi, e⟩ := List.mem_iff_getElem.mp hq
    obtain ⟨k, hk⟩ : ∃ k, q.2 = k + 1 := ⟨q.2 - 1, by have := (h.2.2 q hq).2; omega⟩
    have : ∀ (l : List (Int × Nat)), q ∈ l → q.1 ∣ prodF l := fun l hl => by
      induction l with
      | nil => cases hl
      | cons x l ih =>
        show q.1 ∣ x.1 ^ x.2 * prodF l
        rcases List.mem_cons.mp hl with e | e
        · subst e
          rw [hk, Int.pow_succ, Int.mul_assoc]
          exact Int.dvd_trans (Int.dvd_mul_right _ _) (Int.dvd_mul_left _ _)
        · exact Int.dvd_trans (ih e) (Int.dvd_mul_left _ _)
    have d := this l hq
    rw [h.1] at d
    exact Int.emod_eq_zero_of_dvd d
  · intro hm
    have d := Int.dvd_of_emod_eq_zero hm
    rw [← h.1] at d
    obtain ⟨e, he⟩ := prime_prodF hp h.2.2 d
    exact List.mem_map.mpr ⟨_, he, rfl⟩
/-- the places out of 0 and the divisors -/
theorem places_of {a b : Int} {la lb : List (Int × Nat)} {D : List Int} (ha : a ≠ 0) (hb : b ≠ 0) (fa : FactOf (absI a) la) (fb : FactOf (absI b) lb) (hD : D.Pairwise (· < ·)) (hm : ∀ k, k ∈ D ↔ k ∈ 2 :: (la.map (·.1) ++ lb.map (·.1)))
    : (∀ k ∈ 0 :: D, k = 0 ∨ PrP k) ∧ ∀ {l : List Int} (hl : l.Sublist (0 :: D)) (hs : ∀ k, k ∈ l ↔ k ∈ 0 :: D ∧ HSign a b k (-1)), PlacesOf a b l := by
  have hP : ∀ k ∈ 0 :: D, k = 0 ∨ PrP k := fun k hk => by
    rcases List.mem_cons.mp hk with e | e
    · exact .inl e
    · rcases List.mem_cons.mp ((hm k).mp e) with e | e
      · exact .inr (e ▸ prp_of_trial (d := 2) (by decide) (by decide) (fun k a b => by omega) (by decide))
      · rcases List.mem_append.mp e with e | e
        · obtain ⟨q, hq, e⟩ := List.mem_map.mp e
          exact .inr (e ▸ (fa.2.2 q hq).1)
        · obtain ⟨q, hq, e⟩ := List.mem_map.mp e
          exact .inr (e ▸ (fb.2.2 q hq).1)
  refine ⟨hP, fun {l} hl hs => ⟨?_, fun p => ?_⟩⟩
  · refine List.Pairwise.sublist hl (List.pairwise_cons.mpr ⟨fun k hk => ?_, hD⟩)
    rcases List.mem_cons.mp ((hm k).mp hk) with e | e
    · omega
    · rcases hP k (List.mem_cons_of_mem _ hk) with e2 | e2
      · rcases List.mem_append.mp e with e | e
        · obtain ⟨q, hq, e⟩ := List.mem_map.mp e
          have := (fa.2.2 q hq).1.1
          omega
        · obtain ⟨q, hq, e⟩ := List.mem_map.mp e
          have := (fb.2.2 q hq).1.1
          omega
      · have := e2.1
        omega
  · rw [hs]
    constructor
    · rintro ⟨h1, h2⟩
      exact ⟨hP p h1, h2⟩
    · rintro ⟨h1, h2⟩
      refine ⟨?_, h2⟩
      rcases h1 with e | hp
      · rw [e]
        exact List.mem_cons_self
      · by_cases c : p ∈ D
        · exact List.mem_cons_of_mem _ c
        · exfalso
          rw [hm, List.mem_cons, List.mem_append, fact_keys fa hp, fact_keys fb hp] at c
          have n2 : p ≠ 2 := fun z => c (.inl z)
          have := sign_far hp n2 (fun z => c (.inr (.inl (mod_abs z)))) (fun z => c (.inr (.inr (mod_abs z)))) h2
          exact absurd this (by decide)
end Sf

namespace Sf
open PySem PySem.Spec PyProof.Rows L2
section
variable {P : Program} {w : World} {A : Around} {E : Value → Shared → Prop} {s : Shared}
/-- a set that is just made -/
abbrev nso (w : World) : Obj := { cls := .type "set", dict := none, data := .set #[] 0 (.fresh 0 0 (!w.params.followText "set-order")) }
abbrev nsh (w : World) (s : Shared) : Heap := s.heap.push (nso w)
/-- the first half: the set's loop over a list of ints -/
theorem set_loop {l : Addr} {its : Array Value} (ns : List Int) (hh : A.handled = none) (hl : s.heap.IsList l its) (hi : IntsAre its.toList ns) (hb : ns.length + 1 < scanBound)
    {R : Result → Shared → Prop} (hR : ∀ (h' : Heap) (tk c : Nat), SetR w h' s.heap.objs.size (fun j => decide (j ∈ ns)) c → c ≤ ns.length → (∀ b o, s.heap.get? b = some o → h'.get? b = some o) → R (.ok (.ret .none)) { s with heap := h', toks := tk }) :
    codeAny (model P w) A (.builtin "set.update.loop" ⟨[.ref s.heap.objs.size, .ref (nsh w s).objs.size], []⟩) R { s with heap := (nsh w s).push { cls := .type "list_iterator", data := .fields #[.ref l, .int 0 0] } } := by
  have sz : its.size = ns.length := (Array.length_toList (xs := its)).symm.trans (IntsAre.length hi)
  obtain ⟨ol, ho, r⟩ := hl
  have lt : l < s.heap.objs.size := Heap.lt_size ho
  have e1 : (nsh w s).objs.size = s.heap.objs.size + 1 := Heap.size_push ..
  have n1 : l ≠ (nsh w s).objs.size := by rw [e1]; exact Nat.ne_of_lt (Nat.lt_succ_of_lt lt)
  have n2 : ¬ s.heap.objs.size ∈ [(nsh w s).objs.size, l] := by
    rw [e1]
    intro z
    rcases List.mem_cons.mp z with z | z
    · exact absurd z (Nat.ne_of_lt (Nat.lt_succ_self _))
    · exact absurd (List.mem_singleton.mp z) (Nat.ne_of_gt lt)
  have isl : (nsh w s).IsList l its := ⟨ol, Heap.get?_push_of_some _ ho, r⟩
  have hA : A.in1.handled = none := by simp [hh]
  refine set_update_ints ((Walks.list hA _ l n1 its).toS) s.heap.objs.size n2 ns sz hb (fun i v hv => ?_) (its.size - 0) 0 _ rfl (Nat.zero_le _) ⟨⟨_, Heap.get?_push_size _ rfl, rfl, rfl⟩, isl.push _⟩ ?_ fun t c hm hc hS => ?_
  · have hlt : i < ns.length := sz ▸ (Array.getElem?_eq_some_iff.mp hv).1
    obtain ⟨t, e⟩ := IntsAre.int_at hi i v (by rw [Array.getElem?_toList]; exact hv)
    exact ⟨ns[i], t, List.getElem?_eq_getElem hlt, by rw [e, List.getD_eq_getElem?_getD, List.getElem?_eq_getElem hlt] <;> rfl⟩
  · refine ⟨0, Nat.le_refl 0, setR_new_at ?_⟩
    exact Heap.get?_push_of_some _ (Heap.get?_push_size _ rfl)
  · obtain ⟨h', g', d', t', o'⟩ := t
    cases (show g' = s.gens from hm.gens)
    cases (show d' = s.drawn from hm.drawn)
    cases (show o' = s.os from hm.os)
    refine hR h' t' c hS (sz ▸ hc) fun b o e => ?_
    have hb0 : b < s.heap.objs.size := Heap.lt_size e
    refine hm.heap b o (fun z => ?_) (Heap.get?_push_of_some _ (Heap.get?_push_of_some _ e))
    rcases List.mem_cons.mp z with z | z
    · exact absurd z (Nat.ne_of_lt hb0)
    · exact absurd ((List.mem_singleton.mp z).trans e1) (Nat.ne_of_lt (Nat.lt_succ_of_lt hb0))
set_option maxHeartbeats 8000000 in
theorem set_init {l : Addr} {its : Array Value} (ns : List Int) (hh : A.handled = none) (hl : s.heap.IsList l its) (hi : IntsAre its.toList ns) (hb : ns.length + 1 < scanBound) :
    codeAny (model P w) A (.call (.builtin "set.__init__") ⟨[.ref s.heap.objs.size, .ref l], []⟩) (wants (fun r t => r = .none ∧ ∃ h' tk c, t = { s with heap := h', toks := tk } ∧ SetR w h' s.heap.objs.size (fun j => decide (j ∈ ns)) c ∧ c ≤ ns.length ∧
      (∀ b o, s.heap.get? b = some o → h'.get? b = some o)) E) { s with heap := nsh w s } := by
  have hS : (nsh w s).get? s.heap.objs.size = some (nso w) := Heap.get?_push_size _ rfl
  have hT : Shared.TypeIs { s with heap := nsh w s } (.ref s.heap.objs.size) "set" := ⟨_, hS, rfl⟩
  refine codeAny_call_builtin F.called_set.init.plain F.entry_set_init (check_set_init_1 hT ?_)
  obtain ⟨⟨oc, odct, odat, osl⟩, ho, hc, n0, hd⟩ := hl
  cases hc
  cases hd
  have ho' : (nsh w s).get? l = some { cls := .type "list", dict := odct, data := .seq its n0, slots := osl } := Heap.get?_push_of_some _ ho
  have isl : (nsh w s).IsList l its := ⟨_, ho', rfl, n0, rfl⟩
  have g1 := F.sub_list_set
  have g2 := F.sub_list_frozenset
  have g3 : (Value.type "list" == Value.type "dict") = false := by decide
  unfold Builtin.«set.__init__» noKeywords Builtin.Frozenset.updateFrom
  generalize hPI : pyIter = it
  wp_walk
  subst hPI
  refine wpAny_pyIter_list isl ?_
  refine wpAny_bind (wpAny_runValue (set_loop (A := A.in1) ns (by simp [hh]) ⟨_, ho, rfl, n0, rfl⟩ hi hb fun h' tk c a b k => ?_))
  exact wpAny_pure (wpAny_pure ⟨rfl, h', tk, c, rfl, a, b, k⟩)
end
end Sf
namespace Sf
open PySem PySem.Spec PyProof.Rows L2
section
variable {P : Program} {w : World} {A : Around} {E : Value → Shared → Prop} {s : Shared}
set_option maxHeartbeats 8000000 in
theorem set_call {l : Addr} {its : Array Value} (ns : List Int) {Q : Value → Shared → Prop} (hh : A.handled = none) (hl : s.heap.IsList l its) (hi : IntsAre its.toList ns) (hb : ns.length + 1 < scanBound)
    (h : ∀ (h' : Heap) (tk c : Nat), SetR w h' s.heap.objs.size (fun j => decide (j ∈ ns)) c → c ≤ ns.length → (∀ b o, s.heap.get? b = some o → h'.get? b = some o) → Q (.ref s.heap.objs.size) { s with heap := h', toks := tk }) :
    wpAny (model P w) A (call (.type "set") [.ref l]) Q E s := by
  obtain ⟨c, tl, g0⟩ := F.called_set.mro
  have g1 := F.called_set.made
  have g2 := F.called_set.sub
  have g3 := F.called_set.notType
  have g4 := F.called_set.canCreate
  have g5 := F.typeCall_set_1 (.ref l)
  have g6 := F.called_set.init.lookup
  refine wpAny_call (codeAny_of_tree ?_)
  show wpAny _ _ (callAny (.type "set") _) _ _ _
  refine wpAny_pure ⟨Code.quiet_builtin _ (by decide +kernel), codeAny_builtin F.entry_type_call ?_⟩
  rw [Around.under_plain (weight_type_call_type "set" [.ref l] []) rfl]
  repeat (any_goals (first | assumption | wp_step))
  refine codeAny_mono (code_set_led1 (.ref l) (E := E) (Q₁ := fun ob t => ob = .ref s.heap.objs.size ∧ t = { s with heap := nsh w s }) ⟨rfl, rfl⟩) fun r t hr => ?_
  cases r with
  | error e => exact hr
  | ok fl =>
    cases fl with
    | ret ob =>
      obtain ⟨rfl, rfl⟩ := hr
      have hT : Shared.TypeIs { s with heap := nsh w s } (.ref s.heap.objs.size) "set" := ⟨_, Heap.get?_push_size _ rfl, rfl⟩
      have g7 := F.called_set.init.bind (.ref s.heap.objs.size)
      repeat (any_goals (first | assumption | wp_step))
      refine codeAny_mono (set_init (E := E) ns (by simp [hh]) hl hi hb) fun r t hr => ?_
      cases r with
      | error e => exact hr
      | ok fl =>
        cases fl with
        | ret v =>
          obtain ⟨rfl, h', tk, c', rfl, a1, a2, a3⟩ := hr
          repeat (any_goals (first | assumption | wp_step))
          exact h _ _ _ a1 a2 a3
        | _ => exact hr.elim
    | _ => exact hr.elim
end
section
variable {X : Cx} {e : Expr} {es : List Expr} {te : TE} {t : TA} {p : Pos}
/-- set(xs), xs a list of ints -/
def rSetL (K : PySem.W.Frag) (w : World) : List V → Hp → VK → Prop := fun xs H Q => ∃ (a : Addr) (ns : List Int), xs = [.ref a] ∧ SqL K H a (ns.map V.int) ∧ ns.length ≤ 1000 ∧ ∀ (q : Addr) (n : Nat), n ≤ ns.length → H q = none → Q (.ref q) (upd H q (SetO w q (fun j => decide (j ∈ ns)) n))
theorem cr_setL (hc : X.calm = true) : CallR X (.type "set") (rSetL X.K X.w) := by
  intro pins s σ H xs us Q I r h
  obtain ⟨a, ns, rfl, hs, hz, q⟩ := h
  obtain ⟨its, rv, pl, _⟩ := I.list hs
  rw [Vals.ref1 r]
  refine set_call ns (I.ok.hd hc) pl.isList (by simpa using rv.ints) (by unfold scanBound; omega) fun h' tk c R hcn k => ?_
  exact ⟨.ref _, upd H s.heap.objs.size (SetO X.w s.heap.objs.size (fun j => decide (j ∈ ns)) c), I.laid (t' := tk) k (Nat.le_refl _) (setO_new R), rfl, q _ c hcn (I.hok.fresh (Nat.le_refl _))⟩
/-- *d in a display, d a dict -/
theorem star_dict {pins : List (Addr × Obj)} {σ : L2.St} {H : Hp} {s : Shared} {a : Addr} {kvs : List (Key × V)} {E : Value → Shared → Prop} {Q : List Value → Shared → Prop} (hc : X.calm = true) (I : Inv X pins σ H s) (h : Rd H a (.dK kvs))
    (hQ : ∀ us s', Inv X pins σ H s' → Vals (kvs.map fun kv => kV kv.1) us → Q us s') : PySem.W.StarOf (model X.prog X.w) X.A E (.ref a) Q s := by
  obtain ⟨z, lo, vs, rel, dd⟩ := dk_rd I.hok h
  obtain ⟨ep, hat⟩ := dd.dictAt
  have ek : (kvs.map fun kv => kV kv.1) = vs.map fun p => kV p.1 := by
    have e := congrArg (List.map kV) rel.keys
    rw [List.map_map, List.map_map] at e
    exact e
  have z : wpAny (model X.prog X.w) X.A (collect (.ref a)) Q E s := by
    refine PySem.W.kdu_collect (A := X.A) (PySem.W.kdl_dict (knd := mixKind X.prog X.w) (kvs := vs) (ep := ep) lo) (I.ok.hd hc) hat (by rw [← rel.length]; exact z) fun h' tk acc hk hacc => ?_
    refine hQ _ _ (I.kept (t' := tk) hk) ?_
    rw [ek]
    exact keys_at (by rw [Array.length_toList]; exact hacc.1) fun j v e => hacc.2 j v (by rw [← Array.getElem?_toList]; exact e)
  unfold PySem.W.StarOf notIterableAtAll
  exact wpAny_bind (wpAny_specialOf dd.typeIs PySem.F.slot_dict_iter.lookup (wpAny_pure ⟨rfl, z⟩))
def tStarD (te : TE) (t : TA) : TA := fun σ H Q => te σ H fun x H1 => ∃ p kvs, x = V.ref p ∧ Rd H1 p (.dK kvs) ∧ t σ H1 fun ys H2 => Q ((kvs.map fun kv => kV kv.1) ++ ys) H2
theorem pa_starD (hc : X.calm = true) (he : PE X e te) (hr : PA X es t) (hs : starEach (.Starred e p :: es) X.env = (true, eval e X.env) :: starEach es X.env := by rfl) : PA X (.Starred e p :: es) (tStarD te t) :=
  ⟨fun pos pins s σ H Q I h => PySem.W.items_star (thn (he.run pins s σ H _ I h) fun v s1 ⟨y, H1, I1, ry, a, kvs, ey, hx, q⟩ => by
    subst ey
    cases (show v = Value.ref a from ry)
    exact star_dict hc I1 hx fun us s2 I2 rv => thn (hr.run pos pins s2 σ H1 _ I2 q) fun ws s3 ⟨vs, H3, I3, r3, q3⟩ => ⟨_, H3, I3, rv.append r3, q3⟩) hs⟩
end
end Sf

namespace Sf
open PySem PySem.Spec PyProof.Rows L2
section
variable {P : Program} {w : World} {K : PySem.W.Frag} {mg : Str → Option Value} {base : Heap} {f : Addr} {fd : FuncData}
theorem keys_ints (l : List (Int × Nat)) : ((kvsF l).map fun kv => kV kv.1) = (l.map (·.1)).map V.int := by
  unfold kvsF
  rw [List.map_map, List.map_map]
  rfl
structure PlacesP (vs : List V) (H : Hp) (Q : VK) : Prop where
  ex : ∃ a b : Int, vs = [.int a, .int b] ∧ a ≠ 0 ∧ b ≠ 0 ∧ a.natAbs ≤ 1000000000 ∧ b.natAbs ≤ 1000000000 ∧ ∀ (l : List Int) (p : Addr) (H' : Hp), PlacesOf a b l → l.length ≤ 62 → Same H H' → H p = none → H' p = some (.tup (l.map V.int)) → Q (.ref p) H'
def spPlaces : Sp := fun vs H Q _ => PlacesP vs H Q
theorem ok_signed_places (F : FnD K "signed_places" "signed_places" s_P_signed_places f fd) (T : Glob mg) (C_P_check_number : Cal P w K mg base 2 "check_number" ["value"] spCheckNumber) (C_P_factors : Cal P w K mg base 3 "factors" ["number"] spFactors) (C_P_sign : Cal P w K mg base 4 "sign" ["a", "b", "place"] spSign) :
    FnOk P w K mg base CX0 5 f fd ["a", "b"] spPlaces := by
  refine F.ok sc_P_signed_places (fun vs H Q E h => ?_) (fun cdv A outer s H vs Q E hr h => ?_)
  · obtain ⟨a, b, rfl, _⟩ := h.ex; rfl
  · obtain ⟨a, b, rfl, a0, b0, a1, b1, q⟩ := h.ex
    have hu := hu_of hr
    refine ⟨_, PSs.nox (pss_cons (ps_expr (pe_cal C_P_check_number (hr.mono (by decide)) (pa_cons (pv 0) pa_nil)))
      (pss_cons (ps_expr (pe_cal C_P_check_number (hr.mono (by decide)) (pa_cons (pv 1) pa_nil)))
      (pss_cons (ps_set (i := 2) sc_P_signed_places.nd rfl (Or.inl rfl) (pe_callB (cr_sortedSet rfl) (by rfl) T.m_sorted (by decide +kernel) (pa_cons (pe_callTy (cr_setL rfl) (by rfl) T.m_set (by decide +kernel) (pa_cons (pe_lst (pa_cons pe_int (pa_starD rfl (pe_cal C_P_factors (hr.mono (by decide)) (pa_cons (pv 0) pa_nil)) (pa_starD rfl (pe_cal C_P_factors (hr.mono (by decide)) (pa_cons (pv 1) pa_nil)) pa_nil)))) pa_nil)) pa_nil)))
      (pss_one (ps_ret (pe_callTy call_tuple_of (by rfl) T.m_tuple (by decide +kernel) (pa_cons (pe_lc rfl sc_P_signed_places.nd (own := [("place", 3)]) (pi_list (pe_lst (pa_cons pe_int (StX.pa_star (pv 2) pa_nil)))) (blkOk_by (N := ["a", "b", "divisors", "place"]) (sc := defScope s_P_signed_places) (by decide +kernel)) (fun _ _ _ _ _ => pg_name (i := 3) sc_P_signed_places.nd rfl (Or.inl rfl)) (fun _ _ _ _ _ => pts_one (pt_cmp (pc_eqI (pe_cal C_P_sign (hr.mono (by decide)) (pa_cons (pv 0) (pa_cons (pv 1) (pa_cons (pv 3) pa_nil)))) (pe_un un_neg pe_int)))) (fun _ _ _ _ _ => (pv 3))) pa_nil))))))), ?_⟩
    refine ⟨_, rfl, a, rfl, a0, by omega, by omega, _, rfl, b, rfl, b0, by omega, by omega, ?_⟩
    refine ⟨_, rfl, a, rfl, a0, by omega, by omega, fun la da H1 fa e1 na hda => ⟨da, kvsF la, rfl, .inl hda, ?_⟩⟩
    refine ⟨_, rfl, b, rfl, b0, by omega, by omega, fun lb db H2 fb e2 nb hdb => ⟨db, kvsF lb, rfl, .inl hdb, ?_⟩⟩
    have A2 : absI a ≤ 1000000000 := by unfold absI; split <;> omega
    have B2 : absI b ≤ 1000000000 := by unfold absI; split <;> omega
    have hla := fact_len fa A2
    have hlb := fact_len fb B2
    generalize hns : (2 : Int) :: (la.map (·.1) ++ lb.map (·.1)) = ns
    have hlen : ns.length ≤ 61 := by
      rw [← hns, List.length_cons, List.length_append, List.length_map, List.length_map]
      omega
    have hitems : V.int 2 :: ((kvsF la).map (fun kv => kV kv.1) ++ ((kvsF lb).map (fun kv => kV kv.1) ++ [])) = ns.map V.int := by
      rw [← hns, keys_ints, keys_ints, List.append_nil, List.map_cons, List.map_append]
    refine ⟨?_, fun x hx => ?_⟩
    · show (V.int 2 :: ((kvsF la).map (fun kv => kV kv.1) ++ ((kvsF lb).map (fun kv => kV kv.1) ++ []))).length ≤ sizeLine
      rw [hitems, List.length_map]
      exact Nat.le_trans hlen (by decide)
    refine ⟨x, ns, rfl, SqL.of ?_, by omega, fun y n hn hy => ?_⟩
    · rw [upd_same, ← hitems]
    refine ⟨y, _, n, rfl, upd_same, by omega, fun D z hD hm hDl hz => ?_⟩
    have hP0 := places_of (D := D) a0 b0 fa fb hD (fun k => (hm k).trans (by rw [← hns]; exact decide_eq_true_iff))
    have eH : Same H (upd (upd (upd H2 x (.lst (V.int 2 :: ((kvsF la).map (fun kv => kV kv.1) ++ ((kvsF lb).map (fun kv => kV kv.1) ++ []))))) y (SetO w y (fun j => decide (j ∈ ns)) n)) z (.lst (D.map V.int))) :=
      (((e1.trans e2).trans (same_upd hx)).trans (same_upd hy)).trans (same_upd hz)
    refine ⟨_, rfl, z, _, rfl, .inr (SqL.of upd_same), ?_, fun c hc => ?_⟩
    · refine Nat.le_trans (?_ : _ ≤ 70) (by decide)
      show (V.int 0 :: (D.map V.int ++ [])).length ≤ 70
      rw [List.append_nil, List.length_cons, List.length_map]
      omega
    have eL : V.int 0 :: (D.map V.int ++ []) = (0 :: D).map V.int := by rw [List.append_nil]; rfl
    rw [eL]
    have eH2 := eH.trans (same_upd (o := .lst ((0 :: D).map V.int)) hc)
    refine ⟨c, rfl, ⟨_, SqL.of upd_same⟩, fun d hd => ?_⟩
    have hdH : H d = none := eH2.free hd
    have ncd : c ≠ d := fun z => by
      rw [← z, upd_same] at hd
      cases hd
    refine lc_list (K := K) (a := c) (xs := (0 :: D).map V.int) (fun i H' => Same H H' ∧ SqL K H' c ((0 :: D).map V.int) ∧ ∃ m : List Int, H' d = some (.lst (m.map V.int)) ∧ m.Sublist ((0 :: D).take i) ∧ ∀ k, k ∈ m ↔ k ∈ (0 :: D).take i ∧ HSign a b k (-1)) ⟨eH2.trans (same_upd hd), sq_upd (SqL.of upd_same) ncd, [], upd_same, List.Sublist.refl _, fun k => ⟨fun z => (by cases z), fun z => absurd z.1 (by simp)⟩⟩ (fun i H' _ hp => hp.2.1) (fun i v H' hv hp => ?_) (fun H' hp => ?_)
    · obtain ⟨e5, hL, m, hmd, msub, hmm⟩ := hp
      obtain ⟨k, hk, rfl⟩ : ∃ k, (0 :: D)[i]? = some k ∧ v = V.int k := by
        rw [List.getElem?_map] at hv
        cases e : (0 :: D)[i]? with
        | none => rw [e] at hv; cases hv
        | some z => rw [e] at hv; exact ⟨z, rfl, (Option.some.inj hv).symm⟩
      have kP := hP0.1 k (List.mem_of_getElem? hk)
      have kB : k ≤ 1000000000 := by
        rcases List.mem_cons.mp (List.mem_of_getElem? hk) with e | e
        · omega
        · have e := (hm k).mp e
          rw [decide_eq_true_iff, ← hns] at e
          rcases List.mem_cons.mp e with e | e
          · omega
          · rcases List.mem_append.mp e with e | e
            · obtain ⟨r, hr, rfl⟩ := List.mem_map.mp e
              have := prodF_mem fa.2.2 r hr
              rw [fa.1] at this
              omega
            · obtain ⟨r, hr, rfl⟩ := List.mem_map.mp e
              have := prodF_mem fb.2.2 r hr
              rw [fb.1] at this
              omega
      have et : (0 :: D).take (i + 1) = (0 :: D).take i ++ [k] := by rw [List.take_add_one, hk]; rfl
      refine ⟨rfl, ⟨_, rfl, _, rfl, _, rfl, ⟨a, b, k, rfl, a0, b0, a1, b1, kP.imp id fun z => ⟨z, kB⟩, fun r H6 hr e6 => ?_⟩⟩⟩
      refine ⟨1, rfl, _, _, rfl, rfl, _, rfl, ifd (fun h => ?_) (fun h => ?_)⟩
      · have h : r = -1 := h
        subst h
        refine ⟨_, rfl, m.map V.int, e6 _ _ hmd, ?_, ?_, sq_upd (e6.seq hL) ncd, m ++ [k], ?_, ?_, fun j => ?_⟩
        · rw [List.length_map]
          have := msub.length_le
          rw [List.length_take, List.length_cons] at this
          exact Nat.lt_of_le_of_lt (by omega : m.length ≤ 70) (by decide)
        · intro b' o e
          rw [upd_ne (ne_of_none e hdH)]
          exact e6 _ _ (e5 _ _ e)
        · rw [upd_same, List.map_append]; rfl
        · rw [et]
          exact msub.append (List.Sublist.refl _)
        · rw [et, List.mem_append, List.mem_append, hmm, List.mem_singleton]
          constructor
          · rintro (h | h)
            · exact ⟨.inl h.1, h.2⟩
            · exact ⟨.inr h, h ▸ hr⟩
          · rintro ⟨h | h, h2⟩
            · exact .inl ⟨h, h2⟩
            · exact .inr h
      · refine ⟨e5.trans e6, e6.seq hL, m, e6 _ _ hmd, ?_, fun j => ?_⟩
        · rw [et]
          exact msub.trans (List.sublist_append_left _ _)
        · rw [et, List.mem_append, hmm, List.mem_singleton]
          constructor
          · rintro h
            exact ⟨.inl h.1, h.2⟩
          · rintro ⟨h1 | h1, h2⟩
            · exact ⟨h1, h2⟩
            · subst h1
              exact absurd (hsign_unique kP hr h2) h
    · obtain ⟨e5, hL, m, hmd, msub, hmm⟩ := hp
      rw [List.length_map, List.take_length] at msub hmm
      refine ⟨d, m.map V.int, rfl, .inl ⟨SqL.of hmd, fun t ht => ?_⟩⟩
      have hl := hP0.2 msub hmm
      have ml := msub.length_le
      rw [List.length_cons] at ml
      exact q m t _ hl (by omega) (e5.trans (same_upd ht)) (e5.free ht) upd_same
end
end Sf

namespace Sf
open PySem PySem.Spec PyProof.Rows L2
section
variable {X : Cx} {CX : CXT} {n : Nat} {f C : Addr} {fd : FuncData} {ps : List Str} {sp : Sp} {E : XK} {op : Operator}
/-- no value of ours stands for "not implemented" -/
theorem cmpBack {v : V} {u : Value} {s : Shared} {Q : Value → Shared → Prop} (r : RelV v u) (q : Q u s) : PySem.W.CmpBack Q u s := by
  cases v with
  | non => cases (show u = Value.none from r); exact q
  | bl b => cases (show u = Value.bool b from r); exact q
  | int i => obtain ⟨t, rfl⟩ := (show ∃ t, u = Value.int i t from r); exact q
  | str x => obtain ⟨t, rfl⟩ := (show ∃ t, u = Value.str x t from r); exact q
  | byt b => obtain ⟨t, rfl⟩ := (show ∃ t, u = Value.bytes b t from r); exact q
  | flt b => obtain ⟨t, rfl⟩ := (show ∃ t, u = Value.float b t from r); exact q
  | ref a => cases (show u = Value.ref a from r); exact q
  | ty t => cases (show u = Value.type t from r); exact q
/-- an instance of the class at C -/
def Ins (H : Hp) (a C : Addr) : Prop := ∃ dx fs, H a = some (.ins C dx fs)
theorem ins_inst {pins : List (Addr × Obj)} {σ : L2.St} {H : Hp} {s : Shared} {a : Addr} (I : Inv X pins σ H s) (h : Ins H a C) : ∃ (ox : Obj) (od : Obj), PySem.W.InstAt s.heap a ox C (some od) := by
  obtain ⟨dx, fs, ea⟩ := h
  obtain ⟨mA, O, _⟩ := ins_get I.hok ea
  obtain ⟨od, J, _⟩ := O.look
  exact ⟨_, od, J⟩
/-- x op y, both of one own class that says what op is -/
def rOwn (C : Addr) (sp : Sp) (E : XK) : R2 := fun x y H Q => ∃ a b, x = .ref a ∧ y = .ref b ∧ Ins H a C ∧ Ins H b C ∧ sp [.ref a, .ref b] H Q E
theorem op_own (M : Meth X.K C (PySem.dunder op.info.2) f) (F : FnOk X.prog X.w X.K X.mg X.base CX n f fd ps sp) (hr : Room n X.A) (hb : Binds X.K fd ps []) (hx : Passes CX X E) (hc : PySem.W.selfFirst X.K C = true) : OpR X (binaryOp op) (rOwn C sp E) := by
  intro pins s σ H x y v u Q I rx ry h
  obtain ⟨a, b, rfl, rfl, ha, hb', q⟩ := h
  cases (show v = Value.ref a from rx)
  cases (show u = Value.ref b from ry)
  obtain ⟨ox, od, J⟩ := ins_inst I ha
  obtain ⟨oy, oe, J'⟩ := ins_inst I hb'
  obtain ⟨m, hF⟩ := I.fr
  refine PySem.W.binop_K hF I.ok.mod.kin J J'.type hc M.at_ M.fn (wpAny_mono (run_fn (us := [.ref a, .ref b]) (vs := [.ref a, .ref b]) F hr hb .nil hx I (.cons rfl (.cons rfl .nil)) q) (fun w s' h => ?_) fun _ _ z => z)
  obtain ⟨z, H', I', rz, qz⟩ := id h
  exact cmpBack rz h
/-- x op n, n an int -/
def rOwnI (C : Addr) (sp : Sp) (E : XK) : R2 := fun x y H Q => ∃ a i, x = .ref a ∧ y = .int i ∧ Ins H a C ∧ sp [.ref a, .int i] H Q E
theorem op_ownI {fo ro : Option Value} (M : Meth X.K C (PySem.dunder op.info.2) f) (F : FnOk X.prog X.w X.K X.mg X.base CX n f fd ps sp) (hr : Room n X.A) (hb : Binds X.K fd ps []) (hx : Passes CX X E) (hc : PySem.W.selfFirst X.K C = true)
    (nr : NoAttr X.K C (dunderR op.info.2)) (hsub : PySem.W.subIn X.K (.type "int") (.ref C) = some false) (h1 : PySem.W.findIn X.K (.type "int") (PySem.dunder op.info.2) = some fo) (h2 : PySem.W.findIn X.K (.type "int") (dunderR op.info.2) = some ro) :
    OpR X (binaryOp op) (rOwnI C sp E) := by
  intro pins s σ H x y v u Q I rx ry h
  obtain ⟨a, i, rfl, rfl, ha, q⟩ := h
  cases (show v = Value.ref a from rx)
  obtain ⟨t, rfl⟩ := (show ∃ t, u = Value.int i t from ry)
  obtain ⟨ox, od, J⟩ := ins_inst I ha
  obtain ⟨m, hF⟩ := I.fr
  refine PySem.W.ksp_binT (T := "int") hF I.ok.mod.kin J rfl hc M.at_ M.fn nr (.inl rfl) h1 h2 hsub (wpAny_mono (run_fn (us := [.ref a, .int i t]) (vs := [.ref a, .int i]) F hr hb .nil hx I (.cons rfl (.cons ⟨t, rfl⟩ .nil)) q) (fun w s' h => ?_) fun _ _ z => z)
  obtain ⟨z, H', I', rz, qz⟩ := id h
  exact cmpBack rz h
/-- -x -/
def rOwn1 (C : Addr) (sp : Sp) (E : XK) : V → Hp → VK → Prop := fun x H Q => ∃ a, x = .ref a ∧ Ins H a C ∧ sp [.ref a] H Q E
theorem un_own (M : Meth X.K C "__neg__" f) (F : FnOk X.prog X.w X.K X.mg X.base CX n f fd ps sp) (hr : Room n X.A) (hb : Binds X.K fd ps []) (hx : Passes CX X E) : UnR X (unaryOp .USub) (rOwn1 C sp E) := by
  intro pins s σ H x v Q I rx h
  obtain ⟨a, rfl, ha, q⟩ := h
  cases (show v = Value.ref a from rx)
  obtain ⟨ox, od, J⟩ := ins_inst I ha
  obtain ⟨m, hF⟩ := I.fr
  exact PySem.W.ksp_neg hF I.ok.mod.kin J M.at_ M.fn (run_fn (us := [.ref a]) (vs := [.ref a]) F hr hb .nil hx I (.cons rfl .nil) q)
/-- the truth of an own object -/
theorem tru_own (M : Meth X.K C "__bool__" f) (F : FnOk X.prog X.w X.K X.mg X.base CX n f fd ps sp) (hr : Room n X.A) (hb : Binds X.K fd ps []) (hx : Passes CX X E) :
    TruR X (fun x H Q => ∃ a, x = .ref a ∧ Ins H a C ∧ sp [.ref a] H (fun v H' => ∃ k, v = .bl k ∧ Q k H') E) := by
  intro pins s σ H x v Q I rx h
  obtain ⟨a, rfl, ha, q⟩ := h
  cases (show v = Value.ref a from rx)
  obtain ⟨ox, od, J⟩ := ins_inst I ha
  obtain ⟨m, hF⟩ := I.fr
  refine PySem.W.truthy_K hF I.ok.mod.kin J M.at_ M.fn (wpAny_mono (run_fn (us := [.ref a]) (vs := [.ref a]) F hr hb .nil hx I (.cons rfl .nil) q) (fun w s' h => ?_) fun _ _ z => z)
  obtain ⟨z, H', I', rz, k, rfl, qz⟩ := h
  cases (show w = Value.bool k from rz)
  exact ⟨H', I', qz⟩
/-- x == y by an own __eq__, y of the same class -/
theorem eq_own (M : Meth X.K C "__eq__" f) (F : FnOk X.prog X.w X.K X.mg X.base CX n f fd ps sp) (hr : Room n X.A) (hb : Binds X.K fd ps []) (hx : Passes CX X E) : OpR X (compareOp .Eq) (rOwn C sp E) := by
  intro pins s σ H x y v u Q I rx ry h
  obtain ⟨a, b, rfl, rfl, ha, hb', q⟩ := h
  cases (show v = Value.ref a from rx)
  cases (show u = Value.ref b from ry)
  obtain ⟨ox, od, J⟩ := ins_inst I ha
  obtain ⟨oy, oe, J'⟩ := ins_inst I hb'
  obtain ⟨m, hF⟩ := I.fr
  show wpAny (model X.prog X.w) X.A (richCompare .Eq _ _) (EP X pins σ Q) X.xe s
  refine PySem.W.cmp_K (op := .Eq) (tb := .ref C) hr.units0 hF I.ok.mod.kin J J'.type (by simp [PySem.W.notFirst]) M.at_ M.fn (wpAny_mono (run_fn (us := [.ref a, .ref b]) (vs := [.ref a, .ref b]) F hr hb .nil hx I (.cons rfl (.cons rfl .nil)) q) (fun w s' h => ?_) fun _ _ z => z)
  obtain ⟨z, H', I', rz, qz⟩ := id h
  exact cmpBack rz h
/-- x == n by an own __eq__, n an int -/
theorem eq_ownI (M : Meth X.K C "__eq__" f) (F : FnOk X.prog X.w X.K X.mg X.base CX n f fd ps sp) (hr : Room n X.A) (hb : Binds X.K fd ps []) (hx : Passes CX X E) (hsub : PySem.W.subIn X.K (.type "int") (.ref C) = some false) : OpR X (compareOp .Eq) (rOwnI C sp E) := by
  intro pins s σ H x y v u Q I rx ry h
  obtain ⟨a, i, rfl, rfl, ha, q⟩ := h
  cases (show v = Value.ref a from rx)
  obtain ⟨t, rfl⟩ := (show ∃ t, u = Value.int i t from ry)
  obtain ⟨ox, od, J⟩ := ins_inst I ha
  obtain ⟨m, hF⟩ := I.fr
  show wpAny (model X.prog X.w) X.A (richCompare .Eq _ _) (EP X pins σ Q) X.xe s
  refine PySem.W.cmp_K (op := .Eq) (tb := .type "int") hr.units0 hF I.ok.mod.kin J (PySem.W.Looks.of_pure rfl) (by unfold PySem.W.notFirst; rw [hsub]; simp) M.at_ M.fn (wpAny_mono (run_fn (us := [.ref a, .int i t]) (vs := [.ref a, .int i]) F hr hb .nil hx I (.cons rfl (.cons ⟨t, rfl⟩ .nil)) q) (fun w s' h => ?_) fun _ _ z => z)
  obtain ⟨z, H', I', rz, qz⟩ := id h
  exact cmpBack rz h
/-- a def called somewhere below the running body -/
theorem run_sub {A : Around} {pins : List (Addr × Obj)} {σ : L2.St} {H : Hp} {s : Shared} {Q : VK} {us : List Value} {vs : List V} (F : FnOk X.prog X.w X.K X.mg X.base CX n f fd ps sp) (sb : Sub X n A) (hb : Binds X.K fd ps []) (hx : Passes CX X E)
    (I : Inv X pins σ H s) (r : Vals vs us) (h : sp vs H Q E) : wpAny (model X.prog X.w) A (call (.ref f) us) (EP X pins σ Q) X.xe s := by
  have e0 : Env0 X.prog X.w X.K X.mg X.base A X.stack s H := by
    have e := I.env0
    exact ⟨by rw [sb.fr]; exact e.frames, e.mod, e.bs, e.bsz, e.funs, e.frf, e.hok, e.bare⟩
  have hl : us.length = ps.length := by rw [← r.length]; exact F.len _ _ _ _ h
  refine wpAny_call (codeAny_mono (F.run A X.stack s H ⟨us, []⟩ us vs Q E sb.room e0 (by
    have := hb s us I.kIn (by rw [List.append_nil]; exact hl)
    rw [List.append_nil] at this
    exact this) r h) fun r s' hq => ?_)
  cases r with
  | error e => exact hx pins σ H s e s' I hq
  | ok fl =>
    cases fl with
    | ret u => exact I.after hq
    | next => exact False.elim hq
    | brk => exact False.elim hq
    | cont => exact False.elim hq
section
variable {K : PySem.W.Frag} {s : Shared} {x : Addr} {ox : Obj} {od : Option Obj} {name : Str} {id : String} {A : Around} {Ee : Value → Shared → Prop}
theorem ifBound_B {M : Model} {args : List Value} {Q : Option Value → Shared → Prop} (Y : K.In s.heap) (I : PySem.W.InstAt s.heap x ox C od) (hs : PySem.W.findIn K (.ref C) name = some (some (.builtin id)))
    (hb : ∀ self, bindSpecial (.builtin id) self = pure (.builtin id, [self])) (h : wpAny M A (call (.builtin id) (.ref x :: args)) (fun v => Q (some v)) Ee s) : wpAny M A (callSpecialIfBound? (.ref x) name args) Q Ee s := by
  simp only [callSpecialIfBound?, bindSpecialIfBound?]
  refine wpAny_holding (wpAny_bind (wpAny_bind (wpAny_bind (I.type.here ((PySem.W.looks_findIn Y hs).here ?_)))))
  have z : wpAny M A (call (.builtin id) ([.ref x] ++ args) >>= fun v => pure (some v)) Q Ee s := wpAny_bind (wpAny_mono h (fun _ _ w => wpAny_pure w) fun _ _ w => w)
  refine wpAny_bind (wpAny_askSetting (wpAny_ite ?_))
  split
  · exact wpAny_bind ((PySem.W.Looks.of_pure (hb _)).here (wpAny_pure (by exact z)))
  · exact wpAny_tryCatch (wpAny_bind ((PySem.W.Looks.of_pure (hb _)).here (wpAny_pure (by exact z))))
end
/-- x != y: object.__ne__ asks the own __eq__ -/
theorem ne_own_core {a : Addr} {b : V} {bu tb : Value} {pins : List (Addr × Obj)} {σ : L2.St} {H : Hp} {s : Shared} {Q : VK} (M : Meth X.K C "__eq__" f) (F : FnOk X.prog X.w X.K X.mg X.base CX n f fd ps sp) (hr : Room (n + 1) X.A) (hb : Binds X.K fd ps []) (hx : Passes CX X E)
    (hn : PySem.W.findIn X.K (.ref C) "__ne__" = some (some (.builtin "object.__ne__"))) (hm : PySem.W.mroIn X.K C (.type "object") = some true) (I : Inv X pins σ H s) (ha : Ins H a C) (rb : RelV b bu)
    (hT : PySem.W.Looks (model X.prog X.w) s.heap (typeOf bu) tb) (hF : PySem.W.notFirst X.K C tb = true)
    (q : sp [.ref a, b] H (fun v H' => ∃ k, v = .bl k ∧ Q (.bl (!k)) H') E) : wpAny (model X.prog X.w) X.A (richCompare .NotEq (.ref a) bu) (EP X pins σ Q) X.xe s := by
  obtain ⟨ox, od, J⟩ := ins_inst I ha
  have Y := I.kIn
  have one : wpAny (model X.prog X.w) X.A (tryCompare (.ref a) "__ne__" bu) (fun r s' => ∃ k : Bool, r = some (Value.bool k) ∧ EP X pins σ Q (.bool k) s') X.xe s := by
    unfold tryCompare
    refine wpAny_bind (ifBound_B Y J hn PySem.F.cmp_object.ne.bind ?_)
    refine wpAny_call (codeAny_call_builtin PySem.F.cmp_object.ne.plain PySem.F.cmpEntry_ne (PySem.W.check_slot (i := "object.__ne__") (owner := "object") (n := "__ne__") PySem.F.cmpKind_ne PySem.F.cmpSplit_ne (J.type.andThen (PySem.W.looks_mroIn Y hm)) (PySem.F.cmpArgs_ne _ _) ?_))
    unfold Builtin.«object.__ne__»
    refine wpAny_bind (m := slotArgs "__ne__" 1 _) (wpAny_pure ?_)
    refine wpAny_bind (m := cRoomFor _ _) (wpAny_cRoomFor hr.in1.units0 ?_)
    refine wpAny_bind (m := callSpecialIfBound? (.ref a) (Str.ofString "__eq__") _) (PySem.W.ifBound_K Y J M.at_ M.fn (wpAny_mono (run_sub (us := [.ref a, bu]) (vs := [.ref a, b]) F (Sub.in1 ⟨hr, rfl⟩) hb hx I (.cons rfl (.cons rb .nil)) q) (fun w s' h => ?_) fun _ _ z => z))
    obtain ⟨z, H', I', rz, k, rfl, qz⟩ := h
    cases (show w = Value.bool k from rz)
    refine wpAny_bind (m := truthy (.bool _)) (wpAny_truthy_bool ?_)
    refine wpAny_pure ?_
    exact wpAny_pure ⟨!k, rfl, .bl (!k), H', I', rfl, qz⟩
  unfold richCompare
  simp only [oneThing_ref]
  refine wpAny_holding (wpAny_bind (wpAny_cRoomFor hr.units0 ?_))
  refine wpAny_bind (J.type.here (wpAny_bind (hT.here ?_)))
  have fin : ∀ (r : Option Value) (s' : Shared), (∃ k : Bool, r = some (Value.bool k) ∧ EP X pins σ Q (.bool k) s') → ∃ v, r = some v ∧ EP X pins σ Q v s' := fun r s' ⟨k, e, h⟩ => ⟨_, e, h⟩
  split
  · rename_i c
    have e : PySem.W.subIn X.K tb (.ref C) = some false := by
      rcases Bool.or_eq_true_iff.mp hF with e | e
      · rw [beq_iff_eq.mp e] at c; simp at c
      · exact beq_iff_eq.mp e
    refine wpAny_bind ((PySem.W.looks_subIn Y e).here ?_)
    simp only [Bool.false_eq_true, if_false]
    refine wpAny_bind (wpAny_mono one (fun r s' z => ?_) fun _ _ e => e)
    obtain ⟨v, rfl, hq⟩ := fin r s' z
    exact wpAny_pure hq
  · refine wpAny_bind (wpAny_pure ?_)
    simp only [Bool.false_eq_true, if_false]
    refine wpAny_bind (wpAny_mono one (fun r s' z => ?_) fun _ _ e => e)
    obtain ⟨v, rfl, hq⟩ := fin r s' z
    exact wpAny_pure hq
/-- x != y, both of one own class -/
def rOwnNe (C : Addr) (sp : Sp) (E : XK) : R2 := fun x y H Q => ∃ a b, x = .ref a ∧ y = .ref b ∧ Ins H a C ∧ Ins H b C ∧ sp [.ref a, .ref b] H (fun v H' => ∃ k, v = .bl k ∧ Q (.bl (!k)) H') E
theorem ne_own (M : Meth X.K C "__eq__" f) (F : FnOk X.prog X.w X.K X.mg X.base CX n f fd ps sp) (hr : Room (n + 1) X.A) (hb : Binds X.K fd ps []) (hx : Passes CX X E)
    (hn : PySem.W.findIn X.K (.ref C) "__ne__" = some (some (.builtin "object.__ne__"))) (hm : PySem.W.mroIn X.K C (.type "object") = some true) : OpR X (compareOp .NotEq) (rOwnNe C sp E) := by
  intro pins s σ H x y v u Q I rx ry h
  obtain ⟨a, b, rfl, rfl, ha, hb', q⟩ := h
  cases (show v = Value.ref a from rx)
  obtain ⟨oy, oe, J'⟩ := ins_inst I hb'
  cases (show u = Value.ref b from ry)
  exact ne_own_core (b := .ref b) M F hr hb hx hn hm I ha rfl J'.type (by simp [PySem.W.notFirst]) q
/-- x != n, n an int -/
def rOwnNeI (C : Addr) (sp : Sp) (E : XK) : R2 := fun x y H Q => ∃ a i, x = .ref a ∧ y = .int i ∧ Ins H a C ∧ sp [.ref a, .int i] H (fun v H' => ∃ k, v = .bl k ∧ Q (.bl (!k)) H') E
theorem ne_ownI (M : Meth X.K C "__eq__" f) (F : FnOk X.prog X.w X.K X.mg X.base CX n f fd ps sp) (hr : Room (n + 1) X.A) (hb : Binds X.K fd ps []) (hx : Passes CX X E)
    (hn : PySem.W.findIn X.K (.ref C) "__ne__" = some (some (.builtin "object.__ne__"))) (hm : PySem.W.mroIn X.K C (.type "object") = some true) (hsub : PySem.W.subIn X.K (.type "int") (.ref C) = some false) : OpR X (compareOp .NotEq) (rOwnNeI C sp E) := by
  intro pins s σ H x y v u Q I rx ry h
  obtain ⟨a, i, rfl, rfl, ha, q⟩ := h
  cases (show v = Value.ref a from rx)
  obtain ⟨t, rfl⟩ := (show ∃ t, u = Value.int i t from ry)
  exact ne_own_core (b := .int i) M F hr hb hx hn hm I ha ⟨t, rfl⟩ (PySem.W.Looks.of_pure rfl) (by unfold PySem.W.notFirst; rw [hsub]; simp) q
/-- bool(x), x of an own class -/
theorem bool_own (M : Meth X.K C "__bool__" f) (F : FnOk X.prog X.w X.K X.mg X.base CX n f fd ps sp) (hr : Room (n + 3) X.A) (hb : Binds X.K fd ps []) (hx : Passes CX X E) :
    CallR X (.type "bool") (fun xs H Q => ∃ a, xs = [.ref a] ∧ Ins H a C ∧ sp [.ref a] H (fun v H' => ∃ k, v = .bl k ∧ Q v H') E) := by
  intro pins s σ H xs us Q I r h
  obtain ⟨a, rfl, ha, q⟩ := h
  rw [Vals.ref1 r]
  obtain ⟨ox, od, J⟩ := ins_inst I ha
  obtain ⟨m, hF⟩ := I.fr
  refine callType_codes (T := "bool") (Bi := Builtin.«object.__init__») (Q₁ := fun r t => ∃ k : Bool, r = .bool k ∧ EP X pins σ Q r t) PySem.F.called_bool (PySem.F.typeCall_bool_1 _) PySem.F.entry_object_init ?_ ?_
  · refine codeAny_of_tree ?_
    show wpAny _ X.A.in1.in1 (checkBuiltinCall "bool.__new__" ⟨[.type "bool", .ref a], []⟩ >>= fun _ => again (.builtin "bool.__new__" ⟨[.type "bool", .ref a], []⟩)) _ _ s
    refine wpAny_bind (wpAny_of_eq (PySem.F.newCall_bool_1 _) (wpAny_pure ⟨plainId_quiet (by decide +kernel) _, codeAny_builtin PySem.F.entry_bool_new ?_⟩))
    rw [Around.under_plainId (by decide +kernel) _]
    have key : wpAny (model X.prog X.w) X.A.in1.in1 (truthy (.ref a)) (fun k t => EP X pins σ Q (.bool k) t) X.xe s := by
      refine PySem.W.truthy_K hF I.ok.mod.kin J M.at_ M.fn (wpAny_mono (run_sub (us := [.ref a]) (vs := [.ref a]) F (Sub.in1 (Sub.in1 ⟨hr.mono (by omega), rfl⟩)) hb hx I (.cons rfl .nil) q) (fun w s' h => ?_) fun _ _ z => z)
      obtain ⟨z, H', I', rz, k, rfl, qz⟩ := h
      cases (show w = Value.bool k from rz)
      exact ⟨.bl k, H', I', rfl, qz⟩
    have f1 := PySem.F.conv_sub_bool
    unfold Builtin.«bool.__new__»
    generalize hTR : truthy = TR at key ⊢
    wp_walk
    refine wpAny_mono key (fun k t h => ?_) fun _ _ z => z
    exact wpAny_pure ⟨k, rfl, h⟩
  · rintro obj t ⟨k, rfl, h⟩
    exact ⟨PySem.typeIs_bool _ _, PySem.F.args_object_init_2 _ _, object_init_meets PySem.F.called_bool.init.lookup PySem.F.called_bool.made (by decide) X.prog X.w X.A.in1 _ t ⟨PySem.typeIs_bool _ _, rfl, h⟩⟩
/-- str(x), x of an own class -/
theorem str_own (M : Meth X.K C "__str__" f) (F : FnOk X.prog X.w X.K X.mg X.base CX n f fd ps sp) (hr : Room (n + 3) X.A) (hb : Binds X.K fd ps []) (hx : Passes CX X E) :
    CallR X (.type "str") (fun xs H Q => ∃ a, xs = [.ref a] ∧ Ins H a C ∧ sp [.ref a] H (fun v H' => ∃ k, v = .str k ∧ Q v H') E) := by
  intro pins s σ H xs us Q I r h
  obtain ⟨a, rfl, ha, q⟩ := h
  rw [Vals.ref1 r]
  obtain ⟨ox, od, J⟩ := ins_inst I ha
  have Y := I.kIn
  refine callType_codes (T := "str") (Bi := Builtin.«object.__init__») (Q₁ := fun r t => ∃ y u, r = .str y u ∧ EP X pins σ Q r t) PySem.F.called_str (PySem.F.typeCall_str_1 _) PySem.F.entry_object_init ?_ ?_
  · refine codeAny_of_tree ?_
    show wpAny _ X.A.in1.in1 (checkBuiltinCall "str.__new__" ⟨[.type "str", .ref a], []⟩ >>= fun _ => again (.builtin "str.__new__" ⟨[.type "str", .ref a], []⟩)) _ _ s
    refine wpAny_bind (wpAny_of_eq (PySem.F.newCall_str_1 _) (wpAny_pure ⟨plainId_quiet (by decide +kernel) _, codeAny_builtin PySem.F.entry_str_new ?_⟩))
    rw [Around.under_plainId (by decide +kernel) _]
    have key : wpAny (model X.prog X.w) X.A.in1.in1 (PySem.Builtin.Str.strOf (.ref a)) (fun v t => ∃ y u, v = Value.str y u ∧ EP X pins σ Q v t) X.xe s := by
      unfold PySem.Builtin.Str.strOf
      rw [show PySem.Builtin.Str.isExactStr (.ref a) = false from rfl]
      refine wpAny_bind (m := cRoomFor _ _) (wpAny_cRoomFor hr.in1.in1.units0 ?_)
      refine wpAny_bind (m := callSpecial? (.ref a) (Str.ofString "__str__")) (PySem.W.special_fn Y J M.at_ (beq_iff_eq.mp M.fn) (wpAny_mono (run_sub (us := [.ref a]) (vs := [.ref a]) F (Sub.in1 (Sub.in1 ⟨hr.mono (by omega), rfl⟩)) hb hx I (.cons rfl .nil) q) (fun w s' h => ?_) fun _ _ z => z))
      obtain ⟨z, H', I', rz, k, rfl, qz⟩ := h
      obtain ⟨u, rfl⟩ := (show ∃ t, w = Value.str k t from rz)
      exact wpAny_pure ⟨k, u, rfl, .str k, H', I', ⟨u, rfl⟩, qz⟩
    have f1 : isSubtype (.type "str") (.type "str") = pure true := isSubtype_str_str
    unfold Builtin.«str.__new__»
    generalize hTR : PySem.Builtin.Str.strOf = TR at key ⊢
    wp_walk
    refine wpAny_mono key (fun v t h => ?_) fun _ _ z => z
    obtain ⟨y, u, rfl, h⟩ := h
    exact wpAny_pure ⟨y, u, rfl, h⟩
  · rintro obj t ⟨y, u, rfl, h⟩
    exact ⟨PySem.typeIs_str _ _ _, PySem.F.args_object_init_2 _ _, object_init_meets PySem.F.called_str.init.lookup PySem.F.called_str.made (by decide) X.prog X.w X.A.in1 _ t ⟨PySem.typeIs_str _ _ _, rfl, h⟩⟩
end
end Sf

namespace Sf
open PySem PySem.Spec PyProof.Rows L2
section
variable {X : Cx} {o : Expr} {f : Str} {pos : Pos} {to : TE}
/-- o.f = .. as a target -/
def gAttr (K : PySem.W.Frag) (to : TE) (f : Str) : TG := fun y σ H Q => to σ H fun x H1 => ∃ a C dx fs, x = .ref a ∧ H1 a = some (.ins C dx fs) ∧ Cls K C ∧ NoAttr K C f ∧ fs.length < 1000 ∧ Q σ (upd H1 a (.ins C dx (putF f y fs)))
theorem pg_attr (ho : PE X o to) : PG X (.Attribute o f pos) (gAttr X.K to f) := by
  refine ⟨fun pins s σ H v u Q I r h => ?_⟩
  rw [arm_assign_Attribute]
  refine wpAny_bind (wpAny_holding (thn (ho.run pins s σ H _ I h) fun ov s1 ⟨x, H1, I1, r1, a, C, dx, fs, ex, ea, c, nn, l, q⟩ => ?_))
  subst ex
  cases (show ov = Value.ref a from r1)
  refine wpAny_bind (wpAny_standAt (wpAny_bind (wpAny_holding (setattr_ok I1 ea c nn l r fun s2 I2 => ?_))))
  exact wpAny_release ⟨σ, _, I2, q⟩
end
end Sf

namespace Sf
open PySem PySem.Spec PyProof.Rows L2
section
variable {X : Cx}
def CDivZ (_ j : Int) : Prop := j ≠ 0 ∧ j.natAbs.log2 < 9000
/-- // by a divisor of any sign -/
theorem op_fdivZ : OpR X (binaryOp .FloorDiv) (rI CDivZ fun i j => .int (i.fdiv j)) := opI fun _ _ _ _ _ _ _ hc q => floordiv_int hc.1 q (.inl (PyProof.noPylong_of_log2 hc.2))
theorem CDivZ.of {i j : Int} (h : j ≠ 0) (hb : j.natAbs < 2 ^ 8000) : CDivZ i j := ⟨h, Nat.lt_of_lt_of_le ((Nat.log2_lt (by omega)).mpr hb) (by decide)⟩
theorem gcd_args5 (a b c d e : Value) : argsOk "math.gcd" ⟨[a, b, c, d, e], []⟩ := by unfold argsOk; kernel_rfl
theorem gcd_run5 (a b c d e : Int) (ta tb tc td te : Tok) : Gives (Builtin.«math.gcd» ⟨[.int a ta, .int b tb, .int c tc, .int d td, .int e te], []⟩) (.int ((((((Nat.gcd 0 a.natAbs).gcd b.natAbs).gcd c.natAbs).gcd d.natAbs).gcd e.natAbs : Nat) : Int)) :=
  .of_wp fun M A E s Q h => by
    obtain ⟨hp, g, d, tk, os⟩ := s
    wp_walk
    exact ⟨_, rfl, h⟩
/-- gcd of five integers -/
def rGcd5 : List V → Hp → VK → Prop := fun vs H Q => ∃ a b c d e : Int, vs = [.int a, .int b, .int c, .int d, .int e] ∧ Q (.int (((((a.natAbs.gcd b.natAbs).gcd c.natAbs).gcd d.natAbs).gcd e.natAbs : Nat) : Int)) H
theorem cr_gcd5 : CallR X (.builtin "math.gcd") rGcd5 := by
  intro pins s σ H xs us Q I r h
  obtain ⟨a, b, c, d, e, rfl, q⟩ := h
  cases r with
  | cons r1 r => cases r with
    | cons r2 r => cases r with
      | cons r3 r => cases r with
        | cons r4 r => cases r with
          | cons r5 r =>
            cases r
            obtain ⟨t1, rfl⟩ := r1
            obtain ⟨t2, rfl⟩ := r2
            obtain ⟨t3, rfl⟩ := r3
            obtain ⟨t4, rfl⟩ := r4
            obtain ⟨t5, rfl⟩ := r5
            have g := gcd_run5 a b c d e t1 t2 t3 t4 t5
            rw [Nat.gcd_zero_left] at g
            exact call_function_meets PySem.W.MGF.kind_gcd PySem.W.MGF.plain_gcd PySem.W.MGF.entry_gcd (gcd_args5 _ _ _ _ _) g.meets ⟨.int _, H, I.tok _, ⟨_, rfl⟩, q⟩
/-- x(e, ..), x a name of the module that holds a built-in function -/
theorem pe_callGB {r : List V → Hp → VK → Prop} {t : TA} {x : Str} {id : String} {e : Expr} {es : List Expr} {p pos : Pos} (hc : CallR X (.builtin id) r) (hg : Gl X x) (hm : X.mg x = some (.builtin id)) (ha : PA X (e :: es) t) (hdb : (x == ("__debug__" : Str)) = false := by decide)
    (he : starEach (e :: es) X.env = (false, eval e X.env) :: starEach es X.env := by rfl) (hpl : (backTo pos (starEach es X.env)).any (·.1) = false := by rfl) : PE X (.Call (.Name x p) (e :: es) [] pos) (tCB r t) := by
  refine ⟨fun pins s σ H Q I h => ?_⟩
  refine wpAny_Call_Name_kw (ld_glob I hg hm ?_ hdb)
  exact PyProof.Rows.callWith_builtin1 (thn (ha.run pos pins s σ H _ I h) fun us s1 ⟨vs, H1, I1, r1, q1⟩ => hc pins s1 σ H1 vs us Q I1 r1 q1) he hpl
end
end Sf

namespace Sf
open PySem PySem.Spec PyProof.Rows L2
/-- an own class, ready to be called with so many arguments; ds fills up -/
structure CalC (P : Program) (w : World) (K : PySem.W.Frag) (mg : Str → Option Value) (base : Heap) (k : Nat) (x : Str) (C : Addr) (ps : List Str) (ds : List V) (sp : Sp) where
  f : Addr
  fd : FuncData
  us : List Value
  ok : FnOk P w K mg base CX0 k f fd ps sp
  mkr : Mk K C f
  g : mg x = some (.ref C)
  b : Binds K fd ps us
  d : Vals ds us
/-- a method, ready to be called -/
structure CalM (P : Program) (w : World) (K : PySem.W.Frag) (mg : Str → Option Value) (base : Heap) (k : Nat) (m : Str) (C : Addr) (ps : List Str) (sp : Sp) where
  f : Addr
  fd : FuncData
  ok : FnOk P w K mg base CX0 k f fd ps sp
  me : Meth K C m f
  b : Binds K fd ps []
theorem _root_.L2.Meth.cast {K : PySem.W.Frag} {C f : Addr} {m m' : Str} (M : Meth K C m f) (e : m = m') : Meth K C m' f := e ▸ M
section
variable {X : Cx} {k : Nat} {x m : Str} {C : Addr} {ps : List Str} {ds : List V} {sp : Sp} {e o : Expr} {es : List Expr} {t : TA} {ta : TE} {p pos apos : Pos}
theorem pe_new (N : CalC X.prog X.w X.K X.mg X.base k x C ps ds sp) (hr : Room (k + 1) X.A) (ha : PA X (e :: es) t) (hg : Gl X x := by rfl) (hdb : (x == ("__debug__" : Str)) = false := by decide)
    (he : starEach (e :: es) X.env = (false, eval e X.env) :: starEach es X.env := by rfl) (hpl : (backTo pos (starEach es X.env)).any (·.1) = false := by rfl) :
    PE X (.Call (.Name x p) (e :: es) [] pos) (tMake C sp ds E0 t) :=
  pe_make N.mkr N.ok hr hg N.g N.b N.d pass0 ha hdb he hpl
end
/-- what the text says of a class whose objects are told by fields alone -/
structure OwnK (K : PySem.W.Frag) (C : Addr) : Prop where
  cls : Cls K C
  sf : PySem.W.selfFirst K C = true
  si : PySem.W.subIn K (.type "int") (.ref C) = some false
  ne : PySem.W.findIn K (.ref C) "__ne__" = some (some (.builtin "object.__ne__"))
  mo : PySem.W.mroIn K C (.type "object") = some true
  ca : PySem.W.findIn K (.ref C) "__class__" = some (some (.builtin "object.__class__"))
  cg : PySem.W.specialIn K (.builtin "object.__class__") "__get__" = some (some (.builtin "getset_descriptor.__get__"))
  ct : PySem.W.takesIn K (.builtin "object.__class__") = some true
  kk : PySem.W.kitOne K (.ref C) (.ref C) = some true
  ki : PySem.W.kitOne K (.type "int") (.ref C) = some false
theorem OwnK.ty {K : PySem.W.Frag} {C : Addr} {H : Hp} {a : Addr} (o : OwnK K C) (h : Ins H a C) : TyX K H (.ref a) (.ref C) := by
  obtain ⟨dx, fs, e⟩ := h
  exact .base (.ins e o.cls o.ca o.cg o.ct o.mo)
theorem ownB_ok {K : PySem.W.Frag} {x : Str} (c : Cls K (He.ga K x)) (h : ownB K x = true) : OwnK K (He.ga K x) := by
  obtain ⟨h1, h⟩ := He.ba h
  obtain ⟨h2, h⟩ := He.ba h
  obtain ⟨h3, h⟩ := He.ba h
  obtain ⟨h4, h⟩ := He.ba h
  obtain ⟨h5, h⟩ := He.ba h
  obtain ⟨h6, h⟩ := He.ba h
  obtain ⟨h7, h⟩ := He.ba h
  obtain ⟨h8, h9⟩ := He.ba h
  exact ⟨c, h1, of_decide_eq_true h2, He.eqO_ok h3, of_decide_eq_true h4, He.eqO_ok h5, He.eqO_ok h6, of_decide_eq_true h7, of_decide_eq_true h8, of_decide_eq_true h9⟩
/-- e.f where K is told from outside (within a comprehension) -/
theorem pe_fldK {X : Cx} {K : PySem.W.Frag} {e : Expr} {f : Str} {pos : Pos} {ta : TE} (hK : X.K = K) (he : PE X e ta) (hb : attributeBase e f X.env (eval e X.env) = eval e X.env) : PE X (.Attribute e f pos) (tFld K ta f) := hK ▸ pe_fld he hb
theorem pg_tupK {X : Cx} {K : PySem.W.Frag} {es : List Expr} {k : Nat} {t : TGs} {n : Nat} {pos : Pos} (hK : X.K = K) (hc : X.calm = true) (h : PGs X es t)
    (hn : (assignEach es X.env).length = n := by rfl) (hst : (assignEach es X.env).findIdx? (·.1) = none := by rfl) : PG X (.Tuple es k pos) (gTup K n t) := hK ▸ pg_tup hc h hn hst
theorem walk_zipT {K : PySem.W.Frag} {a b : Addr} {xs ys : List V} {n : Nat} (h1 : xs.length = n) (h2 : ys.length = n) : Walk (RZ.ItzT K a b) n (fun H => SqT K H a xs ∧ SqT K H b ys) (YPair (fun i => xs[i]?) (fun i => ys[i]?)) :=
  ⟨fun i H hi q => ⟨xs, ys, xs[i], ys[i], q.1, q.2, by simp, by simp⟩, fun H q => ⟨xs, ys, q.1, q.2, .inl (Nat.le_of_eq h1)⟩, fun i H x H' hi q y => by
    obtain ⟨T, u, v, e, hT, eH, g1, g2⟩ := y
    exact ⟨T, u, v, e, hT, eH, g1 xs q.1, g2 ys q.2⟩⟩
theorem ifnb {b : Bool} {A B : Prop} (h1 : b = false → A) (h2 : b = true → B) : if (!b) = true then A else B := by
  cases b with
  | false => exact h1 rfl
  | true => exact h2 rfl
end Sf

namespace Sf
open PySem PySem.Spec PyProof.Rows L2
/-! {(k, l): v, ..}: a display with tuples for keys -/
section
variable {X : Cx} {pins : List (Addr × Obj)} {σ : L2.St}
theorem d_setT {H : Hp} {s : Shared} {a b : Addr} {v : V} {r : Value} {kvs : List (List Key × V)} {k : List Key} {A : Around} {E : Value → Shared → Prop} {Q : Unit → Shared → Prop} (hu : A.units + 1 < cLine) (I : Inv X pins σ H s) (e : H a = some (.dT kvs)) (eb : H b = some (.tup (k.map kV))) (l : kvs.length < sizeLine) (rv : RelV v r)
    (h : ∀ s', Inv X pins σ (upd H a (.dT (putK kvs k v))) s' → Q () s') : wpAny (model X.prog X.w) A (dictSet a (.ref b) r) Q E s := by
  obtain ⟨z, hd, xs, rel, dd⟩ := dt_of I.hok e
  have hz : xs.length ≤ sizeLine := by rw [← Paired.length rel]; exact z
  have hl : (putK kvs k v).length ≤ sizeLine := by have := length_putK kvs k v; omega
  refine wpAny_dictSet_heap (hsz := hz) (knd := tupleKind (mixKind X.prog X.w)) (by show A.units < cLine; omega) (key_of I.hok eb) dd fun h' dd' hs => h _ ?_
  obtain ⟨q, es, ep, hq, h2, h3, h4, _, h5⟩ := dd'
  refine d_write I (by rw [e]; exact True.intro) hs ⟨q, hq⟩ ⟨hl, hd, _, (rel.put k eb rv).keeps fun c ys ec => ?_, q, es, ep, hq, h2, h3, h4, h5⟩
  rw [upd_ne (ne_of ec e (fun z => nomatch z))]
  exact ec
def tPutT (a : Addr) : List (V × V) → Hp → (Hp → Prop) → Prop
  | [], H, Q => Q H
  | p :: r, H, Q => ∃ b k kvs, p.1 = .ref b ∧ H a = some (.dT kvs) ∧ H b = some (.tup (k.map kV)) ∧ kvs.length < sizeLine ∧ tPutT a r (upd H a (.dT (putK kvs k p.2))) Q
theorem storeAllT {a : Addr} {A : Around} {E : Value → Shared → Prop} (hu : A.units + 1 < cLine) : ∀ (ps : List (V × V)) (vs : List (Value × Value)) (H : Hp) (s : Shared) (Q : Hp → Prop) (Q' : PUnit → Shared → Prop), Inv X pins σ H s → VV ps vs → tPutT a ps H Q →
    (∀ H' s', Inv X pins σ H' s' → Q H' → Q' PUnit.unit s') → wpAny (model X.prog X.w) A (storeAll a vs) Q' E s
  | [], _, H, s, Q, Q', I, rel, q, h => by
    cases rel
    unfold storeAll
    rw [List.forIn_nil]
    exact wpAny_pure (h H s I q)
  | p :: ps, _, H, s, Q, Q', I, rel, q, h => by
    cases rel with
    | @cons _ u _ us r1 r2 =>
      obtain ⟨b, k, kvs, e1, e2, e3, e4, q2⟩ := q
      obtain ⟨ru, rv⟩ := r1
      rw [e1] at ru
      have eu : u.1 = Value.ref b := ru
      unfold storeAll
      rw [List.forIn_cons]
      show wpAny _ _ (((do dictSet a u.1 u.2; pure (ForInStep.yield PUnit.unit)) : Sem (ForInStep PUnit)) >>= _) _ _ _
      rw [eu]
      refine wpAny_bind (wpAny_bind (d_setT hu I e2 e3 e4 rv fun s' I' => wpAny_pure ?_))
      exact storeAllT hu ps us _ s' Q Q' I' r2 q2 h
def tDispT (trs : List (TE × TE)) : TE := fun σ H Q => ∀ p, H p = none → tPairs trs σ (upd H p (.dT [])) fun ps H2 => tPutT p ps H2 fun H3 => Q (.ref p) H3
theorem pe_dispT {pos : Pos} {keys : List (Option Expr)} {values : List Expr} {trs : List (TE × TE)} (hu : X.A.units + 1 < cLine) (h : PPs X pos keys values trs) (hall : keys.all (·.isSome) = true) (hl : keys.length = values.length) (h0 : keys ≠ [])
    (h15 : keys.length ≤ 15) : PE X (.Dict keys values pos) (tDispT trs) := by
  refine ⟨fun pins s σ H Q I q => ?_⟩
  have hn := I.hok.fresh (Nat.le_refl s.heap.objs.size)
  have I1 := I.laid (a := s.heap.objs.size) (o := .dT []) (h' := s.heap.push { cls := .type "dict", data := .dict #[] }) (t' := s.toks) (fun _ _ q => Heap.get?_push_of_some _ q) (Nat.le_refl _) (dt_empty s.heap I.big)
  refine wpAny_Dict_any hall hl h0 h15 (thn (h.run pins _ σ _ _ I1 (q _ hn)) fun ws s2 ⟨ps, H2, I2, rel, q2⟩ => ?_)
  exact storeAllT hu ps ws H2 s2 _ _ I2 rel q2 fun H' s' I' q3 => ⟨.ref s.heap.objs.size, H', I', rfl, q3⟩
end
end Sf

namespace Sf
open PySem PySem.Spec PyProof.Rows L2
def sgnI (t : Int) : Int := if t = 0 then 0 else if t > 0 then 1 else -1
/-- lowest terms -/
def LowT (t b t' b' : Int) : Prop := 0 < b' ∧ t * b' = t' * b ∧ t'.natAbs.gcd b'.natAbs = 1
theorem low_of {t b : Int} (hb : b ≠ 0) : (((t.natAbs.gcd b.natAbs : Nat) : Int) ≠ 0) ∧ LowT t b (t.fdiv (if b < 0 then -((t.natAbs.gcd b.natAbs : Nat) : Int) else ((t.natAbs.gcd b.natAbs : Nat) : Int))) (b.fdiv (if b < 0 then -((t.natAbs.gcd b.natAbs : Nat) : Int) else ((t.natAbs.gcd b.natAbs : Nat) : Int))) := by
  have g0 : 0 < t.natAbs.gcd b.natAbs := Nat.gcd_pos_of_pos_right _ (by omega)
  obtain ⟨u, hu⟩ := (Int.natAbs_dvd_natAbs.mp (show t.natAbs.gcd b.natAbs ∣ t.natAbs from Nat.gcd_dvd_left _ _) : ((t.natAbs.gcd b.natAbs : Nat) : Int) ∣ t)
  obtain ⟨v, hv⟩ := (Int.natAbs_dvd_natAbs.mp (show t.natAbs.gcd b.natAbs ∣ b.natAbs from Nat.gcd_dvd_right _ _) : ((t.natAbs.gcd b.natAbs : Nat) : Int) ∣ b)
  refine ⟨by omega, ?_⟩
  have hc : (t.natAbs / (t.natAbs.gcd b.natAbs)).gcd (b.natAbs / (t.natAbs.gcd b.natAbs)) = 1 := by
    rw [Nat.gcd_div (Nat.gcd_dvd_left _ _) (Nat.gcd_dvd_right _ _), Nat.div_self g0]
  generalize t.natAbs.gcd b.natAbs = g at *
  have gi : (0 : Int) < g := by omega
  have eu : t.natAbs / g = u.natAbs := by
    rw [hu, Int.natAbs_mul, Int.natAbs_natCast, Nat.mul_div_cancel_left _ g0]
  have ev : b.natAbs / g = v.natAbs := by
    rw [hv, Int.natAbs_mul, Int.natAbs_natCast, Nat.mul_div_cancel_left _ g0]
  rw [eu, ev] at hc
  by_cases c : b < 0
  · rw [if_pos c]
    have e1 : t.fdiv (-(g : Int)) = -u := by
      rw [show t = (-(g : Int)) * (-u) by rw [Int.neg_mul_neg]; exact hu]
      exact Int.mul_fdiv_cancel_left _ (by omega)
    have e2 : b.fdiv (-(g : Int)) = -v := by
      rw [show b = (-(g : Int)) * (-v) by rw [Int.neg_mul_neg]; exact hv]
      exact Int.mul_fdiv_cancel_left _ (by omega)
    rw [e1, e2]
    refine ⟨?_, ?_, by rw [Int.natAbs_neg, Int.natAbs_neg]; exact hc⟩
    · by_cases v0 : 0 ≤ v
      · have := Int.mul_nonneg (Int.le_of_lt gi) v0
        omega
      · omega
    · rw [hu, hv]; grind
  · rw [if_neg c]
    have e1 : t.fdiv (g : Int) = u := by
      rw [hu]
      exact Int.mul_fdiv_cancel_left _ (by omega)
    have e2 : b.fdiv (g : Int) = v := by
      rw [hv]
      exact Int.mul_fdiv_cancel_left _ (by omega)
    rw [e1, e2]
    refine ⟨?_, ?_, hc⟩
    · by_cases v0 : v ≤ 0
      · have := Int.mul_nonneg (Int.le_of_lt gi) (show 0 ≤ -v by omega)
        rw [Int.mul_neg] at this
        omega
      · omega
    · rw [hu, hv]; grind
section
variable {P : Program} {w : World} {K : PySem.W.Frag} {mg : Str → Option Value} {base : Heap} {f : Addr} {fd : FuncData} {CR : Addr}
def spPassed (K : PySem.W.Frag) : Sp := fun vs H Q _ => ∃ (x : V) (b : Bool), vs = [x] ∧ IntB K H x b ∧ (b = true ↔ ∃ n, x = .int n) ∧ ∀ r : Bool, (r = true ↔ ∃ n : Int, x = .int n ∧ n.natAbs < 10 ^ 60) → Q (.bl r) H
theorem ok_is_passed (F : FnD K "is_passed" "is_passed" s_P_is_passed f fd) (T : Glob mg) (C_P_is_integer : Cal P w K mg base 1 "is_integer" ["value"] (spIsInt K)) : FnOk P w K mg base CX0 2 f fd ["value"] (spPassed K) := by
  refine F.ok sc_P_is_passed (fun vs H Q E h => ?_) (fun cdv A outer s H vs Q E hr h => ?_)
  · obtain ⟨x, b, rfl, _⟩ := h; rfl
  · obtain ⟨x, b, rfl, hb, hi, q⟩ := h
    obtain ⟨tM, hc_TOO_LONG⟩ := T.m_TOO_LONG
    refine ⟨_, PSs.nox (pss_one (ps_ret (pe_and (pe_cal C_P_is_integer (hr.mono (by decide)) (pa_cons (pv 0) pa_nil)) (pe_one (pe_cmp (pc_lt (pe_callB call_abs (by rfl) T.m_abs (by decide +kernel) (pa_cons (pv 0) pa_nil)) (pe_glob (v := .int 1000000000000000000000000000000000000000000000000000000000000) rfl hc_TOO_LONG ⟨_, rfl⟩)) rfl))))), ?_⟩
    refine ⟨_, rfl, x, b, rfl, hb, ?_⟩
    cases b with
    | false =>
      refine ⟨_, rfl, ?_⟩
      exact q false ⟨fun z => Bool.noConfusion z, fun ⟨n, e, _⟩ => hi.mpr ⟨n, e⟩⟩
    | true =>
      obtain ⟨n, rfl⟩ := hi.mp rfl
      refine ⟨_, rfl, _, rfl, n, rfl, _, _, rfl, rfl, ?_⟩
      have e60 : (10 : Nat) ^ 60 = 1000000000000000000000000000000000000000000000000000000000000 := by decide +kernel
      refine q _ ?_
      rw [decide_eq_true_iff, e60]
      constructor
      · intro h
        refine ⟨n, rfl, ?_⟩
        split at h <;> omega
      · rintro ⟨m, e, h⟩
        cases e
        split <;> omega
def spLowest : Sp := fun vs H Q _ => ∃ t b : Int, vs = [.int t, .int b] ∧ b ≠ 0 ∧ b.natAbs < 2 ^ 8000 ∧ ∀ (t' b' : Int) (a : Addr), LowT t b t' b' → H a = none → Q (.ref a) (upd H a (.tup [.int t', .int b']))
theorem ok_lowest_terms (F : FnD K "lowest_terms" "lowest_terms" s_P_lowest_terms f fd) (T : Glob mg) : FnOk P w K mg base CX0 1 f fd ["top", "bottom"] spLowest := by
  refine F.ok sc_P_lowest_terms (fun vs H Q E h => ?_) (fun cdv A outer s H vs Q E hr h => ?_)
  · obtain ⟨t, b, rfl, _⟩ := h; rfl
  · obtain ⟨t, b, rfl, b0, bb, q⟩ := h
    refine ⟨_, PSs.nox (pss_cons (ps_set (i := 2) sc_P_lowest_terms.nd rfl (Or.inl rfl) (pe_callGB cr_gcd (by rfl) T.m_gcd (pa_cons (pv 0) (pa_cons (pv 1) pa_nil))))
      (Evl.pss_cut (ps_if (pt_cmp (pc_lt (pv 1) pe_int)) (pss_one (ps_set (i := 2) sc_P_lowest_terms.nd rfl (Or.inl rfl) (pe_un un_neg (pv 2)))) pss_nil)
      (pss_one (ps_ret (pe_tup (pa_cons (pe_op op_fdivZ (pv 0) (pv 2)) (pa_cons (pe_op op_fdivZ (pv 1) (pv 2)) pa_nil))))))), ?_⟩
    obtain ⟨g0, hl⟩ := low_of (t := t) b0
    have gb : t.natAbs.gcd b.natAbs < 2 ^ 8000 := Nat.lt_of_le_of_lt (Nat.le_of_dvd (by omega) (Nat.gcd_dvd_right _ _)) bb
    refine ⟨_, rfl, _, rfl, t, b, rfl, ?_⟩
    generalize ((t.natAbs.gcd b.natAbs : Nat)) = g at *
    refine ⟨fun σ' H' => σ' = [some (.int t), some (.int b), some (.int (if b < 0 then -(g : Int) else (g : Int)))] ∧ H = H', ?_, ?_⟩
    · refine ⟨_, rfl, _, _, rfl, rfl, _, rfl, ifd (fun h => ?_) (fun h => ?_)⟩
      · rw [if_pos h]
        exact ⟨_, rfl, _, rfl, rfl, rfl⟩
      · rw [if_neg h]
        exact ⟨rfl, rfl⟩
    · rintro σ' _ ⟨rfl, rfl⟩
      have c0 : (if b < 0 then -(g : Int) else (g : Int)) ≠ 0 := by split <;> omega
      have cb : (if b < 0 then -(g : Int) else (g : Int)).natAbs < 2 ^ 8000 := by split <;> omega
      generalize (if b < 0 then -(g : Int) else (g : Int)) = c at *
      exact ⟨_, rfl, _, rfl, _, _, rfl, rfl, CDivZ.of c0 cb, _, rfl, _, rfl, _, _, rfl, rfl, CDivZ.of c0 cb, (by show 2 ≤ sizeLine; decide), fun a ha => q _ _ a hl ha⟩
def spSignOf : Sp := fun vs H Q _ => ∃ t : Int, vs = [.int t] ∧ Q (.int (sgnI t)) H
theorem ok_sign_of (F : FnD K "sign_of" "sign_of" s_P_sign_of f fd) : FnOk P w K mg base CX0 1 f fd ["number"] spSignOf := by
  refine F.ok sc_P_sign_of (fun vs H Q E h => ?_) (fun cdv A outer s H vs Q E hr h => ?_)
  · obtain ⟨t, rfl, _⟩ := h; rfl
  · obtain ⟨t, rfl, q⟩ := h
    refine ⟨_, PSs.nox (pss_cons (ps_if (pt_cmp (pc_eqI (pv 0) pe_int)) (pss_one (ps_ret pe_int)) pss_nil)
      (pss_one (ps_ret (pe_ifExp (pt_cmp (pc_gt (pv 0) pe_int)) pe_int (pe_un un_neg pe_int))))), ?_⟩
    unfold sgnI at q
    refine ⟨_, rfl, _, _, rfl, rfl, _, rfl, ifd (fun h => ?_) (fun h => ?_)⟩
    · rw [if_pos h] at q
      exact q
    · rw [if_neg h] at q
      refine ⟨_, rfl, _, _, rfl, rfl, _, rfl, ifd (fun h2 => ?_) (fun h2 => ?_)⟩
      · rw [if_pos h2] at q
        exact q
      · rw [if_neg h2] at q
        exact ⟨_, rfl, q⟩
/-- a ratio in lowest terms -/
def RatioAt (CR : Addr) (H : Hp) (a : Addr) (t b : Int) : Prop := ∃ dx, H a = some (.ins CR dx [("top", .int t), ("bottom", .int b), ("sign", .int (sgnI t))])
theorem RatioAt.ins {H : Hp} {a : Addr} {t b : Int} (h : RatioAt CR H a t b) : Ins H a CR := let ⟨dx, e⟩ := h; ⟨dx, _, e⟩
theorem RatioAt.same {H H' : Hp} {a : Addr} {t b : Int} (h : RatioAt CR H a t b) (s : Same H H') : RatioAt CR H' a t b := let ⟨dx, e⟩ := h; ⟨dx, s _ _ e⟩
structure RatioK (K : PySem.W.Frag) (CR : Addr) : Prop where
  own : OwnK K CR
  nt : NoAttr K CR "top"
  nb : NoAttr K CR "bottom"
  ns : NoAttr K CR "sign"
structure RatInitP (CR : Addr) (vs : List V) (H : Hp) (Q : VK) : Prop where
  ex : ∃ (a dx : Addr) (t b : Int), vs = [.ref a, .int t, .int b] ∧ b ≠ 0 ∧ t.natAbs < 10 ^ 60 ∧ b.natAbs < 10 ^ 60 ∧ H a = some (.ins CR dx []) ∧ ∀ (t' b' : Int) (H' : Hp), LowT t b t' b' → Keep a H H' → RatioAt CR H' a t' b' → Q .non H'
def spRatInit (CR : Addr) : Sp := fun vs H Q _ => RatInitP CR vs H Q
theorem ok_Ratio_init (F : FnDD K "__init__" "Ratio.__init__" s_P_Ratio___init__ [.int 1] f fd) (R : RatioK K CR) (C_P_is_passed : Cal P w K mg base 2 "is_passed" ["value"] (spPassed K)) (C_P_lowest_terms : Cal P w K mg base 1 "lowest_terms" ["top", "bottom"] spLowest) (C_P_sign_of : Cal P w K mg base 1 "sign_of" ["number"] spSignOf) :
    FnOk P w K mg base CX0 3 f fd ["self", "top", "bottom"] (spRatInit CR) := by
  refine F.ok sc_P_Ratio___init__ (fun vs H Q E h => ?_) (fun cdv A outer s H vs Q E hr h => ?_)
  · obtain ⟨a, dx, t, b, rfl, _⟩ := h.ex; rfl
  · obtain ⟨a, dx, t, b, rfl, b0, tb, bb, ha, q⟩ := h.ex
    refine ⟨_, PSs.nox (pss_cons (ps_if (pt_not (pt_val (pe_cal C_P_is_passed (hr.mono (by decide)) (pa_cons (pv 1) pa_nil)))) (pss_one ps_never) pss_nil)
      (pss_cons (ps_if (PW.pt (pw_or (pt_not (pt_val (pe_cal C_P_is_passed (hr.mono (by decide)) (pa_cons (pv 2) pa_nil)))) (pw_or1 (pt_cmp (pc_eqI (pv 2) pe_int))))) (pss_one ps_never) pss_nil)
      (pss_cons (ps_asg (pe_cal C_P_lowest_terms (hr.mono (by decide)) (pa_cons (pv 1) (pa_cons (pv 2) pa_nil))) (pg_tup (by rfl) (pgs_cons (pg_attr (pv 0)) (pgs_cons (pg_attr (pv 0)) pgs_nil))))
      (pss_one (ps_fld (pv 0) (pe_cal C_P_sign_of (hr.mono (by decide)) (pa_cons (pe_fld (pv 0) rfl) pa_nil)) rfl))))), ?_⟩
    refine ⟨_, rfl, .int t, true, rfl, .int t, ⟨fun _ => ⟨t, rfl⟩, fun _ => rfl⟩, fun r hr2 => ⟨_, rfl, ?_⟩⟩
    have e : r = true := hr2.mpr ⟨t, rfl, tb⟩
    subst e
    refine ⟨_, rfl, .int b, true, rfl, .int b, ⟨fun _ => ⟨b, rfl⟩, fun _ => rfl⟩, fun r hr2 => ⟨_, rfl, ?_⟩⟩
    have e : r = true := hr2.mpr ⟨b, rfl, bb⟩
    subst e
    refine ⟨_, rfl, _, _, rfl, rfl, _, rfl, ifd (fun h => absurd h b0) (fun _ => ?_)⟩
    refine ⟨_, rfl, _, rfl, t, b, rfl, b0, Nat.lt_trans bb (by decide +kernel), fun t' b' c hl hc => ?_⟩
    have nac : a ≠ c := ne_of_none ha hc
    refine ⟨c, _, rfl, .inl (.inl upd_same), rfl, _, _, rfl, _, rfl, a, CR, dx, [], rfl, by rw [upd_ne nac]; exact ha, R.own.cls, R.nt, by decide, ?_⟩
    refine ⟨_, _, rfl, _, rfl, a, CR, dx, _, rfl, upd_same, R.own.cls, R.nb, (by show 1 < 1000; decide), rfl, ?_⟩
    refine ⟨_, rfl, a, CR, dx, _, .int t', rfl, upd_same, R.own.cls, R.nt, rfl, t', rfl, ?_⟩
    refine ⟨_, rfl, a, CR, dx, _, rfl, upd_same, R.own.cls, R.ns, (by show 2 < 1000; decide), ?_⟩
    refine q t' b' _ hl (fun d o e n => ?_) ⟨dx, upd_same⟩
    rw [upd_ne n, upd_ne n, upd_ne n, upd_ne (ne_of_none e hc)]
    exact e
def spMadeRatio (CR : Addr) : Sp := fun vs H Q _ => ∃ t b : Int, vs = [.int t, .int b] ∧ b ≠ 0 ∧ b.natAbs < 2 ^ 8000 ∧ ∀ (t' b' : Int) (a : Addr) (H' : Hp), LowT t b t' b' → H a = none → Same H H' → RatioAt CR H' a t' b' → Q (.ref a) H'
theorem ok_made_ratio (F : FnD K "made_ratio" "made_ratio" s_P_made_ratio f fd) (R : RatioK K CR) (C_P_lowest_terms : Cal P w K mg base 1 "lowest_terms" ["top", "bottom"] spLowest) (C_P_sign_of : Cal P w K mg base 1 "sign_of" ["number"] spSignOf)
    (N_Ratio_1 : CalC P w K mg base 3 "Ratio" CR ["self", "top", "bottom"] [.int 1] (spRatInit CR)) : FnOk P w K mg base CX0 5 f fd ["top", "bottom"] (spMadeRatio CR) := by
  refine F.ok sc_P_made_ratio (fun vs H Q E h => ?_) (fun cdv A outer s H vs Q E hr h => ?_)
  · obtain ⟨t, b, rfl, _⟩ := h; rfl
  · obtain ⟨t, b, rfl, b0, bb, q⟩ := h
    refine ⟨_, PSs.nox (pss_cons (ps_set (i := 2) sc_P_made_ratio.nd rfl (Or.inl rfl) (pe_cal C_P_lowest_terms (hr.mono (by decide)) (pa_cons (pv 0) (pa_cons (pv 1) pa_nil))))
      (pss_cons (ps_set (i := 3) sc_P_made_ratio.nd rfl (Or.inl rfl) (pe_new N_Ratio_1 (hr.mono (by decide)) (pa_cons pe_int pa_nil)))
      (pss_cons (ps_fld (pv 3) (pe_ix ix_tup (pv 2) pe_int (fun _ _ => rfl)) rfl)
      (pss_cons (ps_fld (pv 3) (pe_ix ix_tup (pv 2) pe_int (fun _ _ => rfl)) rfl)
      (pss_cons (ps_fld (pv 3) (pe_cal C_P_sign_of (hr.mono (by decide)) (pa_cons (pe_ix ix_tup (pv 2) pe_int (fun _ _ => rfl)) pa_nil)) rfl)
      (pss_one (ps_ret (pv 3)))))))), ?_⟩
    refine ⟨_, rfl, _, rfl, t, b, rfl, b0, bb, fun t' b' c hl hc => ?_⟩
    refine fun x dx hx hdx nd => ⟨x, dx, 0, 1, rfl, by decide, by decide +kernel, by decide +kernel, upd_same, fun t0 b1 H1 _ k1 ⟨dx2, r1⟩ => ⟨rfl, ?_⟩⟩
    have ncx : c ≠ x := ne_of_none upd_same hx
    have ncd : c ≠ dx := ne_of_none upd_same hdx
    have hcH : H1 c = some (.tup [.int t', .int b']) := k1 _ _ (by rw [upd_ne ncx, upd_ne ncd, upd_same]) ncx
    have hT : ∀ {H' : Hp} {o : HO}, H' c = some (.tup [.int t', .int b']) → (upd H' x o) c = some (.tup [.int t', .int b']) := fun {H' o} h => by
      rw [upd_ne ncx]
      exact h
    refine ⟨_, rfl, c, _, 0, .int t', rfl, rfl, SqT.of hcH, rfl, _, rfl, x, CR, dx2, _, rfl, r1, R.own.cls, R.nt, (by show 3 < 1000; decide), ?_⟩
    refine ⟨_, rfl, c, _, 1, .int b', rfl, rfl, SqT.of (hT hcH), rfl, _, rfl, x, CR, dx2, _, rfl, upd_same, R.own.cls, R.nb, (by show 3 < 1000; decide), ?_⟩
    refine ⟨_, rfl, c, _, 0, .int t', rfl, rfl, SqT.of (hT (hT hcH)), rfl, t', rfl, _, rfl, x, CR, dx2, _, rfl, upd_same, R.own.cls, R.ns, (by show 3 < 1000; decide), ?_⟩
    have hxH : H x = none := by
      have z := hx
      rw [upd_ne ncx.symm] at z
      exact z
    refine ⟨_, rfl, q t' b' x _ hl hxH (fun d o e => ?_) ⟨dx2, upd_same⟩⟩
    have nd1 : d ≠ x := ne_of_none e hxH
    have hdH : H dx = none := by
      have z := hdx
      rw [upd_ne ncd.symm] at z
      exact z
    rw [upd_ne nd1, upd_ne nd1, upd_ne nd1]
    refine k1 _ _ ?_ nd1
    rw [upd_ne nd1, upd_ne (ne_of_none e hdH), upd_ne (ne_of_none e hc)]
    exact e
end
end Sf

namespace Sf
open PySem PySem.Spec PyProof.Rows L2
section
variable {P : Program} {w : World} {K : PySem.W.Frag} {mg : Str → Option Value} {base : Heap} {f : Addr} {fd : FuncData} {CR : Addr}
/-- a ratio, or an integer that can be passed -/
inductive RatV (CR : Addr) (H : Hp) : V → Int → Int → Prop
  | rat {a : Addr} {t b : Int} (h : RatioAt CR H a t b) : RatV CR H (.ref a) t b
  | int {t : Int} (h : t.natAbs < 10 ^ 60) : RatV CR H (.int t) t 1
theorem RatV.same {H H' : Hp} {x : V} {t b : Int} (h : RatV CR H x t b) (s : Same H H') : RatV CR H' x t b := by
  cases h with
  | rat h => exact .rat (h.same s)
  | int h => exact .int h
def spRatV (CR : Addr) (v : V) : Sp := fun vs H Q _ => ∃ (x : V) (t b : Int), vs = [x] ∧ RatV CR H x t b ∧ Q v H
theorem ok_is_fraction (F : FnD K "is_fraction" "is_fraction" s_P_is_fraction f fd) (T : Glob mg) (R : RatioK K CR) (G_Ratio : mg "Ratio" = some (.ref CR)) (C_P_is_passed : Cal P w K mg base 2 "is_passed" ["value"] (spPassed K)) : FnOk P w K mg base CX0 3 f fd ["value"] (spRatV CR (.bl true)) := by
  refine F.ok sc_P_is_fraction (fun vs H Q E h => ?_) (fun cdv A outer s H vs Q E hr h => ?_)
  · obtain ⟨x, t, b, rfl, _⟩ := h; rfl
  · obtain ⟨x, t, b, rfl, hx, q⟩ := h
    refine ⟨_, PSs.nox (pss_one (ps_ret (pe_or (pe_callB call_isi (by rfl) T.m_isinstance (by decide +kernel) (pa_cons (pv 0) (pa_cons (pe_glob (v := .ref _) rfl G_Ratio rfl) pa_nil))) (pe_one (pe_cal C_P_is_passed (hr.mono (by decide)) (pa_cons (pv 0) pa_nil)))))), ?_⟩
    cases hx with
    | rat hx =>
      exact ⟨_, rfl, _, .ref CR, _, _, true, rfl, .own CR, R.own.ty hx.ins, R.own.kk, _, rfl, q⟩
    | int hb =>
      refine ⟨_, rfl, _, .ref CR, _, _, false, rfl, .own CR, .base (.int _), R.own.ki, _, rfl, ?_⟩
      refine ⟨_, rfl, .int t, true, rfl, .int t, ⟨fun _ => ⟨t, rfl⟩, fun _ => rfl⟩, fun r hr2 => ?_⟩
      have e : r = true := hr2.mpr ⟨t, rfl, hb⟩
      subst e
      exact q
theorem ok_check_ratio (F : FnD K "check_ratio" "check_ratio" s_P_check_ratio f fd) (C_P_is_fraction : Cal P w K mg base 3 "is_fraction" ["value"] (spRatV CR (.bl true))) : FnOk P w K mg base CX0 4 f fd ["value"] (spRatV CR .non) := by
  refine F.ok sc_P_check_ratio (fun vs H Q E h => ?_) (fun cdv A outer s H vs Q E hr h => ?_)
  · obtain ⟨x, t, b, rfl, _⟩ := h; rfl
  · obtain ⟨x, t, b, rfl, hx, q⟩ := h
    refine ⟨_, PSs.nox (pss_one (ps_if (pt_not (pt_val (pe_cal C_P_is_fraction (hr.mono (by decide)) (pa_cons (pv 0) pa_nil)))) (pss_one ps_never) pss_nil)), ?_⟩
    exact ⟨_, rfl, x, t, b, rfl, hx, _, rfl, q⟩
def spTermsOf (CR : Addr) : Sp := fun vs H Q _ => ∃ (x : V) (t b : Int), vs = [x] ∧ RatV CR H x t b ∧ ∀ a, H a = none → Q (.ref a) (upd H a (.tup [.int t, .int b]))
theorem ok_terms_of (F : FnD K "terms_of" "terms_of" s_P_terms_of f fd) (T : Glob mg) (R : RatioK K CR) (G_Ratio : mg "Ratio" = some (.ref CR)) : FnOk P w K mg base CX0 1 f fd ["ratio"] (spTermsOf CR) := by
  refine F.ok sc_P_terms_of (fun vs H Q E h => ?_) (fun cdv A outer s H vs Q E hr h => ?_)
  · obtain ⟨x, t, b, rfl, _⟩ := h; rfl
  · obtain ⟨x, t, b, rfl, hx, q⟩ := h
    refine ⟨_, PSs.nox (pss_cons (ps_if (pt_val (pe_callB call_isi (by rfl) T.m_isinstance (by decide +kernel) (pa_cons (pv 0) (pa_cons (pe_glob (v := .ref _) rfl G_Ratio rfl) pa_nil)))) (pss_one (ps_ret (pe_tup (pa_cons (pe_fld (pv 0) rfl) (pa_cons (pe_fld (pv 0) rfl) pa_nil))))) pss_nil)
      (pss_one (ps_ret (pe_tup (pa_cons (pv 0) (pa_cons pe_int pa_nil)))))), ?_⟩
    cases hx with
    | @rat a _ _ hx =>
      obtain ⟨dx, e⟩ := hx
      refine ⟨_, rfl, _, .ref CR, _, _, true, rfl, .own CR, R.own.ty ⟨dx, _, e⟩, R.own.kk, _, rfl, ?_⟩
      exact ⟨_, rfl, a, CR, dx, _, .int t, rfl, e, R.own.cls, R.nt, rfl, _, rfl, a, CR, dx, _, .int b, rfl, e, R.own.cls, R.nb, rfl, (by show 2 ≤ sizeLine; decide), fun c hc => q c hc⟩
    | int hb =>
      refine ⟨_, rfl, _, .ref CR, _, _, false, rfl, .own CR, .base (.int _), R.own.ki, _, rfl, ?_⟩
      exact ⟨_, rfl, (by show 2 ≤ sizeLine; decide), fun c hc => q c hc⟩
structure RatOpP (CR : Addr) (g h : Int → Int → Int → Int → Int) (vs : List V) (H : Hp) (Q : VK) : Prop where
  ex : ∃ (a : Addr) (y : V) (t b t2 b2 : Int), vs = [.ref a, y] ∧ RatioAt CR H a t b ∧ RatV CR H y t2 b2 ∧ t.natAbs < 2 ^ 3000 ∧ b.natAbs < 2 ^ 3000 ∧ t2.natAbs < 2 ^ 3000 ∧ b2.natAbs < 2 ^ 3000 ∧ h t b t2 b2 ≠ 0 ∧
    ∀ (t' b' : Int) (x : Addr) (H' : Hp), LowT (g t b t2 b2) (h t b t2 b2) t' b' → H x = none → Same H H' → RatioAt CR H' x t' b' → Q (.ref x) H'
def spRatOp (CR : Addr) (g h : Int → Int → Int → Int → Int) : Sp := fun vs H Q _ => RatOpP CR g h vs H Q
theorem mul3000 {x y : Int} (hx : x.natAbs < 2 ^ 3000) (hy : y.natAbs < 2 ^ 3000) : (x * y).natAbs < 2 ^ 6000 := by
  rw [Int.natAbs_mul, show (6000 : Nat) = 3000 + 3000 from rfl, Nat.pow_add]
  exact Nat.mul_lt_mul'' hx hy
theorem mul8000 {x y : Int} (hx : x.natAbs < 2 ^ 3000) (hy : y.natAbs < 2 ^ 3000) : (x * y).natAbs < 2 ^ 8000 := Nat.lt_of_lt_of_le (mul3000 hx hy) (Nat.pow_le_pow_right (by decide) (by decide))
theorem ok_Ratio_add (F : FnD K "__add__" "Ratio.__add__" s_P_Ratio___add__ f fd) (R : RatioK K CR) (C_P_is_fraction : Cal P w K mg base 3 "is_fraction" ["value"] (spRatV CR (.bl true))) (C_P_terms_of : Cal P w K mg base 1 "terms_of" ["ratio"] (spTermsOf CR)) (C_P_made_ratio : Cal P w K mg base 5 "made_ratio" ["top", "bottom"] (spMadeRatio CR)) :
    FnOk P w K mg base CX0 6 f fd ["self", "other"] (spRatOp CR (fun t b t2 b2 => t * b2 + t2 * b) (fun _ b _ b2 => b * b2)) := by
  refine F.ok sc_P_Ratio___add__ (fun vs H Q E h => ?_) (fun cdv A outer s H vs Q E hr h => ?_)
  · obtain ⟨a, y, t, b, t2, b2, rfl, _⟩ := h.ex; rfl
  · obtain ⟨a, y, t, b, t2, b2, rfl, ⟨dx, ha⟩, hy, h1, h2, h3, h4, h5, q⟩ := h.ex
    refine ⟨_, PSs.nox (pss_cons (ps_if (pt_not (pt_val (pe_cal C_P_is_fraction (hr.mono (by decide)) (pa_cons (pv 1) pa_nil)))) (pss_one ps_never) pss_nil)
      (pss_cons (ps_asg (pe_cal C_P_terms_of (hr.mono (by decide)) (pa_cons (pv 1) pa_nil)) (pg_tup (by rfl) (pgs_cons (pg_name (i := 2) sc_P_Ratio___add__.nd rfl (Or.inl rfl)) (pgs_cons (pg_name (i := 3) sc_P_Ratio___add__.nd rfl (Or.inl rfl)) pgs_nil))))
      (pss_one (ps_ret (pe_cal C_P_made_ratio (hr.mono (by decide)) (pa_cons (pe_op op_add (pe_op op_mulW (pe_fld (pv 0) rfl) (pv 3)) (pe_op op_mulW (pv 2) (pe_fld (pv 0) rfl))) (pa_cons (pe_op op_mulW (pe_fld (pv 0) rfl) (pv 3)) pa_nil))))))), ?_⟩
    refine ⟨_, rfl, y, t2, b2, rfl, hy, _, rfl, ?_⟩
    refine ⟨_, rfl, y, t2, b2, rfl, hy, fun c hc => ⟨c, _, rfl, .inl (.inl upd_same), rfl, _, _, rfl, _, _, rfl, rfl, ?_⟩⟩
    have hac : (upd H c (.tup [.int t2, .int b2])) a = _ := (upd_ne (ne_of_none ha hc)).trans ha
    refine ⟨_, rfl, a, CR, dx, _, .int t, rfl, hac, R.own.cls, R.nt, rfl, _, rfl, _, _, rfl, rfl, CMulW.of h1 h4, _, rfl, _, rfl, a, CR, dx, _, .int b, rfl, hac, R.own.cls, R.nb, rfl, _, _, rfl, rfl, CMulW.of h3 h2, _, _, rfl, rfl, ?_⟩
    refine ⟨_, rfl, a, CR, dx, _, .int b, rfl, hac, R.own.cls, R.nb, rfl, _, rfl, _, _, rfl, rfl, CMulW.of h2 h4, ?_⟩
    exact ⟨_, _, rfl, h5, mul8000 h2 h4, fun t' b' x H' hl hx e hR => q t' b' x H' hl ((same_upd hc).free hx) ((same_upd hc).trans e) hR⟩
theorem ok_Ratio_sub (F : FnD K "__sub__" "Ratio.__sub__" s_P_Ratio___sub__ f fd) (R : RatioK K CR) (C_P_is_fraction : Cal P w K mg base 3 "is_fraction" ["value"] (spRatV CR (.bl true))) (C_P_terms_of : Cal P w K mg base 1 "terms_of" ["ratio"] (spTermsOf CR)) (C_P_made_ratio : Cal P w K mg base 5 "made_ratio" ["top", "bottom"] (spMadeRatio CR)) :
    FnOk P w K mg base CX0 6 f fd ["self", "other"] (spRatOp CR (fun t b t2 b2 => t * b2 - t2 * b) (fun _ b _ b2 => b * b2)) := by
  refine F.ok sc_P_Ratio___sub__ (fun vs H Q E h => ?_) (fun cdv A outer s H vs Q E hr h => ?_)
  · obtain ⟨a, y, t, b, t2, b2, rfl, _⟩ := h.ex; rfl
  · obtain ⟨a, y, t, b, t2, b2, rfl, ⟨dx, ha⟩, hy, h1, h2, h3, h4, h5, q⟩ := h.ex
    refine ⟨_, PSs.nox (pss_cons (ps_if (pt_not (pt_val (pe_cal C_P_is_fraction (hr.mono (by decide)) (pa_cons (pv 1) pa_nil)))) (pss_one ps_never) pss_nil)
      (pss_cons (ps_asg (pe_cal C_P_terms_of (hr.mono (by decide)) (pa_cons (pv 1) pa_nil)) (pg_tup (by rfl) (pgs_cons (pg_name (i := 2) sc_P_Ratio___sub__.nd rfl (Or.inl rfl)) (pgs_cons (pg_name (i := 3) sc_P_Ratio___sub__.nd rfl (Or.inl rfl)) pgs_nil))))
      (pss_one (ps_ret (pe_cal C_P_made_ratio (hr.mono (by decide)) (pa_cons (pe_op op_sub (pe_op op_mulW (pe_fld (pv 0) rfl) (pv 3)) (pe_op op_mulW (pv 2) (pe_fld (pv 0) rfl))) (pa_cons (pe_op op_mulW (pe_fld (pv 0) rfl) (pv 3)) pa_nil))))))), ?_⟩
    refine ⟨_, rfl, y, t2, b2, rfl, hy, _, rfl, ?_⟩
    refine ⟨_, rfl, y, t2, b2, rfl, hy, fun c hc => ⟨c, _, rfl, .inl (.inl upd_same), rfl, _, _, rfl, _, _, rfl, rfl, ?_⟩⟩
    have hac : (upd H c (.tup [.int t2, .int b2])) a = _ := (upd_ne (ne_of_none ha hc)).trans ha
    refine ⟨_, rfl, a, CR, dx, _, .int t, rfl, hac, R.own.cls, R.nt, rfl, _, rfl, _, _, rfl, rfl, CMulW.of h1 h4, _, rfl, _, rfl, a, CR, dx, _, .int b, rfl, hac, R.own.cls, R.nb, rfl, _, _, rfl, rfl, CMulW.of h3 h2, _, _, rfl, rfl, ?_⟩
    refine ⟨_, rfl, a, CR, dx, _, .int b, rfl, hac, R.own.cls, R.nb, rfl, _, rfl, _, _, rfl, rfl, CMulW.of h2 h4, ?_⟩
    exact ⟨_, _, rfl, h5, mul8000 h2 h4, fun t' b' x H' hl hx e hR => q t' b' x H' hl ((same_upd hc).free hx) ((same_upd hc).trans e) hR⟩
theorem ok_Ratio_mul (F : FnD K "__mul__" "Ratio.__mul__" s_P_Ratio___mul__ f fd) (R : RatioK K CR) (C_P_is_fraction : Cal P w K mg base 3 "is_fraction" ["value"] (spRatV CR (.bl true))) (C_P_terms_of : Cal P w K mg base 1 "terms_of" ["ratio"] (spTermsOf CR)) (C_P_made_ratio : Cal P w K mg base 5 "made_ratio" ["top", "bottom"] (spMadeRatio CR)) :
    FnOk P w K mg base CX0 6 f fd ["self", "other"] (spRatOp CR (fun t b t2 b2 => t * t2) (fun _ b _ b2 => b * b2)) := by
  refine F.ok sc_P_Ratio___mul__ (fun vs H Q E h => ?_) (fun cdv A outer s H vs Q E hr h => ?_)
  · obtain ⟨a, y, t, b, t2, b2, rfl, _⟩ := h.ex; rfl
  · obtain ⟨a, y, t, b, t2, b2, rfl, ⟨dx, ha⟩, hy, h1, h2, h3, h4, h5, q⟩ := h.ex
    refine ⟨_, PSs.nox (pss_cons (ps_if (pt_not (pt_val (pe_cal C_P_is_fraction (hr.mono (by decide)) (pa_cons (pv 1) pa_nil)))) (pss_one ps_never) pss_nil)
      (pss_cons (ps_asg (pe_cal C_P_terms_of (hr.mono (by decide)) (pa_cons (pv 1) pa_nil)) (pg_tup (by rfl) (pgs_cons (pg_name (i := 2) sc_P_Ratio___mul__.nd rfl (Or.inl rfl)) (pgs_cons (pg_name (i := 3) sc_P_Ratio___mul__.nd rfl (Or.inl rfl)) pgs_nil))))
      (pss_one (ps_ret (pe_cal C_P_made_ratio (hr.mono (by decide)) (pa_cons (pe_op op_mulW (pe_fld (pv 0) rfl) (pv 2)) (pa_cons (pe_op op_mulW (pe_fld (pv 0) rfl) (pv 3)) pa_nil))))))), ?_⟩
    refine ⟨_, rfl, y, t2, b2, rfl, hy, _, rfl, ?_⟩
    refine ⟨_, rfl, y, t2, b2, rfl, hy, fun c hc => ⟨c, _, rfl, .inl (.inl upd_same), rfl, _, _, rfl, _, _, rfl, rfl, ?_⟩⟩
    have hac : (upd H c (.tup [.int t2, .int b2])) a = _ := (upd_ne (ne_of_none ha hc)).trans ha
    refine ⟨_, rfl, a, CR, dx, _, .int t, rfl, hac, R.own.cls, R.nt, rfl, _, rfl, _, _, rfl, rfl, CMulW.of h1 h3, ?_⟩
    refine ⟨_, rfl, a, CR, dx, _, .int b, rfl, hac, R.own.cls, R.nb, rfl, _, rfl, _, _, rfl, rfl, CMulW.of h2 h4, ?_⟩
    exact ⟨_, _, rfl, h5, mul8000 h2 h4, fun t' b' x H' hl hx e hR => q t' b' x H' hl ((same_upd hc).free hx) ((same_upd hc).trans e) hR⟩
def spRatNeg (CR : Addr) : Sp := fun vs H Q _ => ∃ (a : Addr) (t b : Int), vs = [.ref a] ∧ RatioAt CR H a t b ∧ b ≠ 0 ∧ b.natAbs < 2 ^ 8000 ∧ ∀ (t' b' : Int) (x : Addr) (H' : Hp), LowT (-t) b t' b' → H x = none → Same H H' → RatioAt CR H' x t' b' → Q (.ref x) H'
theorem ok_Ratio_neg (F : FnD K "__neg__" "Ratio.__neg__" s_P_Ratio___neg__ f fd) (R : RatioK K CR) (C_P_made_ratio : Cal P w K mg base 5 "made_ratio" ["top", "bottom"] (spMadeRatio CR)) : FnOk P w K mg base CX0 6 f fd ["self"] (spRatNeg CR) := by
  refine F.ok sc_P_Ratio___neg__ (fun vs H Q E h => ?_) (fun cdv A outer s H vs Q E hr h => ?_)
  · obtain ⟨a, t, b, rfl, _⟩ := h; rfl
  · obtain ⟨a, t, b, rfl, ⟨dx, ha⟩, b0, bb, q⟩ := h
    refine ⟨_, PSs.nox (pss_one (ps_ret (pe_cal C_P_made_ratio (hr.mono (by decide)) (pa_cons (pe_un un_neg (pe_fld (pv 0) rfl)) (pa_cons (pe_fld (pv 0) rfl) pa_nil))))), ?_⟩
    exact ⟨_, rfl, a, CR, dx, _, .int t, rfl, ha, R.own.cls, R.nt, rfl, t, rfl, _, rfl, a, CR, dx, _, .int b, rfl, ha, R.own.cls, R.nb, rfl, -t, b, rfl, b0, bb, q⟩
def spRatBool (CR : Addr) : Sp := fun vs H Q _ => ∃ (a : Addr) (t b : Int), vs = [.ref a] ∧ RatioAt CR H a t b ∧ Q (.bl (t != 0)) H
theorem ok_Ratio_bool (F : FnD K "__bool__" "Ratio.__bool__" s_P_Ratio___bool__ f fd) (T : Glob mg) (R : RatioK K CR) : FnOk P w K mg base CX0 1 f fd ["self"] (spRatBool CR) := by
  refine F.ok sc_P_Ratio___bool__ (fun vs H Q E h => ?_) (fun cdv A outer s H vs Q E hr h => ?_)
  · obtain ⟨a, t, b, rfl, _⟩ := h; rfl
  · obtain ⟨a, t, b, rfl, ⟨dx, ha⟩, q⟩ := h
    refine ⟨_, PSs.nox (pss_one (ps_ret (pe_callTy call_bool1 (by rfl) T.m_bool (by decide +kernel) (pa_cons (pe_fld (pv 0) rfl) pa_nil)))), ?_⟩
    exact ⟨_, rfl, a, CR, dx, _, .int t, rfl, ha, R.own.cls, R.nt, rfl, .inl ⟨t, rfl, q⟩⟩
structure RatEqP (CR : Addr) (vs : List V) (H : Hp) (Q : VK) : Prop where
  ex : ∃ (a : Addr) (y : V) (t b t2 b2 : Int), vs = [.ref a, y] ∧ RatioAt CR H a t b ∧ RatV CR H y t2 b2 ∧ ∀ r : Bool, (r = true ↔ t = t2 ∧ b = b2) → Q (.bl r) H
def spRatEq (CR : Addr) : Sp := fun vs H Q _ => RatEqP CR vs H Q
theorem ok_Ratio_eq (F : FnD K "__eq__" "Ratio.__eq__" s_P_Ratio___eq__ f fd) (T : Glob mg) (R : RatioK K CR) (G_Ratio : mg "Ratio" = some (.ref CR)) (C_P_is_integer : Cal P w K mg base 1 "is_integer" ["value"] (spIsInt K)) : FnOk P w K mg base CX0 2 f fd ["self", "value"] (spRatEq CR) := by
  refine F.ok sc_P_Ratio___eq__ (fun vs H Q E h => ?_) (fun cdv A outer s H vs Q E hr h => ?_)
  · obtain ⟨a, y, t, b, t2, b2, rfl, _⟩ := h.ex; rfl
  · obtain ⟨a, y, t, b, t2, b2, rfl, ⟨dx, ha⟩, hy, q⟩ := h.ex
    refine ⟨_, PSs.nox (pss_cons (ps_if (pt_val (pe_callB call_isi (by rfl) T.m_isinstance (by decide +kernel) (pa_cons (pv 1) (pa_cons (pe_glob (v := .ref _) rfl G_Ratio rfl) pa_nil)))) (pss_one (ps_ret (pe_and (pe_cmp (pc_eqI (pe_fld (pv 0) rfl) (pe_fld (pv 1) rfl)) rfl) (pe_one (pe_cmp (pc_eqI (pe_fld (pv 0) rfl) (pe_fld (pv 1) rfl)) rfl))))) pss_nil)
      (pss_one (ps_ret (pe_and (pe_cal C_P_is_integer (hr.mono (by decide)) (pa_cons (pv 1) pa_nil)) (pe_and (pe_cmp (pc_eqI (pe_fld (pv 0) rfl) pe_int) rfl) (pe_one (pe_cmp (pc_eqI (pe_fld (pv 0) rfl) (pv 1)) rfl))))))), ?_⟩
    cases hy with
    | @rat a2 _ _ hy =>
      obtain ⟨dx2, hb⟩ := hy
      refine ⟨_, rfl, _, .ref CR, _, _, true, rfl, .own CR, R.own.ty ⟨dx2, _, hb⟩, R.own.kk, _, rfl, ?_⟩
      refine ⟨_, rfl, a, CR, dx, _, .int t, rfl, ha, R.own.cls, R.nt, rfl, _, rfl, a2, CR, dx2, _, .int t2, rfl, hb, R.own.cls, R.nt, rfl, _, _, rfl, rfl, _, rfl, ifd (fun h1 => ?_) (fun h1 => ?_)⟩
      · refine ⟨_, rfl, a, CR, dx, _, .int b, rfl, ha, R.own.cls, R.nb, rfl, _, rfl, a2, CR, dx2, _, .int b2, rfl, hb, R.own.cls, R.nb, rfl, _, _, rfl, rfl, ?_⟩
        refine q _ ?_
        rw [decide_eq_true_iff]
        exact ⟨fun h => ⟨h1, h⟩, fun h => h.2⟩
      · refine q _ ⟨fun h => ?_, fun h => absurd h.1 h1⟩
        exact Bool.noConfusion h
    | int hb =>
      refine ⟨_, rfl, _, .ref CR, _, _, false, rfl, .own CR, .base (.int _), R.own.ki, _, rfl, ?_⟩
      refine ⟨_, rfl, .int t2, true, rfl, .int t2, _, rfl, ?_⟩
      refine ⟨_, rfl, a, CR, dx, _, .int b, rfl, ha, R.own.cls, R.nb, rfl, _, _, rfl, rfl, _, rfl, ifd (fun h1 => ?_) (fun h1 => ?_)⟩
      · refine ⟨_, rfl, a, CR, dx, _, .int t, rfl, ha, R.own.cls, R.nt, rfl, _, rfl, _, _, rfl, rfl, ?_⟩
        refine q _ ?_
        rw [decide_eq_true_iff]
        exact ⟨fun h => ⟨h, h1⟩, fun h => h.1⟩
      · refine q _ ⟨fun h => ?_, fun h => absurd h.2 h1⟩
        exact Bool.noConfusion h
theorem ok_Ratio_over (F : FnD K "over" "Ratio.over" s_P_Ratio_over f fd) (R : RatioK K CR) (C_P_check_ratio : Cal P w K mg base 4 "check_ratio" ["value"] (spRatV CR .non)) (C_P_terms_of : Cal P w K mg base 1 "terms_of" ["ratio"] (spTermsOf CR)) (C_P_made_ratio : Cal P w K mg base 5 "made_ratio" ["top", "bottom"] (spMadeRatio CR)) :
    FnOk P w K mg base CX0 6 f fd ["self", "other"] (spRatOp CR (fun t _ _ b2 => t * b2) (fun _ b t2 _ => b * t2)) := by
  refine F.ok sc_P_Ratio_over (fun vs H Q E h => ?_) (fun cdv A outer s H vs Q E hr h => ?_)
  · obtain ⟨a, y, t, b, t2, b2, rfl, _⟩ := h.ex; rfl
  · obtain ⟨a, y, t, b, t2, b2, rfl, ⟨dx, ha⟩, hy, h1, h2, h3, h4, h5, q⟩ := h.ex
    refine ⟨_, PSs.nox (pss_cons (ps_expr (pe_cal C_P_check_ratio (hr.mono (by decide)) (pa_cons (pv 1) pa_nil)))
      (pss_cons (ps_asg (pe_cal C_P_terms_of (hr.mono (by decide)) (pa_cons (pv 1) pa_nil)) (pg_tup (by rfl) (pgs_cons (pg_name (i := 2) sc_P_Ratio_over.nd rfl (Or.inl rfl)) (pgs_cons (pg_name (i := 3) sc_P_Ratio_over.nd rfl (Or.inl rfl)) pgs_nil))))
      (pss_cons (ps_if (pt_cmp (pc_eqI (pv 2) pe_int)) (pss_one ps_never) pss_nil)
      (pss_one (ps_ret (pe_cal C_P_made_ratio (hr.mono (by decide)) (pa_cons (pe_op op_mulW (pe_fld (pv 0) rfl) (pv 3)) (pa_cons (pe_op op_mulW (pe_fld (pv 0) rfl) (pv 2)) pa_nil)))))))), ?_⟩
    refine ⟨_, rfl, y, t2, b2, rfl, hy, ?_⟩
    refine ⟨_, rfl, y, t2, b2, rfl, hy, fun c hc => ⟨c, _, rfl, .inl (.inl upd_same), rfl, _, _, rfl, _, _, rfl, rfl, ?_⟩⟩
    have hac : (upd H c (.tup [.int t2, .int b2])) a = _ := (upd_ne (ne_of_none ha hc)).trans ha
    refine ⟨_, rfl, _, _, rfl, rfl, _, rfl, ifd (fun z => absurd (by rw [z]; exact Int.mul_zero b) h5) (fun _ => ?_)⟩
    refine ⟨_, rfl, a, CR, dx, _, .int t, rfl, hac, R.own.cls, R.nt, rfl, _, rfl, _, _, rfl, rfl, CMulW.of h1 h4, _, rfl, a, CR, dx, _, .int b, rfl, hac, R.own.cls, R.nb, rfl, _, rfl, _, _, rfl, rfl, CMulW.of h2 h3, ?_⟩
    exact ⟨_, _, rfl, h5, mul8000 h2 h3, fun t' b' x H' hl hx e hR => q t' b' x H' hl ((same_upd hc).free hx) ((same_upd hc).trans e) hR⟩
end
end Sf

namespace Sf
open PySem PySem.Spec PyProof.Rows L2
/-- the product of the primes among places -/
def discOf : List Int → Int
  | [] => 1
  | p :: l => (if p > 0 then p else 1) * discOf l
theorem disc_snoc : ∀ (l : List Int) (p : Int), discOf (l ++ [p]) = discOf l * (if p > 0 then p else 1)
  | [], p => by show (if p > 0 then p else 1) * 1 = 1 * _; omega
  | x :: l, p => by
    show _ * discOf (l ++ [p]) = _ * discOf l * _
    rw [disc_snoc l p, Int.mul_assoc]
theorem disc_small : ∀ (l : List Int), (∀ p ∈ l, p ≤ 1000000000) → (discOf l).natAbs ≤ 1000000000 ^ l.length
  | [], _ => by show 1 ≤ _; exact Nat.le_refl _
  | x :: l, h => by
    have ih := disc_small l fun p hp => h p (List.mem_cons_of_mem _ hp)
    have hx := h x List.mem_cons_self
    show ((if x > 0 then x else 1) * discOf l).natAbs ≤ 1000000000 ^ (l.length + 1)
    rw [Int.natAbs_mul, Nat.pow_succ, Nat.mul_comm]
    refine Nat.mul_le_mul ih ?_
    split <;> omega
section
variable {P : Program} {w : World} {K : PySem.W.Frag} {mg : Str → Option Value} {base : Heap} {f : Addr} {fd : FuncData} {CR CA CF : Addr}
theorem int_of_map {l : List Int} {i : Nat} {v : V} (h : (l.map V.int)[i]? = some v) : ∃ z, l[i]? = some z ∧ v = V.int z := by
  rw [List.getElem?_map] at h
  cases e : l[i]? with
  | none => rw [e] at h; cases h
  | some z => rw [e] at h; exact ⟨z, rfl, (Option.some.inj h).symm⟩
def spDisc : Sp := fun vs H Q _ => ∃ (a : Addr) (l : List Int), vs = [.ref a] ∧ H a = some (.tup (l.map V.int)) ∧ l.length ≤ 62 ∧ (∀ p ∈ l, p ≤ 1000000000) ∧ Q (.int (discOf l)) H
theorem ok_product_of_primes (F : FnD K "product_of_primes" "product_of_primes" s_P_product_of_primes f fd) : FnOk P w K mg base CX0 1 f fd ["places"] spDisc := by
  refine F.ok sc_P_product_of_primes (fun vs H Q E h => ?_) (fun cdv A outer s H vs Q E hr h => ?_)
  · obtain ⟨a, l, rfl, _⟩ := h; rfl
  · obtain ⟨a, l, rfl, ha, hl, hp, q⟩ := h
    refine ⟨_, PSs.nox (pss_cons (ps_set (i := 1) sc_P_product_of_primes.nd rfl (Or.inl rfl) pe_int)
      (pss_cons (ps_for PassesOwn.never rfl (pi_tup (pv 0)) (pg_name (i := 2) sc_P_product_of_primes.nd rfl (Or.inl rfl)) (pss_one (ps_if (pt_cmp (pc_gt (pv 2) pe_int)) (pss_one (ps_set (i := 1) sc_P_product_of_primes.nd rfl (Or.inl rfl) (pe_op op_mulW (pv 1) (pv 2)))) pss_nil)))
      (pss_one (ps_ret (pv 1))))), ?_⟩
    have hT : SqT K H a (l.map V.int) := .inl (.inl ha)
    refine ⟨_, rfl, a, rfl, ⟨_, hT⟩, for_tup (K := K) (a := a) (xs := l.map V.int) (fun i σ H' => H = H' ∧ ∃ v, σ = [some (.ref a), some (.int (discOf (l.take i))), v]) ⟨rfl, none, rfl⟩ (fun i σ H' _ e => by rw [← e.1]; exact hT) ?_ ?_⟩
    · rintro i y σ _ hi ⟨rfl, v, rfl⟩
      obtain ⟨p, hpi, rfl⟩ := int_of_map hi
      have pm := List.mem_of_getElem? hpi
      have pb := hp p pm
      have et : discOf (l.take (i + 1)) = discOf (l.take i) * (if p > 0 then p else 1) := by
        rw [List.take_add_one, hpi, ← disc_snoc]
        rfl
      have sm := disc_small (l.take i) fun x hx => hp x (List.mem_of_mem_take hx)
      have sb : (discOf (l.take i)).natAbs < 2 ^ 3000 := by
        refine Nat.lt_of_le_of_lt (Nat.le_trans sm (Nat.pow_le_pow_right (by decide) (?_ : (l.take i).length ≤ 62))) (by decide +kernel)
        have := List.length_take_le' i l
        omega
      refine ⟨_, rfl, _, _, rfl, rfl, _, rfl, ifd (fun h => ?_) (fun h => ?_)⟩
      · rw [if_pos h] at et
        refine ⟨_, rfl, _, rfl, _, _, rfl, rfl, CMulW.of sb (lt3000s (by omega) (by omega)), rfl, some (.int p), ?_⟩
        rw [et]; rfl
      · rw [if_neg h, Int.mul_one] at et
        exact ⟨rfl, some (.int p), by rw [et]; rfl⟩
    · rintro σ _ ⟨rfl, v, rfl⟩
      rw [List.length_map, List.take_length]
      exact ⟨_, rfl, q⟩
/-- the algebra of two numbers -/
structure AlgAt (CA : Addr) (H : Hp) (x : Addr) (a b : Int) : Prop where
  ex : ∃ (dx pl : Addr) (l : List Int), H x = some (.ins CA dx [("places", .ref pl), ("a", .int a), ("b", .int b), ("discriminant", .int (discOf l)), ("is_tables", .bl (decide (l.length = 0))), ("is_definite", .bl (decide ((0 : Int) ∈ l)))]) ∧
    H pl = some (.tup (l.map V.int)) ∧ PlacesOf a b l ∧ a ≠ 0 ∧ b ≠ 0 ∧ a.natAbs ≤ 1000000000 ∧ b.natAbs ≤ 1000000000
theorem AlgAt.same {H H' : Hp} {x : Addr} {a b : Int} (h : AlgAt CA H x a b) (s : Same H H') : AlgAt CA H' x a b := by
  obtain ⟨dx, pl, l, h1, h2, h3⟩ := h.ex
  exact ⟨dx, pl, l, s _ _ h1, s _ _ h2, h3⟩
theorem AlgAt.ins {H : Hp} {x : Addr} {a b : Int} (h : AlgAt CA H x a b) : Ins H x CA := by
  obtain ⟨dx, pl, l, h1, _⟩ := h.ex
  exact ⟨dx, _, h1⟩
structure AlgK (K : PySem.W.Frag) (CA : Addr) : Prop where
  own : OwnK K CA
  n1 : NoAttr K CA "places"
  n2 : NoAttr K CA "a"
  n3 : NoAttr K CA "b"
  n4 : NoAttr K CA "discriminant"
  n5 : NoAttr K CA "is_tables"
  n6 : NoAttr K CA "is_definite"
structure AlgInitP (CA : Addr) (vs : List V) (H : Hp) (Q : VK) : Prop where
  ex : ∃ (x dx : Addr) (a b : Int), vs = [.ref x, .int a, .int b] ∧ a ≠ 0 ∧ b ≠ 0 ∧ a.natAbs ≤ 1000000000 ∧ b.natAbs ≤ 1000000000 ∧ H x = some (.ins CA dx []) ∧ ∀ H', Keep x H H' → AlgAt CA H' x a b → Q .non H'
def spAlgInit (CA : Addr) : Sp := fun vs H Q _ => AlgInitP CA vs H Q
theorem place_le {a b p : Int} {l : List Int} (h : PlacesOf a b l) (a0 : a ≠ 0) (b0 : b ≠ 0) (a1 : a.natAbs ≤ 1000000000) (b1 : b.natAbs ≤ 1000000000) (hp : p ∈ l) : p ≤ 1000000000 := by
  obtain ⟨g, n⟩ := (h.2 p).mp hp
  rcases g with e | g
  · omega
  · by_cases c : p = 2
    · omega
    · have dv : ∀ {n : Int}, n ≠ 0 → n % p = 0 → p ≤ n.natAbs := fun {n} n0 d => by
        obtain ⟨k, hk⟩ := Int.dvd_of_emod_eq_zero d
        have k0 : k ≠ 0 := fun z => n0 (by rw [hk, z, Int.mul_zero])
        have p2 := g.1
        have e : n.natAbs = p.natAbs * k.natAbs := by rw [hk]; exact Int.natAbs_mul _ _
        have : p.natAbs * 1 ≤ p.natAbs * k.natAbs := Nat.mul_le_mul_left _ (by omega)
        omega
      by_cases ca : a % p = 0
      · have := dv a0 ca
        omega
      · by_cases cb : b % p = 0
        · have := dv b0 cb
          omega
        · exact absurd (sign_far g c ca cb n) (by decide)
theorem ok_Algebra_init (F : FnD K "__init__" "Algebra.__init__" s_P_Algebra___init__ f fd) (T : Glob mg) (R : AlgK K CA) (C_P_signed_places : Cal P w K mg base 5 "signed_places" ["a", "b"] spPlaces) (C_P_product_of_primes : Cal P w K mg base 1 "product_of_primes" ["places"] spDisc) :
    FnOk P w K mg base CX0 6 f fd ["self", "a", "b"] (spAlgInit CA) := by
  refine F.ok sc_P_Algebra___init__ (fun vs H Q E h => ?_) (fun cdv A outer s H vs Q E hr h => ?_)
  · obtain ⟨x, dx, a, b, rfl, _⟩ := h.ex; rfl
  · obtain ⟨x, dx, a, b, rfl, a0, b0, a1, b1, hx, q⟩ := h.ex
    refine ⟨_, PSs.nox (pss_cons (ps_fld (pv 0) (pe_cal C_P_signed_places (hr.mono (by decide)) (pa_cons (pv 1) (pa_cons (pv 2) pa_nil))) rfl)
      (pss_cons (ps_fld (pv 0) (pv 1) rfl)
      (pss_cons (ps_fld (pv 0) (pv 2) rfl)
      (pss_cons (ps_fld (pv 0) (pe_cal C_P_product_of_primes (hr.mono (by decide)) (pa_cons (pe_fld (pv 0) rfl) pa_nil)) rfl)
      (pss_cons (ps_fld (pv 0) (pe_cmp (pc_eqI (pe_callB call_len_seq (by rfl) T.m_len (by decide +kernel) (pa_cons (pe_fld (pv 0) rfl) pa_nil)) pe_int) rfl) rfl)
      (pss_one (ps_fld (pv 0) (pe_cmpR op_in_seq pe_int (pe_fld (pv 0) rfl) (by rfl)) rfl))))))), ?_⟩
    refine ⟨_, rfl, _, rfl, ⟨a, b, rfl, a0, b0, a1, b1, fun l pl H1 hpl hll e1 hn hpl1 => ?_⟩⟩
    have hx1 := e1 _ _ hx
    have npx : pl ≠ x := fun z => by
      rw [z, hx] at hn
      cases hn
    refine ⟨_, rfl, x, CA, dx, _, rfl, hx1, R.own.cls, R.n1, by decide, ?_⟩
    refine ⟨_, rfl, _, rfl, x, CA, dx, _, rfl, upd_same, R.own.cls, R.n2, (by show 1 < 1000; decide), ?_⟩
    refine ⟨_, rfl, _, rfl, x, CA, dx, _, rfl, upd_same, R.own.cls, R.n3, (by show 2 < 1000; decide), ?_⟩
    refine ⟨_, rfl, x, CA, dx, _, .ref pl, rfl, upd_same, R.own.cls, R.n1, rfl, pl, l, rfl, by rw [upd_ne npx, upd_ne npx, upd_ne npx]; exact hpl1, hll, fun p hp => place_le hpl a0 b0 a1 b1 hp, ?_⟩
    refine ⟨_, rfl, x, CA, dx, _, rfl, upd_same, R.own.cls, R.n4, (by show 3 < 1000; decide), ?_⟩
    refine ⟨_, rfl, x, CA, dx, _, .ref pl, rfl, upd_same, R.own.cls, R.n1, rfl, pl, _, rfl, .inr (SqT.of (by rw [upd_ne npx, upd_ne npx, upd_ne npx, upd_ne npx]; exact hpl1)), _, _, rfl, rfl, ?_⟩
    refine ⟨_, rfl, x, CA, dx, _, rfl, upd_same, R.own.cls, R.n5, (by show 4 < 1000; decide), ?_⟩
    refine ⟨_, rfl, x, CA, dx, _, .ref pl, rfl, upd_same, R.own.cls, R.n1, rfl, pl, _, rfl, .inr (SqT.of (by rw [upd_ne npx, upd_ne npx, upd_ne npx, upd_ne npx, upd_ne npx]; exact hpl1)), rfl, all_flat _, ?_⟩
    refine ⟨_, rfl, x, CA, dx, _, rfl, upd_same, R.own.cls, R.n6, (by show 5 < 1000; decide), ?_⟩
    refine q _ (fun d o e n => ?_) ⟨⟨dx, pl, l, ?_, ?_, hpl, a0, b0, a1, b1⟩⟩
    · rw [upd_ne n, upd_ne n, upd_ne n, upd_ne n, upd_ne n, upd_ne n]
      exact e1 _ _ e
    · rw [upd_same, inV_ints]
      show some (HO.ins CA dx [("places", V.ref pl), ("a", V.int a), ("b", V.int b), ("discriminant", V.int (discOf l)), ("is_tables", V.bl (decide ((((l.map V.int).length : Nat) : Int) = 0))), ("is_definite", V.bl (decide ((0 : Int) ∈ l)))]) = _
      have e : decide ((((l.map V.int).length : Nat) : Int) = 0) = decide (l.length = 0) := by
        rw [List.length_map, Bool.eq_iff_iff, decide_eq_true_iff, decide_eq_true_iff]
        omega
      rw [e]
    · rw [upd_ne npx, upd_ne npx, upd_ne npx, upd_ne npx, upd_ne npx, upd_ne npx]
      exact hpl1
end
end Sf

namespace Sf
open PySem PySem.Spec PyProof.Rows L2
def gcd5 (a b c d e : Int) : Nat := (((a.natAbs.gcd b.natAbs).gcd c.natAbs).gcd d.natAbs).gcd e.natAbs
theorem gcd5_dvd (a b c d e : Int) : ((gcd5 a b c d e : Nat) : Int) ∣ a ∧ ((gcd5 a b c d e : Nat) : Int) ∣ b ∧ ((gcd5 a b c d e : Nat) : Int) ∣ c ∧ ((gcd5 a b c d e : Nat) : Int) ∣ d ∧ ((gcd5 a b c d e : Nat) : Int) ∣ e := by
  have h1 : gcd5 a b c d e ∣ (((a.natAbs.gcd b.natAbs).gcd c.natAbs).gcd d.natAbs) := Nat.gcd_dvd_left _ _
  have h2 := Nat.dvd_trans h1 (Nat.gcd_dvd_left _ _)
  have h3 := Nat.dvd_trans h2 (Nat.gcd_dvd_left _ _)
  have t : ∀ {g : Nat} {x : Int}, g ∣ x.natAbs → (g : Int) ∣ x := fun h => Int.natAbs_dvd_natAbs.mp h
  exact ⟨t (Nat.dvd_trans h3 (Nat.gcd_dvd_left _ _)), t (Nat.dvd_trans h3 (Nat.gcd_dvd_right _ _)), t (Nat.dvd_trans h2 (Nat.gcd_dvd_right _ _)), t (Nat.dvd_trans h1 (Nat.gcd_dvd_right _ _)), t (Nat.gcd_dvd_right _ _)⟩
/-- the entries and the bottom of a four -/
structure Q5 where
  w : Int
  x : Int
  y : Int
  z : Int
  d : Int
/-- the same four, in lowest terms -/
def Low5 (q r : Q5) : Prop := 0 < r.d ∧ q.w * r.d = r.w * q.d ∧ q.x * r.d = r.x * q.d ∧ q.y * r.d = r.y * q.d ∧ q.z * r.d = r.z * q.d ∧ gcd5 r.w r.x r.y r.z r.d = 1
def scl (q : Q5) (c : Int) : Q5 := ⟨q.w.fdiv c, q.x.fdiv c, q.y.fdiv c, q.z.fdiv c, q.d.fdiv c⟩
theorem low5_of {q : Q5} (hb : q.d ≠ 0) : ((gcd5 q.w q.x q.y q.z q.d : Nat) : Int) ≠ 0 ∧ Low5 q (scl q (if q.d < 0 then -((gcd5 q.w q.x q.y q.z q.d : Nat) : Int) else ((gcd5 q.w q.x q.y q.z q.d : Nat) : Int))) := by
  obtain ⟨w, x, y, z, d⟩ := q
  dsimp only at *
  have g0 : 0 < gcd5 w x y z d := Nat.gcd_pos_of_pos_right _ (by omega)
  obtain ⟨⟨w1, hw⟩, ⟨x1, hx⟩, ⟨y1, hy⟩, ⟨z1, hz⟩, ⟨d1, hd⟩⟩ := gcd5_dvd w x y z d
  refine ⟨by omega, ?_⟩
  have hc : gcd5 w1 x1 y1 z1 d1 = 1 := by
    have e : gcd5 w x y z d = gcd5 w x y z d * gcd5 w1 x1 y1 z1 d1 := by
      conv => lhs; unfold gcd5
      generalize hg : gcd5 w x y z d = g at *
      rw [hw, hx, hy, hz, hd, Int.natAbs_mul, Int.natAbs_mul, Int.natAbs_mul, Int.natAbs_mul, Int.natAbs_mul, Int.natAbs_natCast, Nat.gcd_mul_left, Nat.gcd_mul_left, Nat.gcd_mul_left, Nat.gcd_mul_left]
      rfl
    have : gcd5 w x y z d * 1 = gcd5 w x y z d * gcd5 w1 x1 y1 z1 d1 := by rw [Nat.mul_one]; exact e
    exact (Nat.eq_of_mul_eq_mul_left g0 this).symm
  generalize gcd5 w x y z d = g at *
  have gi : (0 : Int) < g := by omega
  by_cases c : d < 0
  · rw [if_pos c]
    have ng : ∀ {a b : Int}, a = (g : Int) * b → a.fdiv (-(g : Int)) = -b := fun {a b} e => by
      rw [show a = (-(g : Int)) * (-b) by rw [Int.neg_mul_neg]; exact e]
      exact Int.mul_fdiv_cancel_left _ (by omega)
    unfold scl Low5
    dsimp only
    rw [ng hw, ng hx, ng hy, ng hz, ng hd]
    refine ⟨?_, by rw [hw, hd]; grind, by rw [hx, hd]; grind, by rw [hy, hd]; grind, by rw [hz, hd]; grind, ?_⟩
    · by_cases v0 : 0 ≤ d1
      · have := Int.mul_nonneg (Int.le_of_lt gi) v0
        omega
      · omega
    · unfold gcd5 at hc ⊢
      rw [Int.natAbs_neg, Int.natAbs_neg, Int.natAbs_neg, Int.natAbs_neg, Int.natAbs_neg]
      exact hc
  · rw [if_neg c]
    have ng : ∀ {a b : Int}, a = (g : Int) * b → a.fdiv (g : Int) = b := fun {a b} e => by
      rw [e]
      exact Int.mul_fdiv_cancel_left _ (by omega)
    unfold scl Low5
    dsimp only
    rw [ng hw, ng hx, ng hy, ng hz, ng hd]
    refine ⟨?_, by rw [hw, hd]; grind, by rw [hx, hd]; grind, by rw [hy, hd]; grind, by rw [hz, hd]; grind, hc⟩
    by_cases v0 : d1 ≤ 0
    · have := Int.mul_nonneg (Int.le_of_lt gi) (show 0 ≤ -d1 by omega)
      rw [Int.mul_neg] at this
      omega
    · omega
def ents (q : Q5) : List V := [.int q.w, .int q.x, .int q.y, .int q.z]
section
variable {P : Program} {w : World} {K : PySem.W.Frag} {mg : Str → Option Value} {base : Heap} {f : Addr} {fd : FuncData} {CR CA CF : Addr}
structure LowEP (vs : List V) (H : Hp) (Q : VK) : Prop where
  ex : ∃ (e : Addr) (q : Q5), vs = [.ref e, .int q.d] ∧ H e = some (.tup (ents q)) ∧ q.d ≠ 0 ∧ q.d.natAbs < 2 ^ 8000 ∧ ∀ (r : Q5) (a b : Addr) (H' : Hp), Low5 q r → Same H H' → H a = none → H b = none → H' a = some (.tup [.ref b, .int r.d]) → H' b = some (.tup (ents r)) → Q (.ref a) H'
def spLowE : Sp := fun vs H Q _ => LowEP vs H Q
theorem ok_lowest_entries (F : FnD K "lowest_entries" "lowest_entries" s_P_lowest_entries f fd) (T : Glob mg) : FnOk P w K mg base CX0 1 f fd ["entries", "bottom"] spLowE := by
  refine F.ok sc_P_lowest_entries (fun vs H Q E h => ?_) (fun cdv A outer s H vs Q E hr h => ?_)
  · obtain ⟨e, q, rfl, _⟩ := h.ex; rfl
  · obtain ⟨e, q5, rfl, he, d0, db, q⟩ := h.ex
    refine ⟨_, PSs.nox (pss_cons (ps_asg (pv 0) (pg_tup (by rfl) (pgs_cons (pg_name (i := 2) sc_P_lowest_entries.nd rfl (Or.inl rfl)) (pgs_cons (pg_name (i := 3) sc_P_lowest_entries.nd rfl (Or.inl rfl)) (pgs_cons (pg_name (i := 4) sc_P_lowest_entries.nd rfl (Or.inl rfl)) (pgs_cons (pg_name (i := 5) sc_P_lowest_entries.nd rfl (Or.inl rfl)) pgs_nil))))))
      (pss_cons (ps_set (i := 6) sc_P_lowest_entries.nd rfl (Or.inl rfl) (pe_callGB cr_gcd5 (by rfl) T.m_gcd (pa_cons (pv 2) (pa_cons (pv 3) (pa_cons (pv 4) (pa_cons (pv 5) (pa_cons (pv 1) pa_nil)))))))
      (Evl.pss_cut (ps_if (pt_cmp (pc_lt (pv 1) pe_int)) (pss_one (ps_set (i := 6) sc_P_lowest_entries.nd rfl (Or.inl rfl) (pe_un un_neg (pv 6)))) pss_nil)
      (pss_one (ps_ret (pe_tup (pa_cons (pe_tup (pa_cons (pe_op op_fdivZ (pv 2) (pv 6)) (pa_cons (pe_op op_fdivZ (pv 3) (pv 6)) (pa_cons (pe_op op_fdivZ (pv 4) (pv 6)) (pa_cons (pe_op op_fdivZ (pv 5) (pv 6)) pa_nil))))) (pa_cons (pe_op op_fdivZ (pv 1) (pv 6)) pa_nil)))))))), ?_⟩
    obtain ⟨g0, hl⟩ := low5_of d0
    have gb : gcd5 q5.w q5.x q5.y q5.z q5.d < 2 ^ 8000 := Nat.lt_of_le_of_lt (Nat.le_of_dvd (by omega) (Nat.gcd_dvd_right _ _)) db
    refine ⟨_, rfl, e, _, rfl, .inl (.inl he), rfl, _, _, rfl, _, _, rfl, _, _, rfl, _, _, rfl, rfl, ?_⟩
    refine ⟨_, rfl, _, rfl, _, rfl, _, rfl, _, rfl, q5.w, q5.x, q5.y, q5.z, q5.d, rfl, ?_⟩
    have eg : ((((((q5.w.natAbs.gcd q5.x.natAbs).gcd q5.y.natAbs).gcd q5.z.natAbs).gcd q5.d.natAbs : Nat) : Int)) = ((gcd5 q5.w q5.x q5.y q5.z q5.d : Nat) : Int) := rfl
    rw [eg]
    generalize gcd5 q5.w q5.x q5.y q5.z q5.d = g at *
    refine ⟨fun σ' H' => σ' = [some (.ref e), some (.int q5.d), some (.int q5.w), some (.int q5.x), some (.int q5.y), some (.int q5.z), some (.int (if q5.d < 0 then -(g : Int) else (g : Int)))] ∧ H = H', ?_, ?_⟩
    · refine ⟨_, rfl, _, _, rfl, rfl, _, rfl, ifd (fun h => ?_) (fun h => ?_)⟩
      · rw [if_pos h]
        exact ⟨_, rfl, _, rfl, rfl, rfl⟩
      · rw [if_neg h]
        exact ⟨rfl, rfl⟩
    · rintro σ' _ ⟨rfl, rfl⟩
      have c0 : (if q5.d < 0 then -(g : Int) else (g : Int)) ≠ 0 := by split <;> omega
      have cb : (if q5.d < 0 then -(g : Int) else (g : Int)).natAbs < 2 ^ 8000 := by split <;> omega
      generalize (if q5.d < 0 then -(g : Int) else (g : Int)) = c at *
      have Z : ∀ i, CDivZ i c := fun i => CDivZ.of c0 cb
      refine ⟨_, rfl, _, rfl, _, _, rfl, rfl, Z _, _, rfl, _, rfl, _, _, rfl, rfl, Z _, _, rfl, _, rfl, _, _, rfl, rfl, Z _, _, rfl, _, rfl, _, _, rfl, rfl, Z _, (by show 4 ≤ sizeLine; decide), fun b hb => ?_⟩
      refine ⟨_, rfl, _, rfl, _, _, rfl, rfl, Z _, (by show 2 ≤ sizeLine; decide), fun a ha => ?_⟩
      have nab : b ≠ a := ne_of_none (H := upd H b _) upd_same ha
      have haH : H a = none := (same_upd hb).free ha
      exact q (scl q5 c) a b _ hl ((same_upd hb).trans (same_upd ha)) haH hb upd_same (by rw [upd_ne nab, upd_same]; rfl)
end
end Sf

namespace Sf
open PySem PySem.Spec PyProof.Rows L2
section
variable {P : Program} {w : World} {K : PySem.W.Frag} {mg : Str → Option Value} {base : Heap} {f : Addr} {fd : FuncData} {CR CA CF : Addr}
def spIsAlg (CA : Addr) : Sp := fun vs H Q _ => ∃ x a b, vs = [.ref x] ∧ AlgAt CA H x a b ∧ Q .non H
theorem ok_check_algebra (F : FnD K "check_algebra" "check_algebra" s_P_check_algebra f fd) (T : Glob mg) (R : AlgK K CA) (G_Algebra : mg "Algebra" = some (.ref CA)) : FnOk P w K mg base CX0 1 f fd ["value"] (spIsAlg CA) := by
  refine F.ok sc_P_check_algebra (fun vs H Q E h => ?_) (fun cdv A outer s H vs Q E hr h => ?_)
  · obtain ⟨x, a, b, rfl, _⟩ := h; rfl
  · obtain ⟨x, a, b, rfl, hx, q⟩ := h
    refine ⟨_, PSs.nox (pss_one (ps_if (pt_not (pt_val (pe_callB call_isi (by rfl) T.m_isinstance (by decide +kernel) (pa_cons (pv 0) (pa_cons (pe_glob (v := .ref _) rfl G_Algebra rfl) pa_nil))))) (pss_one ps_never) pss_nil)), ?_⟩
    exact ⟨_, rfl, _, .ref CA, _, _, true, rfl, .own CA, R.own.ty hx.ins, R.own.kk, _, rfl, q⟩
/-- w w - a x x - b y y + a b z z -/
def normT (a b : Int) (q : Q5) : Int := q.w * q.w - a * q.x * q.x - b * q.y * q.y + a * b * q.z * q.z
def Bd (n : Nat) (q : Q5) : Prop := q.w.natAbs < 2 ^ n ∧ q.x.natAbs < 2 ^ n ∧ q.y.natAbs < 2 ^ n ∧ q.z.natAbs < 2 ^ n ∧ q.d.natAbs < 2 ^ n
structure NormP (CR CA : Addr) (vs : List V) (H : Hp) (Q : VK) : Prop where
  ex : ∃ (al e : Addr) (a b : Int) (q : Q5), vs = [.ref al, .ref e, .int q.d] ∧ AlgAt CA H al a b ∧ H e = some (.tup (ents q)) ∧ q.d ≠ 0 ∧ Bd 3000 q ∧ ∀ (t' b' : Int) (x : Addr) (H' : Hp), LowT (normT a b q) (q.d * q.d) t' b' → H x = none → Same H H' → RatioAt CR H' x t' b' → Q (.ref x) H'
def spNorm (CR CA : Addr) : Sp := fun vs H Q _ => NormP CR CA vs H Q
theorem wmul {i j : Int} {m n : Nat} (h1 : i.natAbs < 2 ^ m) (h2 : j.natAbs < 2 ^ n) (m0 : 0 < m) (n0 : 0 < n) (hs : m + n ≤ 900000) : CMulW i j := by
  unfold CMulW
  have e1 : i.natAbs.log2 < m := PySem.Flt.log2_lt_of m0 h1
  have e2 : j.natAbs.log2 < n := PySem.Flt.log2_lt_of n0 h2
  omega
theorem ok_norm_of (F : FnD K "norm_of" "norm_of" s_P_norm_of f fd) (R : AlgK K CA) (C_P_made_ratio : Cal P w K mg base 5 "made_ratio" ["top", "bottom"] (spMadeRatio CR)) : FnOk P w K mg base CX0 6 f fd ["algebra", "entries", "bottom"] (spNorm CR CA) := by
  refine F.ok sc_P_norm_of (fun vs H Q E h => ?_) (fun cdv A outer s H vs Q E hr h => ?_)
  · obtain ⟨al, e, a, b, q, rfl, _⟩ := h.ex; rfl
  · obtain ⟨al, e, a, b, q5, rfl, hal, he, d0, ⟨b1, b2, b3, b4, b5⟩, q⟩ := h.ex
    refine ⟨_, PSs.nox (pss_cons (ps_asg (pv 1) (pg_tup (by rfl) (pgs_cons (pg_name (i := 3) sc_P_norm_of.nd rfl (Or.inl rfl)) (pgs_cons (pg_name (i := 4) sc_P_norm_of.nd rfl (Or.inl rfl)) (pgs_cons (pg_name (i := 5) sc_P_norm_of.nd rfl (Or.inl rfl)) (pgs_cons (pg_name (i := 6) sc_P_norm_of.nd rfl (Or.inl rfl)) pgs_nil))))))
      (pss_cons (ps_set (i := 7) sc_P_norm_of.nd rfl (Or.inl rfl) (pe_op op_add (pe_op op_sub (pe_op op_sub (pe_op op_mulW (pv 3) (pv 3)) (pe_op op_mulW (pe_op op_mulW (pe_fld (pv 0) rfl) (pv 4)) (pv 4))) (pe_op op_mulW (pe_op op_mulW (pe_fld (pv 0) rfl) (pv 5)) (pv 5))) (pe_op op_mulW (pe_op op_mulW (pe_op op_mulW (pe_fld (pv 0) rfl) (pe_fld (pv 0) rfl)) (pv 6)) (pv 6))))
      (pss_one (ps_ret (pe_cal C_P_made_ratio (hr.mono (by decide)) (pa_cons (pv 7) (pa_cons (pe_op op_mulW (pv 2) (pv 2)) pa_nil))))))), ?_⟩
    obtain ⟨dx, pl, l, hx, _, _, a0, b0, ab, bb⟩ := hal.ex
    have a3 : a.natAbs < 2 ^ 30 := by omega
    have b3' : b.natAbs < 2 ^ 30 := by omega
    have l2 : ∀ {i j : Int} {m n : Nat}, i.natAbs < 2 ^ m → j.natAbs < 2 ^ n → (i * j).natAbs < 2 ^ (m + n) := fun h1 h2 => wide_lt h1 h2
    refine ⟨_, rfl, e, _, rfl, .inl (.inl he), rfl, _, _, rfl, _, _, rfl, _, _, rfl, _, _, rfl, rfl, ?_⟩
    refine ⟨_, rfl, _, rfl, _, _, rfl, rfl, wmul b1 b1 (by decide) (by decide) (by decide), _, rfl, al, CA, dx, _, .int a, rfl, hx, R.own.cls, R.n2, rfl, _, rfl, _, _, rfl, rfl, wmul a3 b2 (by decide) (by decide) (by decide), _, rfl, _, _, rfl, rfl, wmul (l2 a3 b2) b2 (by decide) (by decide) (by decide), _, _, rfl, rfl, ?_⟩
    refine ⟨_, rfl, al, CA, dx, _, .int b, rfl, hx, R.own.cls, R.n3, rfl, _, rfl, _, _, rfl, rfl, wmul b3' b3 (by decide) (by decide) (by decide), _, rfl, _, _, rfl, rfl, wmul (l2 b3' b3) b3 (by decide) (by decide) (by decide), _, _, rfl, rfl, ?_⟩
    refine ⟨_, rfl, al, CA, dx, _, .int a, rfl, hx, R.own.cls, R.n2, rfl, _, rfl, al, CA, dx, _, .int b, rfl, hx, R.own.cls, R.n3, rfl, _, _, rfl, rfl, wmul a3 b3' (by decide) (by decide) (by decide), _, rfl, _, _, rfl, rfl, wmul (l2 a3 b3') b4 (by decide) (by decide) (by decide), _, rfl, _, _, rfl, rfl, wmul (l2 (l2 a3 b3') b4) b4 (by decide) (by decide) (by decide), _, _, rfl, rfl, ?_⟩
    refine ⟨_, rfl, _, rfl, _, rfl, _, _, rfl, rfl, wmul b5 b5 (by decide) (by decide) (by decide), ?_⟩
    refine ⟨_, _, rfl, Int.mul_ne_zero d0 d0, ?_, q⟩
    exact Nat.lt_of_lt_of_le (l2 b5 b5) (Nat.pow_le_pow_right (by decide) (by decide))
end
end Sf

namespace Sf
open PySem PySem.Spec PyProof.Rows L2
theorem cut_tail4 (a b c d : V) : cutV [a, b, c, d] (some 1) none = [b, c, d] := by
  unfold cutV
  show List.take (HT.sIx 4 4 none - HT.sIx 4 0 (some 1)) (List.drop (HT.sIx 4 0 (some 1)) [a, b, c, d]) = _
  rw [show HT.sIx 4 0 (some 1) = min 1 4 from HT.sIx_nat 4 0 1, HT.sIx_none]
  rfl
theorem eqv_tups' (a b : List Int) : PyData.eqv (.tuple (a.map PyData.int)) (.tuple (b.map PyData.int)) = decide (a = b) := by
  rw [← eqv_ints a b]
  unfold PyData.eqv
  rfl
section
variable {P : Program} {w : World} {K : PySem.W.Frag} {mg : Str → Option Value} {base : Heap} {f : Addr} {fd : FuncData} {CR CA CF : Addr}
def Pass60 (q : Q5) : Prop := q.w.natAbs < 10 ^ 60 ∧ q.x.natAbs < 10 ^ 60 ∧ q.y.natAbs < 10 ^ 60 ∧ q.z.natAbs < 10 ^ 60 ∧ q.d.natAbs < 10 ^ 60
def spPassE : Sp := fun vs H Q _ => ∃ (e : Addr) (q : Q5), vs = [.ref e] ∧ H e = some (.tup (ents q)) ∧ Pass60 q ∧ ∀ H', Same H H' → Q (.bl true) H'
theorem ok_is_passed_entries (F : FnD K "is_passed_entries" "is_passed_entries" s_P_is_passed_entries f fd) (T : Glob mg) (C_P_is_passed : Cal P w K mg base 2 "is_passed" ["value"] (spPassed K)) : FnOk P w K mg base CX0 3 f fd ["value"] spPassE := by
  refine F.ok sc_P_is_passed_entries (fun vs H Q E h => ?_) (fun cdv A outer s H vs Q E hr h => ?_)
  · obtain ⟨e, q, rfl, _⟩ := h; rfl
  · obtain ⟨e, q5, rfl, he, ⟨p1, p2, p3, p4, _⟩, q⟩ := h
    refine ⟨_, PSs.nox (pss_one (ps_ret (pe_and (pe_callB call_isi (by rfl) T.m_isinstance (by decide +kernel) (pa_cons (pv 0) (pa_cons (pe_bltn (v := .ty "tuple") (u := .type "tuple") (by rfl) T.m_tuple (by decide +kernel) rfl) pa_nil))) (pe_and (pe_cmp (pc_eqI (pe_callB call_len_seq (by rfl) T.m_len (by decide +kernel) (pa_cons (pv 0) pa_nil)) pe_int) rfl) (pe_one (pe_callB (cr_all rfl) (by rfl) T.m_all (by decide +kernel) (pa_cons (pe_lc rfl sc_P_is_passed_entries.nd (own := [("part", 1)]) (pi_tup (pv 0)) (blkOk_by (N := ["value", "part"]) (sc := defScope s_P_is_passed_entries) (by decide +kernel)) (fun _ _ _ _ _ => pg_name (i := 1) sc_P_is_passed_entries.nd rfl (Or.inl rfl)) (fun _ _ _ _ _ => pts_nil) (fun _ _ _ _ _ => (pe_cal C_P_is_passed (hr.mono (by decide)) (pa_cons (pv 1) pa_nil)))) pa_nil))))))), ?_⟩
    refine ⟨_, rfl, _, .ty "tuple", _, _, true, rfl, .ty "tuple", .base (.tup he), (by show kitB "tuple" "tuple" = some true; decide +kernel), _, rfl, ?_⟩
    refine ⟨_, rfl, e, _, rfl, .inr (SqT.of he), _, _, rfl, rfl, _, rfl, ?_⟩
    have hall : ∀ i v, (ents q5)[i]? = some v → ∃ n : Int, v = V.int n ∧ n.natAbs < 10 ^ 60 := fun i v h => by
      have hm := List.mem_of_getElem? h
      have cases : v = V.int q5.w ∨ v = V.int q5.x ∨ v = V.int q5.y ∨ v = V.int q5.z := by simpa [ents] using hm
      rcases cases with c | c | c | c
      · exact ⟨_, c, p1⟩
      · exact ⟨_, c, p2⟩
      · exact ⟨_, c, p3⟩
      · exact ⟨_, c, p4⟩
    refine ⟨_, rfl, e, rfl, ⟨_, SqT.of he⟩, fun D hD => lc_tup (K := K) (a := e) (xs := ents q5) (fun i H' => Same H H' ∧ H' D = some (.lst ((List.replicate i true).map V.bl))) ⟨same_upd hD, upd_same⟩ (fun i H' _ hp => SqT.of (hp.1 _ _ he)) (fun i v H' hv hp => ?_) (fun H' hp => ?_)⟩
    · obtain ⟨e1, hd⟩ := hp
      obtain ⟨n, rfl, hn⟩ := hall i v hv
      refine ⟨rfl, ?_⟩
      refine ⟨_, rfl, .int n, true, rfl, .int n, ⟨fun _ => ⟨n, rfl⟩, fun _ => rfl⟩, fun r hr2 => ?_⟩
      have e : r = true := hr2.mpr ⟨n, rfl, hn⟩
      subst e
      have il : i < 4 := (List.getElem?_eq_some_iff.mp hv).1
      refine ⟨_, hd, ?_, ?_, ?_⟩
      · rw [List.length_map, List.length_replicate]
        exact Nat.lt_of_lt_of_le il (by decide)
      · intro b o eb
        rw [upd_ne (ne_of_none eb hD)]
        exact e1 _ _ eb
      · rw [upd_same, List.replicate_succ', List.map_append]; rfl
    · obtain ⟨e1, hd⟩ := hp
      exact ⟨D, _, rfl, SqL.of hd, q _ e1⟩
/-- a four: its algebra, its entries and its bottom in lowest terms -/
structure FourAt (CF CR : Addr) (H : Hp) (x al : Addr) (a b : Int) (q : Q5) : Prop where
  ex : ∃ (dx e tr nm : Addr) (t1 t2 n1 n2 : Int), H x = some (.ins CF dx [("algebra", .ref al), ("entries", .ref e), ("bottom", .int q.d), ("trace", .ref tr), ("norm", .ref nm), ("is_ratio", .bl (decide (q.x = 0 ∧ q.y = 0 ∧ q.z = 0)))]) ∧
    H e = some (.tup (ents q)) ∧ RatioAt CR H tr t1 t2 ∧ LowT (2 * q.w) q.d t1 t2 ∧ RatioAt CR H nm n1 n2 ∧ LowT (normT a b q) (q.d * q.d) n1 n2
  pos : 0 < q.d
  low : gcd5 q.w q.x q.y q.z q.d = 1
theorem FourAt.same {H H' : Hp} {x al : Addr} {a b : Int} {q : Q5} (h : FourAt CF CR H x al a b q) (s : Same H H') : FourAt CF CR H' x al a b q := by
  obtain ⟨dx, e, tr, nm, t1, t2, n1, n2, h1, h2, h3, h4, h5, h6⟩ := h.ex
  exact ⟨⟨dx, e, tr, nm, t1, t2, n1, n2, s _ _ h1, s _ _ h2, h3.same s, h4, h5.same s, h6⟩, h.pos, h.low⟩
theorem FourAt.ins {H : Hp} {x al : Addr} {a b : Int} {q : Q5} (h : FourAt CF CR H x al a b q) : Ins H x CF := by
  obtain ⟨dx, e, tr, nm, t1, t2, n1, n2, h1, _⟩ := h.ex
  exact ⟨dx, _, h1⟩
structure FourK (K : PySem.W.Frag) (CF : Addr) : Prop where
  own : OwnK K CF
  n1 : NoAttr K CF "algebra"
  n2 : NoAttr K CF "entries"
  n3 : NoAttr K CF "bottom"
  n4 : NoAttr K CF "trace"
  n5 : NoAttr K CF "norm"
  n6 : NoAttr K CF "is_ratio"
structure FourInitP (CF CR CA : Addr) (vs : List V) (H : Hp) (Q : VK) : Prop where
  ex : ∃ (x dx al e : Addr) (a b : Int) (q : Q5), vs = [.ref x, .ref al, .ref e, .int q.d] ∧ AlgAt CA H al a b ∧ al ≠ x ∧ H e = some (.tup (ents q)) ∧ q.d ≠ 0 ∧ Pass60 q ∧ Bd 3000 q ∧ H x = some (.ins CF dx []) ∧ (∀ r, Low5 q r → Bd 3000 r) ∧
    ∀ (r : Q5) (H' : Hp), Low5 q r → Keep x H H' → FourAt CF CR H' x al a b r → Q .non H'
def spFourInit (CF CR CA : Addr) : Sp := fun vs H Q _ => FourInitP CF CR CA vs H Q
set_option maxHeartbeats 8000000 in
theorem ok_Four_init (F : FnDD K "__init__" "Four.__init__" s_P_Four___init__ [.int 1] f fd) (T : Glob mg) (R : FourK K CF) (C_P_check_algebra : Cal P w K mg base 1 "check_algebra" ["value"] (spIsAlg CA)) (C_P_is_passed_entries : Cal P w K mg base 3 "is_passed_entries" ["value"] spPassE)
    (C_P_is_passed : Cal P w K mg base 2 "is_passed" ["value"] (spPassed K)) (C_P_lowest_entries : Cal P w K mg base 1 "lowest_entries" ["entries", "bottom"] spLowE) (C_P_made_ratio : Cal P w K mg base 5 "made_ratio" ["top", "bottom"] (spMadeRatio CR)) (C_P_norm_of : Cal P w K mg base 6 "norm_of" ["algebra", "entries", "bottom"] (spNorm CR CA)) :
    FnOk P w K mg base CX0 7 f fd ["self", "algebra", "entries", "bottom"] (spFourInit CF CR CA) := by
  refine F.ok sc_P_Four___init__ (fun vs H Q E h => ?_) (fun cdv A outer s H vs Q E hr h => ?_)
  · obtain ⟨x, dx, al, e, a, b, q, rfl, _⟩ := h.ex; rfl
  · obtain ⟨x, dx, al, e, a, b, q5, rfl, hal, nax, he, d0, hp, bd, hx, hlow, q⟩ := h.ex
    refine ⟨_, PSs.nox (pss_cons (ps_expr (pe_cal C_P_check_algebra (hr.mono (by decide)) (pa_cons (pv 1) pa_nil)))
      (pss_cons (ps_if (pt_not (pt_val (pe_cal C_P_is_passed_entries (hr.mono (by decide)) (pa_cons (pv 2) pa_nil)))) (pss_one ps_never) pss_nil)
      (pss_cons (ps_if (PW.pt (pw_or (pt_not (pt_val (pe_cal C_P_is_passed (hr.mono (by decide)) (pa_cons (pv 3) pa_nil)))) (pw_or1 (pt_cmp (pc_eqI (pv 3) pe_int))))) (pss_one ps_never) pss_nil)
      (pss_cons (ps_fld (pv 0) (pv 1) rfl)
      (pss_cons (ps_asg (pe_cal C_P_lowest_entries (hr.mono (by decide)) (pa_cons (pv 2) (pa_cons (pv 3) pa_nil))) (pg_tup (by rfl) (pgs_cons (pg_attr (pv 0)) (pgs_cons (pg_attr (pv 0)) pgs_nil))))
      (pss_cons (ps_fld (pv 0) (pe_cal C_P_made_ratio (hr.mono (by decide)) (pa_cons (pe_op op_mulW pe_int (pe_ix ix_tup (pe_fld (pv 0) rfl) pe_int (fun _ _ => rfl))) (pa_cons (pe_fld (pv 0) rfl) pa_nil))) rfl)
      (pss_cons (ps_fld (pv 0) (pe_cal C_P_norm_of (hr.mono (by decide)) (pa_cons (pv 1) (pa_cons (pe_fld (pv 0) rfl) (pa_cons (pe_fld (pv 0) rfl) pa_nil)))) rfl)
      (pss_one (ps_fld (pv 0) (pe_cmpR (op_eqD hr.units) (pe_slice sl_tup (pe_fld (pv 0) rfl) (po_some pe_int) po_none) (pe_tup (pa_cons pe_int (pa_cons pe_int (pa_cons pe_int pa_nil)))) (nomark _)) rfl))))))))), ?_⟩
    refine ⟨_, rfl, al, a, b, rfl, hal, ?_⟩
    refine ⟨_, rfl, e, q5, rfl, he, hp, fun H1 e1 => ⟨_, rfl, ?_⟩⟩
    refine ⟨_, rfl, .int q5.d, true, rfl, .int _, ⟨fun _ => ⟨_, rfl⟩, fun _ => rfl⟩, fun r hr2 => ⟨_, rfl, ?_⟩⟩
    have er : r = true := hr2.mpr ⟨_, rfl, hp.2.2.2.2⟩
    subst er
    refine ⟨_, rfl, _, _, rfl, rfl, _, rfl, ifd (fun h => absurd h d0) (fun _ => ?_)⟩
    have hx1 := e1 _ _ hx
    have nex : e ≠ x := fun z => by rw [z, hx] at he; cases he
    have m0 : (0 : Int) < 1 := by decide
    refine ⟨_, rfl, _, rfl, x, CF, dx, _, rfl, hx1, R.own.cls, R.n1, by decide, ?_⟩
    refine ⟨_, rfl, _, rfl, ⟨e, q5, rfl, by rw [upd_ne nex]; exact e1 _ _ he, d0, Nat.lt_of_lt_of_le bd.2.2.2.2 (Nat.pow_le_pow_right (by decide) (by decide)), fun r5 c u H2 hl e2 hc hu hc2 hu2 => ?_⟩⟩
    have rp := hl.1
    have rb := hlow r5 hl
    have hx2 := e2 _ _ upd_same
    have ncx : c ≠ x := fun z => by rw [z, upd_same] at hc; cases hc
    have nux : u ≠ x := fun z => by rw [z, upd_same] at hu; cases hu
    have k2 : Keep x H H2 := ((Keep.same e1).trans Keep.upd).trans (Keep.same e2)
    -- the algebra stays while the object at x is filled
    have ka : ∀ {H' : Hp}, Keep x H H' → AlgAt CA H' al a b := fun {H'} k => by
      obtain ⟨d1, pl, l, g1, g2, g3⟩ := hal.ex
      refine ⟨d1, pl, l, k _ _ g1 nax, k _ _ g2 (fun z => ?_), g3⟩
      rw [z, hx] at g2
      cases g2
    refine ⟨c, _, rfl, .inl (.inl hc2), rfl, _, _, rfl, _, rfl, x, CF, dx, _, rfl, hx2, R.own.cls, R.n2, (by show 1 < 1000; decide), ?_⟩
    refine ⟨_, _, rfl, _, rfl, x, CF, dx, _, rfl, upd_same, R.own.cls, R.n3, (by show 2 < 1000; decide), rfl, ?_⟩
    have u3 : (upd (upd H2 x (.ins CF dx [("algebra", .ref al), ("entries", .ref u)])) x (.ins CF dx [("algebra", .ref al), ("entries", .ref u), ("bottom", .int r5.d)])) u = some (.tup (ents r5)) := by
      rw [upd_ne nux, upd_ne nux]
      exact hu2
    refine ⟨_, rfl, x, CF, dx, _, .ref u, rfl, upd_same, R.own.cls, R.n2, rfl, u, _, 0, .int r5.w, rfl, rfl, SqT.of u3, rfl, _, _, rfl, rfl, CMulW.of (lt3000s (by decide) (by decide)) rb.1, ?_⟩
    refine ⟨_, rfl, x, CF, dx, _, .int r5.d, rfl, upd_same, R.own.cls, R.n3, rfl, ?_⟩
    refine ⟨_, _, rfl, by omega, Nat.lt_of_lt_of_le rb.2.2.2.2 (Nat.pow_le_pow_right (by decide) (by decide)), fun t1 t2 tr H3 hlt htr e3 hR => ?_⟩
    have hx3 := e3 _ _ upd_same
    have ntx : tr ≠ x := fun z => by rw [z, upd_same] at htr; cases htr
    have k3 : Keep x H2 H3 := (Keep.upd.trans Keep.upd).trans (Keep.same e3)
    refine ⟨_, rfl, x, CF, dx, _, rfl, hx3, R.own.cls, R.n4, (by show 3 < 1000; decide), ?_⟩
    have k4 : Keep x H2 (upd H3 x (.ins CF dx [("algebra", .ref al), ("entries", .ref u), ("bottom", .int r5.d), ("trace", .ref tr)])) := k3.trans Keep.upd
    refine ⟨_, rfl, _, rfl, x, CF, dx, _, .ref u, rfl, upd_same, R.own.cls, R.n2, rfl, _, rfl, x, CF, dx, _, .int r5.d, rfl, upd_same, R.own.cls, R.n3, rfl, ?_⟩
    refine ⟨⟨al, u, a, b, r5, rfl, ka (k2.trans k4), k4 _ _ hu2 nux, by omega, rb, fun n1 n2 nm H4 hln hnm e4 hN => ?_⟩⟩
    have hx4 := e4 _ _ upd_same
    have nnx : nm ≠ x := fun z => by rw [z, upd_same] at hnm; cases hnm
    refine ⟨_, rfl, x, CF, dx, _, rfl, hx4, R.own.cls, R.n5, (by show 4 < 1000; decide), ?_⟩
    have k5 : Keep x H2 (upd H4 x (.ins CF dx [("algebra", .ref al), ("entries", .ref u), ("bottom", .int r5.d), ("trace", .ref tr), ("norm", .ref nm)])) := (k4.trans (Keep.same e4)).trans Keep.upd
    refine ⟨_, rfl, x, CF, dx, _, .ref u, rfl, upd_same, R.own.cls, R.n2, rfl, ?_⟩
    refine ⟨1, rfl, u, _, rfl, SqT.of (k5 _ _ hu2 nux), ?hc, fun p hp => ⟨(by show 3 ≤ sizeLine; decide), fun p2 hp2 => ?_⟩⟩
    case hc =>
      show ¬ (HT.sIx 4 0 (some 1) = 0 ∧ HT.sIx 4 4 none = 4)
      rw [show HT.sIx 4 0 (some 1) = min 1 4 from HT.sIx_nat 4 0 1]
      decide
    have npx : p ≠ x := fun z => by rw [z, upd_same] at hp; cases hp
    have np2x : p2 ≠ x := fun z => by rw [z, upd_ne npx.symm, upd_same] at hp2; cases hp2
    have npp : p ≠ p2 := ne_of_none upd_same hp2
    refine ⟨.tuple ([r5.x, r5.y, r5.z].map PyData.int), .tuple ([0, 0, 0].map PyData.int), dp_tup (ns := [r5.x, r5.y, r5.z]) (SqT.of ?_), dp_tup (ns := [0, 0, 0]) (SqT.of upd_same), shp_tup _, shp_tup _, ?_⟩
    · rw [upd_ne npp, upd_same]
      show some (HO.tup (cutV [V.int r5.w, V.int r5.x, V.int r5.y, V.int r5.z] (some 1) none)) = _
      rw [cut_tail4]
      rfl
    rw [eqv_tups']
    refine ⟨_, rfl, x, CF, dx, _, rfl, by rw [upd_ne np2x.symm, upd_ne npx.symm, upd_same], R.own.cls, R.n6, (by show 5 < 1000; decide), ?_⟩
    have k6 : Keep x H2 (upd (upd (upd (upd H4 x (.ins CF dx [("algebra", .ref al), ("entries", .ref u), ("bottom", .int r5.d), ("trace", .ref tr), ("norm", .ref nm)])) p (.tup (cutV (ents r5) (some 1) none))) p2 (.tup [.int 0, .int 0, .int 0])) x (.ins CF dx [("algebra", .ref al), ("entries", .ref u), ("bottom", .int r5.d), ("trace", .ref tr), ("norm", .ref nm), ("is_ratio", .bl (decide ([r5.x, r5.y, r5.z] = [0, 0, 0])))])) :=
      ((k5.trans (Keep.new hp)).trans (Keep.new hp2)).trans Keep.upd
    have k63 : Keep x H3 (upd (upd (upd (upd H4 x (.ins CF dx [("algebra", .ref al), ("entries", .ref u), ("bottom", .int r5.d), ("trace", .ref tr), ("norm", .ref nm)])) p (.tup (cutV (ents r5) (some 1) none))) p2 (.tup [.int 0, .int 0, .int 0])) x (.ins CF dx [("algebra", .ref al), ("entries", .ref u), ("bottom", .int r5.d), ("trace", .ref tr), ("norm", .ref nm), ("is_ratio", .bl (decide ([r5.x, r5.y, r5.z] = [0, 0, 0])))])) :=
      ((((Keep.upd.trans (Keep.same e4)).trans Keep.upd).trans (Keep.new hp)).trans (Keep.new hp2)).trans Keep.upd
    have k64 : Keep x H4 (upd (upd (upd (upd H4 x (.ins CF dx [("algebra", .ref al), ("entries", .ref u), ("bottom", .int r5.d), ("trace", .ref tr), ("norm", .ref nm)])) p (.tup (cutV (ents r5) (some 1) none))) p2 (.tup [.int 0, .int 0, .int 0])) x (.ins CF dx [("algebra", .ref al), ("entries", .ref u), ("bottom", .int r5.d), ("trace", .ref tr), ("norm", .ref nm), ("is_ratio", .bl (decide ([r5.x, r5.y, r5.z] = [0, 0, 0])))])) :=
      ((Keep.upd.trans (Keep.new hp)).trans (Keep.new hp2)).trans Keep.upd
    obtain ⟨dt, hR⟩ := hR
    obtain ⟨dn, hN⟩ := hN
    refine q r5 _ hl (k2.trans k6) ⟨⟨dx, u, tr, nm, t1, t2, n1, n2, ?_, k6 _ _ hu2 nux, ⟨dt, k63 _ _ hR ntx⟩, hlt, ⟨dn, k64 _ _ hN nnx⟩, hln⟩, hl.1, hl.2.2.2.2.2⟩
    rw [upd_same]
    show some (HO.ins CF dx [("algebra", V.ref al), ("entries", V.ref u), ("bottom", V.int r5.d), ("trace", V.ref tr), ("norm", V.ref nm), ("is_ratio", V.bl (decide ([r5.x, r5.y, r5.z] = [0, 0, 0])))]) = _
    have e : decide ([r5.x, r5.y, r5.z] = [0, 0, 0]) = decide (r5.x = 0 ∧ r5.y = 0 ∧ r5.z = 0) := by
      rw [Bool.eq_iff_iff, decide_eq_true_iff, decide_eq_true_iff]
      simp
    rw [e]
end
end Sf

namespace Sf
open PySem PySem.Spec PyProof.Rows L2
section
variable {P : Program} {w : World} {K : PySem.W.Frag} {mg : Str → Option Value} {base : Heap} {f : Addr} {fd : FuncData} {CR CA CF : Addr}
structure MadeFourP (CF CR CA : Addr) (vs : List V) (H : Hp) (Q : VK) : Prop where
  ex : ∃ (al e : Addr) (a b : Int) (q : Q5), vs = [.ref al, .ref e, .int q.d] ∧ AlgAt CA H al a b ∧ H e = some (.tup (ents q)) ∧ q.d ≠ 0 ∧ q.d.natAbs < 2 ^ 8000 ∧ (∀ r, Low5 q r → Bd 3000 r) ∧
    ∀ (r : Q5) (x : Addr) (H' : Hp), Low5 q r → H x = none → Same H H' → FourAt CF CR H' x al a b r → Q (.ref x) H'
def spMadeFour (CF CR CA : Addr) : Sp := fun vs H Q _ => MadeFourP CF CR CA vs H Q
theorem zero_low {r : Q5} (h : Low5 ⟨0, 0, 0, 0, 1⟩ r) : r = ⟨0, 0, 0, 0, 1⟩ := by
  obtain ⟨h0, h1, h2, h3, h4, h5⟩ := h
  obtain ⟨w, x, y, z, d⟩ := r
  dsimp only at *
  have e1 : w = 0 := by omega
  have e2 : x = 0 := by omega
  have e3 : y = 0 := by omega
  have e4 : z = 0 := by omega
  subst e1 e2 e3 e4
  have e5 : d.natAbs = 1 := by
    unfold gcd5 at h5
    simpa using h5
  have e6 : d = 1 := by omega
  rw [e6]
set_option maxHeartbeats 8000000 in
theorem ok_made_four (F : FnD K "made_four" "made_four" s_P_made_four f fd) (R : FourK K CF) (C_P_lowest_entries : Cal P w K mg base 1 "lowest_entries" ["entries", "bottom"] spLowE) (N_Four_2 : CalC P w K mg base 7 "Four" CF ["self", "algebra", "entries", "bottom"] [.int 1] (spFourInit CF CR CA))
    (C_P_made_ratio : Cal P w K mg base 5 "made_ratio" ["top", "bottom"] (spMadeRatio CR)) (C_P_norm_of : Cal P w K mg base 6 "norm_of" ["algebra", "entries", "bottom"] (spNorm CR CA)) :
    FnOk P w K mg base CX0 9 f fd ["algebra", "entries", "bottom"] (spMadeFour CF CR CA) := by
  refine F.ok sc_P_made_four (fun vs H Q E h => ?_) (fun cdv A outer s H vs Q E hr h => ?_)
  · obtain ⟨al, e, a, b, q, rfl, _⟩ := h.ex; rfl
  · obtain ⟨al, e, a, b, q5, rfl, hal, he, d0, db, hlow, q⟩ := h.ex
    refine ⟨_, PSs.nox (pss_cons (ps_set (i := 3) sc_P_made_four.nd rfl (Or.inl rfl) (pe_cal C_P_lowest_entries (hr.mono (by decide)) (pa_cons (pv 1) (pa_cons (pv 2) pa_nil))))
      (pss_cons (ps_set (i := 4) sc_P_made_four.nd rfl (Or.inl rfl) (pe_new N_Four_2 (hr.mono (by decide)) (pa_cons (pv 0) (pa_cons (pe_tup (pa_cons pe_int (pa_cons pe_int (pa_cons pe_int (pa_cons pe_int pa_nil))))) pa_nil))))
      (pss_cons (ps_fld (pv 4) (pe_ix ix_tup (pv 3) pe_int (fun _ _ => rfl)) rfl)
      (pss_cons (ps_fld (pv 4) (pe_ix ix_tup (pv 3) pe_int (fun _ _ => rfl)) rfl)
      (pss_cons (ps_fld (pv 4) (pe_cal C_P_made_ratio (hr.mono (by decide)) (pa_cons (pe_op op_mulW pe_int (pe_ix ix_tup (pe_ix ix_tup (pv 3) pe_int (fun _ _ => rfl)) pe_int (fun _ _ => rfl))) (pa_cons (pe_ix ix_tup (pv 3) pe_int (fun _ _ => rfl)) pa_nil))) rfl)
      (pss_cons (ps_fld (pv 4) (pe_cal C_P_norm_of (hr.mono (by decide)) (pa_cons (pv 0) (pa_cons (pe_ix ix_tup (pv 3) pe_int (fun _ _ => rfl)) (pa_cons (pe_ix ix_tup (pv 3) pe_int (fun _ _ => rfl)) pa_nil)))) rfl)
      (pss_cons (ps_fld (pv 4) (pe_cmpR (op_eqD hr.units) (pe_slice sl_tup (pe_ix ix_tup (pv 3) pe_int (fun _ _ => rfl)) (po_some pe_int) po_none) (pe_tup (pa_cons pe_int (pa_cons pe_int (pa_cons pe_int pa_nil)))) (nomark _)) rfl)
      (pss_one (ps_ret (pv 4)))))))))), ?_⟩
    refine ⟨_, rfl, _, rfl, ⟨e, q5, rfl, he, d0, db, fun r5 c u H2 hl e2 hc hu hc2 hu2 => ?_⟩⟩
    have rp := hl.1
    have rb := hlow r5 hl
    have ncu : c ≠ u := fun z => by
      rw [z, hu2] at hc2
      have := congrArg (fun o => match o with | some (HO.tup l) => l.length | _ => 0) hc2
      exact absurd (show (4 : Nat) = 2 from this) (by decide)
    refine ⟨_, rfl, (by show 4 ≤ sizeLine; decide), fun z4 hz4 => ?_⟩
    have e3 := e2.trans (same_upd (o := .tup [.int 0, .int 0, .int 0, .int 0]) hz4)
    refine fun x dx hx hdx nd => ?_
    have e4 : Same (upd H2 z4 (.tup [.int 0, .int 0, .int 0, .int 0])) (upd (upd (upd H2 z4 (.tup [.int 0, .int 0, .int 0, .int 0])) dx (.own x)) x (.ins CF dx [])) := (same_upd hdx).trans (same_upd (by rw [upd_ne nd.symm]; exact hx))
    have nax : al ≠ x := fun z => by
      obtain ⟨d1, pl, l, g1, _⟩ := ((hal.same e3)).ex
      rw [z, hx] at g1
      cases g1
    refine ⟨x, dx, al, z4, a, b, ⟨0, 0, 0, 0, 1⟩, rfl, (hal.same e3).same e4, nax, e4 _ _ upd_same, by decide, ⟨by decide +kernel, by decide +kernel, by decide +kernel, by decide +kernel, by decide +kernel⟩, ⟨by decide +kernel, by decide +kernel, by decide +kernel, by decide +kernel, by decide +kernel⟩, upd_same, fun r hr => by rw [zero_low hr]; exact ⟨by decide +kernel, by decide +kernel, by decide +kernel, by decide +kernel, by decide +kernel⟩, fun r1 H3 _ k3 hF => ⟨rfl, ?_⟩⟩
    obtain ⟨dx2, e1, tr1, nm1, t1, t2, n1, n2, g1, _⟩ := hF.ex
    have hxH : H x = none := e3.free hx
    have kx : Keep x (upd H2 z4 (.tup [.int 0, .int 0, .int 0, .int 0])) H3 := (Keep.same e4).trans k3
    have kH2 : Keep x H2 H3 := (Keep.new hz4).trans kx
    have kH : Keep x H H3 := (Keep.same e2).trans kH2
    have nux : u ≠ x := fun z => by
      have := same_upd (o := .tup [.int 0, .int 0, .int 0, .int 0]) hz4 _ _ hu2
      rw [z, hx] at this
      cases this
    have ncx : c ≠ x := fun z => by
      have := same_upd (o := .tup [.int 0, .int 0, .int 0, .int 0]) hz4 _ _ hc2
      rw [z, hx] at this
      cases this
    have hc3 := kH2 _ _ hc2 ncx
    have hu3 := kH2 _ _ hu2 nux
    have cT : ∀ {G : Hp}, Keep x H3 G → SqT K G c [.ref u, .int r5.d] := fun {G} k => SqT.of (k _ _ hc3 ncx)
    have uT : ∀ {G : Hp}, Keep x H3 G → SqT K G u (ents r5) := fun {G} k => SqT.of (k _ _ hu3 nux)
    have ka : ∀ {G : Hp}, Keep x H3 G → AlgAt CA G al a b := fun {G} k => by
      obtain ⟨d1, pl, l, y1, y2, y3⟩ := hal.ex
      refine ⟨d1, pl, l, (kH.trans k) _ _ y1 nax, (kH.trans k) _ _ y2 (fun z => ?_), y3⟩
      rw [z, hxH] at y2
      cases y2
    have k0 := Keep.refl x H3
    refine ⟨_, rfl, c, _, 0, .ref u, rfl, rfl, cT k0, rfl, _, rfl, x, CF, dx2, _, rfl, g1, R.own.cls, R.n2, (by show 6 < 1000; decide), ?_⟩
    refine ⟨_, rfl, c, _, 1, .int r5.d, rfl, rfl, cT (k0.trans Keep.upd), rfl, _, rfl, x, CF, dx2, _, rfl, upd_same, R.own.cls, R.n3, (by show 6 < 1000; decide), ?_⟩
    refine ⟨_, rfl, c, _, 0, .ref u, rfl, rfl, cT ((k0.trans Keep.upd).trans Keep.upd), rfl, u, _, 0, .int r5.w, rfl, rfl, uT ((k0.trans Keep.upd).trans Keep.upd), rfl, _, _, rfl, rfl, CMulW.of (lt3000s (by decide) (by decide)) rb.1, ?_⟩
    refine ⟨_, rfl, c, _, 1, .int r5.d, rfl, rfl, cT ((k0.trans Keep.upd).trans Keep.upd), rfl, ?_⟩
    refine ⟨_, _, rfl, by omega, Nat.lt_of_lt_of_le rb.2.2.2.2 (Nat.pow_le_pow_right (by decide) (by decide)), fun s1 s2 tr H4 hlt htr f3 hR => ?_⟩
    have k1 : Keep x H3 H4 := ((k0.trans Keep.upd).trans Keep.upd).trans (Keep.same f3)
    have hx4 := f3 _ _ upd_same
    have ntx : tr ≠ x := fun z => by rw [z, upd_same] at htr; cases htr
    refine ⟨_, rfl, x, CF, dx2, _, rfl, hx4, R.own.cls, R.n4, (by show 6 < 1000; decide), ?_⟩
    have k2 := k1.trans (Keep.upd (p := x) (o := .ins CF dx2 [("algebra", .ref al), ("entries", .ref u), ("bottom", .int r5.d), ("trace", .ref tr), ("norm", .ref nm1), ("is_ratio", .bl (decide (r1.x = 0 ∧ r1.y = 0 ∧ r1.z = 0)))]))
    refine ⟨_, rfl, _, rfl, c, _, 0, .ref u, rfl, rfl, cT k2, rfl, _, rfl, c, _, 1, .int r5.d, rfl, rfl, cT k2, rfl, ?_⟩
    refine ⟨⟨al, u, a, b, r5, rfl, ka k2, k2 _ _ hu3 nux, by omega, rb, fun m1 m2 nm H5 hln hnm f4 hN => ?_⟩⟩
    have hx5 := f4 _ _ upd_same
    have nnx : nm ≠ x := fun z => by rw [z, upd_same] at hnm; cases hnm
    refine ⟨_, rfl, x, CF, dx2, _, rfl, hx5, R.own.cls, R.n5, (by show 6 < 1000; decide), ?_⟩
    have k3' := (k2.trans (Keep.same f4)).trans (Keep.upd (p := x) (o := .ins CF dx2 [("algebra", .ref al), ("entries", .ref u), ("bottom", .int r5.d), ("trace", .ref tr), ("norm", .ref nm), ("is_ratio", .bl (decide (r1.x = 0 ∧ r1.y = 0 ∧ r1.z = 0)))]))
    refine ⟨_, rfl, c, _, 0, .ref u, rfl, rfl, cT k3', rfl, 1, rfl, u, _, rfl, uT k3', ?hc, fun p hp => ⟨(by show 3 ≤ sizeLine; decide), fun p2 hp2 => ?_⟩⟩
    case hc =>
      show ¬ (HT.sIx 4 0 (some 1) = 0 ∧ HT.sIx 4 4 none = 4)
      rw [show HT.sIx 4 0 (some 1) = min 1 4 from HT.sIx_nat 4 0 1]
      decide
    have npx : p ≠ x := fun z => by rw [z, upd_same] at hp; cases hp
    have np2x : p2 ≠ x := fun z => by rw [z, upd_ne npx.symm, upd_same] at hp2; cases hp2
    have npp : p ≠ p2 := ne_of_none upd_same hp2
    refine ⟨.tuple ([r5.x, r5.y, r5.z].map PyData.int), .tuple ([0, 0, 0].map PyData.int), dp_tup (ns := [r5.x, r5.y, r5.z]) (SqT.of ?_), dp_tup (ns := [0, 0, 0]) (SqT.of upd_same), shp_tup _, shp_tup _, ?_⟩
    · rw [upd_ne npp, upd_same]
      show some (HO.tup (cutV [V.int r5.w, V.int r5.x, V.int r5.y, V.int r5.z] (some 1) none)) = _
      rw [cut_tail4]
      rfl
    rw [eqv_tups']
    refine ⟨_, rfl, x, CF, dx2, _, rfl, by rw [upd_ne np2x.symm, upd_ne npx.symm, upd_same], R.own.cls, R.n6, (by show 6 < 1000; decide), ?_⟩
    have hk : ∀ {G : Hp} {o : HO}, Keep x G (upd H5 x (.ins CF dx2 [("algebra", .ref al), ("entries", .ref u), ("bottom", .int r5.d), ("trace", .ref tr), ("norm", .ref nm), ("is_ratio", .bl (decide (r1.x = 0 ∧ r1.y = 0 ∧ r1.z = 0)))])) → Keep x G (upd (upd (upd (upd H5 x (.ins CF dx2 [("algebra", .ref al), ("entries", .ref u), ("bottom", .int r5.d), ("trace", .ref tr), ("norm", .ref nm), ("is_ratio", .bl (decide (r1.x = 0 ∧ r1.y = 0 ∧ r1.z = 0)))])) p (.tup (cutV (ents r5) (some 1) none))) p2 (.tup [.int 0, .int 0, .int 0])) x o) :=
      fun k => ((k.trans (Keep.new hp)).trans (Keep.new hp2)).trans Keep.upd
    obtain ⟨dt, hR⟩ := hR
    obtain ⟨dn, hN⟩ := hN
    have q4 : Keep x H4 (upd H5 x (.ins CF dx2 [("algebra", .ref al), ("entries", .ref u), ("bottom", .int r5.d), ("trace", .ref tr), ("norm", .ref nm), ("is_ratio", .bl (decide (r1.x = 0 ∧ r1.y = 0 ∧ r1.z = 0)))])) := (Keep.upd.trans (Keep.same f4)).trans Keep.upd
    refine ⟨_, rfl, q r5 x _ hl hxH (fun d o e => hk (kH.trans k3') _ _ e (ne_of_none e hxH)) ⟨⟨dx2, u, tr, nm, s1, s2, m1, m2, ?_, hk k3' _ _ hu3 nux, ⟨dt, hk q4 _ _ hR ntx⟩, hlt, ⟨dn, hk Keep.upd _ _ hN nnx⟩, hln⟩, hl.1, hl.2.2.2.2.2⟩⟩
    rw [upd_same]
    have e : decide ([r5.x, r5.y, r5.z] = [0, 0, 0]) = decide (r5.x = 0 ∧ r5.y = 0 ∧ r5.z = 0) := by
      rw [Bool.eq_iff_iff, decide_eq_true_iff, decide_eq_true_iff]
      simp
    rw [e]
    rfl
end
end Sf

namespace Sf
open PySem PySem.Spec PyProof.Rows L2
section
variable {P : Program} {w : World} {K : PySem.W.Frag} {mg : Str → Option Value} {base : Heap} {f : Addr} {fd : FuncData} {CR CA CF : Addr}
/-- == of two algebras that are told by equal numbers, or of one -/
def spAlgEq (CA : Addr) : Sp := fun vs H Q _ => ∃ (x y : Addr) (a b c d : Int), vs = [.ref x, .ref y] ∧ AlgAt CA H x a b ∧ AlgAt CA H y c d ∧ ∃ k : Bool, (k = true ↔ a = c ∧ b = d) ∧ Q (.bl k) H
theorem ok_Algebra_eq (F : FnD K "__eq__" "Algebra.__eq__" s_P_Algebra___eq__ f fd) (T : Glob mg) (R : AlgK K CA) (G_Algebra : mg "Algebra" = some (.ref CA)) : FnOk P w K mg base CX0 1 f fd ["self", "value"] (spAlgEq CA) := by
  refine F.ok sc_P_Algebra___eq__ (fun vs H Q E h => ?_) (fun cdv A outer s H vs Q E hr h => ?_)
  · obtain ⟨x, y, a, b, c, d, rfl, _⟩ := h; rfl
  · obtain ⟨x, y, a, b, c, d, rfl, hx, hy, k, hk, q⟩ := h
    refine ⟨_, PSs.nox (pss_one (ps_ret (pe_and (pe_callB call_isi (by rfl) T.m_isinstance (by decide +kernel) (pa_cons (pv 1) (pa_cons (pe_glob (v := .ref _) rfl G_Algebra rfl) pa_nil))) (pe_and (pe_cmp (pc_eqI (pe_fld (pv 0) rfl) (pe_fld (pv 1) rfl)) rfl) (pe_one (pe_cmp (pc_eqI (pe_fld (pv 0) rfl) (pe_fld (pv 1) rfl)) rfl)))))), ?_⟩
    obtain ⟨dx, p1, l1, h1, _⟩ := hx.ex
    obtain ⟨dy, p2, l2, h2, _⟩ := hy.ex
    refine ⟨_, rfl, _, .ref CA, _, _, true, rfl, .own CA, R.own.ty hy.ins, R.own.kk, _, rfl, ?_⟩
    have kf : ∀ {z : Bool}, (z = true ↔ a = c ∧ b = d) → z = k := fun {z} h => Bool.eq_iff_iff.mpr (h.trans hk.symm)
    refine ⟨_, rfl, x, CA, dx, _, .int a, rfl, h1, R.own.cls, R.n2, rfl, _, rfl, y, CA, dy, _, .int c, rfl, h2, R.own.cls, R.n2, rfl, _, _, rfl, rfl, _, rfl, ifd (fun e => ?_) (fun e => ?_)⟩
    · refine ⟨_, rfl, x, CA, dx, _, .int b, rfl, h1, R.own.cls, R.n3, rfl, _, rfl, y, CA, dy, _, .int d, rfl, h2, R.own.cls, R.n3, rfl, _, _, rfl, rfl, ?_⟩
      have z := kf (z := decide (b = d)) (by rw [decide_eq_true_iff]; exact ⟨fun h => ⟨e, h⟩, fun h => h.2⟩)
      show Q (.bl (decide (b = d))) H
      rw [z]
      exact q
    · have z := kf (z := false) ⟨fun h => Bool.noConfusion h, fun h => absurd h.1 e⟩
      show Q (.bl false) H
      rw [z]
      exact q
/-- two fours of one algebra -/
def spOperands (CF CR CA : Addr) : Sp := fun vs H Q _ => ∃ (x y al be : Addr) (a b : Int) (q r : Q5), vs = [.ref x, .ref y] ∧ FourAt CF CR H x al a b q ∧ FourAt CF CR H y be a b r ∧ AlgAt CA H al a b ∧ AlgAt CA H be a b ∧ Q .non H
theorem ok_check_operands (F : FnD K "check_operands" "check_operands" s_P_check_operands f fd) (R : FourK K CF) (O_Algebra : OwnK K CA) (M_Algebra_eq : CalM P w K mg base 1 "__eq__" CA ["self", "value"] (spAlgEq CA)) : FnOk P w K mg base CX0 3 f fd ["one", "other"] (spOperands CF CR CA) := by
  refine F.ok sc_P_check_operands (fun vs H Q E h => ?_) (fun cdv A outer s H vs Q E hr h => ?_)
  · obtain ⟨x, y, al, be, a, b, q, r, rfl, _⟩ := h; rfl
  · obtain ⟨x, y, al, be, a, b, q5, r5, rfl, hx, hy, ha, hb, q⟩ := h
    refine ⟨_, PSs.nox (pss_one (ps_if (pt_cmpR (ne_own M_Algebra_eq.me M_Algebra_eq.ok (hr.mono (by decide)) M_Algebra_eq.b pass0 O_Algebra.ne O_Algebra.mo) (pe_fld (pv 0) rfl) (pe_fld (pv 1) rfl) (nomark _)) (pss_one ps_never) pss_nil)), ?_⟩
    obtain ⟨d1, e1, t1, m1, _, _, _, _, h1, _⟩ := hx.ex
    obtain ⟨d2, e2, t2, m2, _, _, _, _, h2, _⟩ := hy.ex
    refine ⟨_, rfl, x, CF, d1, _, .ref al, rfl, h1, R.own.cls, R.n1, rfl, _, rfl, y, CF, d2, _, .ref be, rfl, h2, R.own.cls, R.n1, rfl, ?_⟩
    exact ⟨al, be, rfl, rfl, ha.ins, hb.ins, al, be, a, b, a, b, rfl, ha, hb, true, ⟨fun _ => ⟨rfl, rfl⟩, fun _ => rfl⟩, true, rfl, _, rfl, q⟩
/-- the product by the rules of i, j and k -/
def prodQ (a b : Int) (p q : Q5) : Q5 := ⟨p.w * q.w + a * p.x * q.x + b * p.y * q.y - a * b * p.z * q.z, p.w * q.x + p.x * q.w - b * p.y * q.z + b * p.z * q.y, p.w * q.y + p.y * q.w + a * p.x * q.z - a * p.z * q.x, p.w * q.z + p.z * q.w + p.x * q.y - p.y * q.x, p.d * q.d⟩
def SameQ (e q : Q5) : Prop := e.w = q.w ∧ e.x = q.x ∧ e.y = q.y ∧ e.z = q.z
structure ProdP (CA : Addr) (vs : List V) (H : Hp) (Q : VK) : Prop where
  ex : ∃ (al e1 e2 : Addr) (a b : Int) (p q : Q5), vs = [.ref al, .ref e1, .ref e2] ∧ AlgAt CA H al a b ∧ H e1 = some (.tup (ents p)) ∧ H e2 = some (.tup (ents q)) ∧ Bd 1400 p ∧ Bd 1400 q ∧ ∀ t, H t = none → Q (.ref t) (upd H t (.tup (ents (prodQ a b p q))))
def spProd (CA : Addr) : Sp := fun vs H Q _ => ProdP CA vs H Q
set_option maxHeartbeats 8000000 in
theorem ok_product_entries (F : FnD K "product_entries" "product_entries" s_P_product_entries f fd) (R : AlgK K CA) : FnOk P w K mg base CX0 1 f fd ["algebra", "one", "other"] (spProd CA) := by
  refine F.ok sc_P_product_entries (fun vs H Q E h => ?_) (fun cdv A outer s H vs Q E hr h => ?_)
  · obtain ⟨al, e1, e2, a, b, p, q, rfl, _⟩ := h.ex; rfl
  · obtain ⟨al, e1, e2, a, b, p, q5, rfl, hal, h1, h2, ⟨p1, p2, p3, p4, _⟩, ⟨q1, q2, q3, q4, _⟩, q⟩ := h.ex
    refine ⟨_, PSs.nox (pss_cons (ps_par (i := 3) (j := 4) (by rfl) sc_P_product_entries.nd rfl rfl (by decide) rfl rfl (pa_cons (pe_fld (pv 0) rfl) (pa_cons (pe_fld (pv 0) rfl) pa_nil)) (by rfl))
      (pss_cons (ps_asg (pv 1) (pg_tup (by rfl) (pgs_cons (pg_name (i := 5) sc_P_product_entries.nd rfl (Or.inl rfl)) (pgs_cons (pg_name (i := 6) sc_P_product_entries.nd rfl (Or.inl rfl)) (pgs_cons (pg_name (i := 7) sc_P_product_entries.nd rfl (Or.inl rfl)) (pgs_cons (pg_name (i := 8) sc_P_product_entries.nd rfl (Or.inl rfl)) pgs_nil))))))
      (pss_cons (ps_asg (pv 2) (pg_tup (by rfl) (pgs_cons (pg_name (i := 9) sc_P_product_entries.nd rfl (Or.inl rfl)) (pgs_cons (pg_name (i := 10) sc_P_product_entries.nd rfl (Or.inl rfl)) (pgs_cons (pg_name (i := 11) sc_P_product_entries.nd rfl (Or.inl rfl)) (pgs_cons (pg_name (i := 12) sc_P_product_entries.nd rfl (Or.inl rfl)) pgs_nil))))))
      (pss_one (ps_ret (pe_tup (pa_cons (pe_op op_sub (pe_op op_add (pe_op op_add (pe_op op_mulW (pv 5) (pv 9)) (pe_op op_mulW (pe_op op_mulW (pv 3) (pv 6)) (pv 10))) (pe_op op_mulW (pe_op op_mulW (pv 4) (pv 7)) (pv 11))) (pe_op op_mulW (pe_op op_mulW (pe_op op_mulW (pv 3) (pv 4)) (pv 8)) (pv 12))) (pa_cons (pe_op op_add (pe_op op_sub (pe_op op_add (pe_op op_mulW (pv 5) (pv 10)) (pe_op op_mulW (pv 6) (pv 9))) (pe_op op_mulW (pe_op op_mulW (pv 4) (pv 7)) (pv 12))) (pe_op op_mulW (pe_op op_mulW (pv 4) (pv 8)) (pv 11))) (pa_cons (pe_op op_sub (pe_op op_add (pe_op op_add (pe_op op_mulW (pv 5) (pv 11)) (pe_op op_mulW (pv 7) (pv 9))) (pe_op op_mulW (pe_op op_mulW (pv 3) (pv 6)) (pv 12))) (pe_op op_mulW (pe_op op_mulW (pv 3) (pv 8)) (pv 10))) (pa_cons (pe_op op_sub (pe_op op_add (pe_op op_add (pe_op op_mulW (pv 5) (pv 12)) (pe_op op_mulW (pv 8) (pv 9))) (pe_op op_mulW (pv 6) (pv 11))) (pe_op op_mulW (pv 7) (pv 10))) pa_nil)))))))))), ?_⟩
    obtain ⟨dx, pl, l, hx, _, _, a0, b0, ab, bb⟩ := hal.ex
    have a3 : a.natAbs < 2 ^ 30 := by omega
    have b3 : b.natAbs < 2 ^ 30 := by omega
    have l2 : ∀ {i j : Int} {m n : Nat}, i.natAbs < 2 ^ m → j.natAbs < 2 ^ n → (i * j).natAbs < 2 ^ (m + n) := fun h1 h2 => wide_lt h1 h2
    refine ⟨_, rfl, al, CA, dx, _, .int a, rfl, hx, R.own.cls, R.n2, rfl, _, rfl, al, CA, dx, _, .int b, rfl, hx, R.own.cls, R.n3, rfl, _, _, rfl, ?_⟩
    refine ⟨_, rfl, e1, _, rfl, .inl (.inl h1), rfl, _, _, rfl, _, _, rfl, _, _, rfl, _, _, rfl, rfl, ?_⟩
    refine ⟨_, rfl, e2, _, rfl, .inl (.inl h2), rfl, _, _, rfl, _, _, rfl, _, _, rfl, _, _, rfl, rfl, ?_⟩
    exact ⟨_, rfl, _, rfl, _, _, rfl, rfl, wmul p1 q1 (by decide) (by decide) (by decide), _, rfl, _, rfl, _, _, rfl, rfl, wmul a3 p2 (by decide) (by decide) (by decide), _, rfl, _, _, rfl, rfl, wmul (l2 a3 p2) q2 (by decide) (by decide) (by decide), _, _, rfl, rfl, _, rfl, _, rfl, _, _, rfl, rfl, wmul b3 p3 (by decide) (by decide) (by decide), _, rfl, _, _, rfl, rfl, wmul (l2 b3 p3) q3 (by decide) (by decide) (by decide), _, _, rfl, rfl, _, rfl, _, rfl, _, _, rfl, rfl, wmul a3 b3 (by decide) (by decide) (by decide), _, rfl, _, _, rfl, rfl, wmul (l2 a3 b3) p4 (by decide) (by decide) (by decide), _, rfl, _, _, rfl, rfl, wmul (l2 (l2 a3 b3) p4) q4 (by decide) (by decide) (by decide), _, _, rfl, rfl, _, rfl, _, rfl, _, _, rfl, rfl, wmul p1 q2 (by decide) (by decide) (by decide), _, rfl, _, rfl, _, _, rfl, rfl, wmul p2 q1 (by decide) (by decide) (by decide), _, _, rfl, rfl, _, rfl, _, rfl, _, _, rfl, rfl, wmul b3 p3 (by decide) (by decide) (by decide), _, rfl, _, _, rfl, rfl, wmul (l2 b3 p3) q4 (by decide) (by decide) (by decide), _, _, rfl, rfl, _, rfl, _, rfl, _, _, rfl, rfl, wmul b3 p4 (by decide) (by decide) (by decide), _, rfl, _, _, rfl, rfl, wmul (l2 b3 p4) q3 (by decide) (by decide) (by decide), _, _, rfl, rfl, _, rfl, _, rfl, _, _, rfl, rfl, wmul p1 q3 (by decide) (by decide) (by decide), _, rfl, _, rfl, _, _, rfl, rfl, wmul p3 q1 (by decide) (by decide) (by decide), _, _, rfl, rfl, _, rfl, _, rfl, _, _, rfl, rfl, wmul a3 p2 (by decide) (by decide) (by decide), _, rfl, _, _, rfl, rfl, wmul (l2 a3 p2) q4 (by decide) (by decide) (by decide), _, _, rfl, rfl, _, rfl, _, rfl, _, _, rfl, rfl, wmul a3 p4 (by decide) (by decide) (by decide), _, rfl, _, _, rfl, rfl, wmul (l2 a3 p4) q2 (by decide) (by decide) (by decide), _, _, rfl, rfl, _, rfl, _, rfl, _, _, rfl, rfl, wmul p1 q4 (by decide) (by decide) (by decide), _, rfl, _, rfl, _, _, rfl, rfl, wmul p4 q1 (by decide) (by decide) (by decide), _, _, rfl, rfl, _, rfl, _, rfl, _, _, rfl, rfl, wmul p2 q3 (by decide) (by decide) (by decide), _, _, rfl, rfl, _, rfl, _, rfl, _, _, rfl, rfl, wmul p3 q2 (by decide) (by decide) (by decide), _, _, rfl, rfl, (by show 4 ≤ sizeLine; decide), fun t ht => q t ht⟩
structure FourOpP (CF CR CA : Addr) (g : Int → Int → Q5 → Q5 → Q5) (vs : List V) (H : Hp) (Q : VK) : Prop where
  ex : ∃ (x y al be : Addr) (a b : Int) (p q : Q5), vs = [.ref x, .ref y] ∧ FourAt CF CR H x al a b p ∧ FourAt CF CR H y be a b q ∧ AlgAt CA H al a b ∧ AlgAt CA H be a b ∧ Bd 1400 p ∧ Bd 1400 q ∧ (∀ r, Low5 (g a b p q) r → Bd 3000 r) ∧
    ∀ (r : Q5) (z : Addr) (H' : Hp), Low5 (g a b p q) r → H z = none → Same H H' → FourAt CF CR H' z al a b r → Q (.ref z) H'
def spFourOp (CF CR CA : Addr) (g : Int → Int → Q5 → Q5 → Q5) : Sp := fun vs H Q _ => FourOpP CF CR CA g vs H Q
theorem ok_Four_mul (F : FnD K "__mul__" "Four.__mul__" s_P_Four___mul__ f fd) (T : Glob mg) (R : FourK K CF) (G_Four : mg "Four" = some (.ref CF)) (C_P_check_operands : Cal P w K mg base 3 "check_operands" ["one", "other"] (spOperands CF CR CA)) (C_P_product_entries : Cal P w K mg base 1 "product_entries" ["algebra", "one", "other"] (spProd CA))
    (C_P_made_four : Cal P w K mg base 9 "made_four" ["algebra", "entries", "bottom"] (spMadeFour CF CR CA)) : FnOk P w K mg base CX0 10 f fd ["self", "other"] (spFourOp CF CR CA prodQ) := by
  refine F.ok sc_P_Four___mul__ (fun vs H Q E h => ?_) (fun cdv A outer s H vs Q E hr h => ?_)
  · obtain ⟨x, y, al, be, a, b, p, q, rfl, _⟩ := h.ex; rfl
  · obtain ⟨x, y, al, be, a, b, p, q5, rfl, hx, hy, ha, hb, bp, bq, hlow, q⟩ := h.ex
    refine ⟨_, PSs.nox (pss_cons (ps_if (pt_not (pt_val (pe_callB call_isi (by rfl) T.m_isinstance (by decide +kernel) (pa_cons (pv 1) (pa_cons (pe_glob (v := .ref _) rfl G_Four rfl) pa_nil))))) (pss_one ps_never) pss_nil)
      (pss_cons (ps_expr (pe_cal C_P_check_operands (hr.mono (by decide)) (pa_cons (pv 0) (pa_cons (pv 1) pa_nil))))
      (pss_cons (ps_set (i := 2) sc_P_Four___mul__.nd rfl (Or.inl rfl) (pe_cal C_P_product_entries (hr.mono (by decide)) (pa_cons (pe_fld (pv 0) rfl) (pa_cons (pe_fld (pv 0) rfl) (pa_cons (pe_fld (pv 1) rfl) pa_nil)))))
      (pss_one (ps_ret (pe_cal C_P_made_four (hr.mono (by decide)) (pa_cons (pe_fld (pv 0) rfl) (pa_cons (pv 2) (pa_cons (pe_op op_mulW (pe_fld (pv 0) rfl) (pe_fld (pv 1) rfl)) pa_nil))))))))), ?_⟩
    obtain ⟨d1, e1, t1, m1, _, _, _, _, h1, u1, _⟩ := hx.ex
    obtain ⟨d2, e2, t2, m2, _, _, _, _, h2, u2, _⟩ := hy.ex
    refine ⟨_, rfl, _, .ref CF, _, _, true, rfl, .own CF, R.own.ty hy.ins, R.own.kk, _, rfl, ?_⟩
    refine ⟨_, rfl, _, rfl, x, y, al, be, a, b, p, q5, rfl, hx, hy, ha, hb, ?_⟩
    refine ⟨_, rfl, x, CF, d1, _, .ref al, rfl, h1, R.own.cls, R.n1, rfl, _, rfl, x, CF, d1, _, .ref e1, rfl, h1, R.own.cls, R.n2, rfl, _, rfl, y, CF, d2, _, .ref e2, rfl, h2, R.own.cls, R.n2, rfl, ⟨al, e1, e2, a, b, p, q5, rfl, ha, u1, u2, bp, bq, fun t ht => ?_⟩⟩
    have g := fun {c : Addr} {o : HO} (h : H c = some o) => (upd_ne (ne_of_none h ht) : (upd H t (.tup (ents (prodQ a b p q5)))) c = H c).trans h
    refine ⟨_, rfl, x, CF, d1, _, .ref al, rfl, g h1, R.own.cls, R.n1, rfl, _, rfl, _, rfl, x, CF, d1, _, .int p.d, rfl, g h1, R.own.cls, R.n3, rfl, _, rfl, y, CF, d2, _, .int q5.d, rfl, g h2, R.own.cls, R.n3, rfl, _, _, rfl, rfl, wmul bp.2.2.2.2 bq.2.2.2.2 (by decide) (by decide) (by decide), ?_⟩
    have dp := hx.pos
    have dq := hy.pos
    refine ⟨⟨al, t, a, b, prodQ a b p q5, rfl, ha.same (same_upd ht), upd_same, ?_, ?_, hlow, fun r z H' hl hz e hF => q r z H' hl ((same_upd ht).free hz) ((same_upd ht).trans e) hF⟩⟩
    · exact Int.mul_ne_zero (by omega) (by omega)
    · exact Nat.lt_of_lt_of_le (wide_lt bp.2.2.2.2 bq.2.2.2.2) (Nat.pow_le_pow_right (by decide) (by decide))
end
end Sf

namespace Sf
open PySem PySem.Spec PyProof.Rows L2
def mateQ (q : Q5) : Q5 := ⟨q.w, -q.x, -q.y, -q.z, q.d⟩
def addQ (_ _ : Int) (p q : Q5) : Q5 := ⟨p.w * q.d + q.w * p.d, p.x * q.d + q.x * p.d, p.y * q.d + q.y * p.d, p.z * q.d + q.z * p.d, p.d * q.d⟩
section
variable {P : Program} {w : World} {K : PySem.W.Frag} {mg : Str → Option Value} {base : Heap} {f : Addr} {fd : FuncData} {CR CA CF : Addr}
def spMateE : Sp := fun vs H Q _ => ∃ (e : Addr) (q : Q5), vs = [.ref e] ∧ H e = some (.tup (ents q)) ∧ ∀ t, H t = none → Q (.ref t) (upd H t (.tup (ents (mateQ q))))
theorem ok_mate_entries (F : FnD K "mate_entries" "mate_entries" s_P_mate_entries f fd) : FnOk P w K mg base CX0 1 f fd ["entries"] spMateE := by
  refine F.ok sc_P_mate_entries (fun vs H Q E h => ?_) (fun cdv A outer s H vs Q E hr h => ?_)
  · obtain ⟨e, q, rfl, _⟩ := h; rfl
  · obtain ⟨e, q5, rfl, he, q⟩ := h
    refine ⟨_, PSs.nox (pss_cons (ps_asg (pv 0) (pg_tup (by rfl) (pgs_cons (pg_name (i := 1) sc_P_mate_entries.nd rfl (Or.inl rfl)) (pgs_cons (pg_name (i := 2) sc_P_mate_entries.nd rfl (Or.inl rfl)) (pgs_cons (pg_name (i := 3) sc_P_mate_entries.nd rfl (Or.inl rfl)) (pgs_cons (pg_name (i := 4) sc_P_mate_entries.nd rfl (Or.inl rfl)) pgs_nil))))))
      (pss_one (ps_ret (pe_tup (pa_cons (pv 1) (pa_cons (pe_un un_neg (pv 2)) (pa_cons (pe_un un_neg (pv 3)) (pa_cons (pe_un un_neg (pv 4)) pa_nil)))))))), ?_⟩
    refine ⟨_, rfl, e, _, rfl, .inl (.inl he), rfl, _, _, rfl, _, _, rfl, _, _, rfl, _, _, rfl, rfl, ?_⟩
    exact ⟨_, rfl, _, rfl, _, rfl, _, rfl, _, rfl, _, rfl, _, rfl, (by show 4 ≤ sizeLine; decide), fun t ht => q t ht⟩
structure Four1P (CF CR CA : Addr) (g : Q5 → Q5) (vs : List V) (H : Hp) (Q : VK) : Prop where
  ex : ∃ (x al : Addr) (a b : Int) (p : Q5), vs = [.ref x] ∧ FourAt CF CR H x al a b p ∧ AlgAt CA H al a b ∧ Bd 3000 p ∧ (∀ r, Low5 (g p) r → Bd 3000 r) ∧
    ∀ (r : Q5) (z : Addr) (H' : Hp), Low5 (g p) r → H z = none → Same H H' → FourAt CF CR H' z al a b r → Q (.ref z) H'
def spFour1 (CF CR CA : Addr) (g : Q5 → Q5) : Sp := fun vs H Q _ => Four1P CF CR CA g vs H Q
theorem ok_Four_mate (F : FnD K "mate" "Four.mate" s_P_Four_mate f fd) (R : FourK K CF) (C_P_mate_entries : Cal P w K mg base 1 "mate_entries" ["entries"] spMateE) (C_P_made_four : Cal P w K mg base 9 "made_four" ["algebra", "entries", "bottom"] (spMadeFour CF CR CA)) :
    FnOk P w K mg base CX0 10 f fd ["self"] (spFour1 CF CR CA mateQ) := by
  refine F.ok sc_P_Four_mate (fun vs H Q E h => ?_) (fun cdv A outer s H vs Q E hr h => ?_)
  · obtain ⟨x, al, a, b, p, rfl, _⟩ := h.ex; rfl
  · obtain ⟨x, al, a, b, p, rfl, hx, ha, bp, hlow, q⟩ := h.ex
    refine ⟨_, PSs.nox (pss_one (ps_ret (pe_cal C_P_made_four (hr.mono (by decide)) (pa_cons (pe_fld (pv 0) rfl) (pa_cons (pe_cal C_P_mate_entries (hr.mono (by decide)) (pa_cons (pe_fld (pv 0) rfl) pa_nil)) (pa_cons (pe_fld (pv 0) rfl) pa_nil)))))), ?_⟩
    obtain ⟨d1, e1, t1, m1, _, _, _, _, h1, u1, _⟩ := hx.ex
    have dp := hx.pos
    refine ⟨_, rfl, x, CF, d1, _, .ref al, rfl, h1, R.own.cls, R.n1, rfl, _, rfl, x, CF, d1, _, .ref e1, rfl, h1, R.own.cls, R.n2, rfl, e1, p, rfl, u1, fun t ht => ?_⟩
    have g := fun {c : Addr} {o : HO} (h : H c = some o) => (upd_ne (ne_of_none h ht) : (upd H t (.tup (ents (mateQ p)))) c = H c).trans h
    refine ⟨_, rfl, x, CF, d1, _, .int p.d, rfl, g h1, R.own.cls, R.n3, rfl, ⟨al, t, a, b, mateQ p, rfl, ha.same (same_upd ht), upd_same, by show p.d ≠ 0; omega, Nat.lt_of_lt_of_le bp.2.2.2.2 (Nat.pow_le_pow_right (by decide) (by decide)), hlow, fun r z H' hl hz e hF => q r z H' hl ((same_upd ht).free hz) ((same_upd ht).trans e) hF⟩⟩
/-- == of two fours -/
def spFourEq (CF CR CA : Addr) : Sp := fun vs H Q _ => ∃ (x y al be : Addr) (a b c d : Int) (p q : Q5), vs = [.ref x, .ref y] ∧ FourAt CF CR H x al a b p ∧ FourAt CF CR H y be c d q ∧ AlgAt CA H al a b ∧ AlgAt CA H be c d ∧ ∃ k : Bool, (k = true ↔ (a = c ∧ b = d) ∧ p = q) ∧ Q (.bl k) H
end
end Sf

namespace Sf
open PySem PySem.Spec PyProof.Rows L2
theorem iter_tup {prog : Program} {w : World} {A : Around} {E : Value → Shared → Prop} {s : Shared} {l : Addr} {its : Array Value} {Q : Value → Shared → Prop} (hl : s.heap.IsTuple l its)
    (h : (s.heap.push { cls := .type "tuple_iterator", data := .fields #[.ref l, .int 0 0] }).IsTupleIter s.heap.objs.size l 0 ∧ (s.heap.push { cls := .type "tuple_iterator", data := .fields #[.ref l, .int 0 0] }).IsTuple l its → l ≠ s.heap.objs.size →
      Q (.ref s.heap.objs.size) { s with heap := s.heap.push { cls := .type "tuple_iterator", data := .fields #[.ref l, .int 0 0] } }) : wpAny (model prog w) A (pyIter (.ref l)) Q E s := by
  have lt : l < s.heap.objs.size := by
    obtain ⟨_, e, _⟩ := hl
    exact Heap.lt_size e
  exact wpAny_pyIter_tuple hl (h ⟨⟨_, Heap.get?_push_size _ rfl, rfl, rfl⟩, hl.push _⟩ (Nat.ne_of_lt lt))
theorem truth_ints {prog : Program} {w : World} {A : Around} {ns : List Int} {its : List Value} (r : Vals (ns.map V.int) its) :
    TruthOf prog w A (fun i v => its.toArray[i]? = some v) (fun i => ns.getD i 0 != 0) := fun i v s Q E hv hq => by
  have hv' : its[i]? = some v := by simpa using hv
  have il : i < ns.length := by
    have := (List.getElem?_eq_some_iff.mp hv').1
    rw [← r.length, List.length_map] at this
    exact this
  obtain ⟨u, hu, ru⟩ := r.get (i := i) (x := V.int ns[i]) (by rw [List.getElem?_map, List.getElem?_eq_getElem il]; rfl)
  rw [hv'] at hu
  cases hu
  obtain ⟨t, rfl⟩ := (show ∃ t, v = Value.int ns[i] t from ru)
  have hg : ns.getD i 0 = ns[i] := by rw [List.getD_eq_getElem?_getD, List.getElem?_eq_getElem il]; rfl
  have hq' : Q (ns.getD i 0 != 0) s := hq
  rw [hg] at hq'
  exact PyProof.Rows.truthy_int hq'
theorem any_rangeI : ∀ ns : List Int, (List.range ns.length).any (fun i => ns.getD i 0 != 0) = ns.any (fun z => z != 0)
  | [] => rfl
  | b :: ns => by
    rw [List.length_cons, List.range_succ_eq_map, List.any_cons, List.any_map, List.any_cons, ← any_rangeI ns]
    all_goals rfl
section
variable {X : Cx}
/-- any(t), t a tuple of ints -/
def rAnyT (K : PySem.W.Frag) : List V → Hp → VK → Prop := fun vs H Q => ∃ (a : Addr) (ns : List Int), vs = [V.ref a] ∧ SqT K H a (ns.map V.int) ∧ Q (.bl (ns.any fun z => z != 0)) H
theorem cr_anyT (hc : X.calm = true) : CallR X (.builtin "any") (rAnyT X.K) := by
  intro pins s σ H vs us Q I r h
  obtain ⟨a, ns, rfl, hs, q⟩ := h
  obtain ⟨its, rv, hl, _⟩ := I.tuple hs
  rw [Vals.ref1 r]
  refine call_any_walk (iter_tup hl fun st hne => ?_)
  refine ⟨_, _, _, _, _, _, _, rfl, Walks.tuple (A := X.A.in1) (I.ok.hd hc) _ a hne its.toArray, st, truth_ints rv, fun h' tk hk => ?_⟩
  refine ⟨.bl _, H, I.kept fun b o eo => hk b o (fun hmem => ?_) (Heap.get?_push_of_some _ eo), ?_, q⟩
  · rcases List.mem_cons.mp hmem with e1 | hmem
    · exact absurd (e1 ▸ Heap.lt_size eo) (Nat.lt_irrefl _)
    · cases hmem
  · show Value.bool _ = Value.bool _
    rw [← any_rangeI, List.size_toArray, ← rv.length, List.length_map]
end
end Sf

namespace Sf
open PySem PySem.Spec PyProof.Rows L2
def negQ (q : Q5) : Q5 := ⟨-q.w, -q.x, -q.y, -q.z, q.d⟩
def entI (q : Q5) : List Int := [q.w, q.x, q.y, q.z]
theorem ents_int (q : Q5) : ents q = (entI q).map V.int := rfl
theorem int_of_map' {l : List Int} {i : Nat} {v : V} (h : (l.map V.int)[i]? = some v) : ∃ z, l[i]? = some z ∧ v = V.int z := by
  rw [List.getElem?_map] at h
  cases e : l[i]? with
  | none => rw [e] at h; cases h
  | some z => rw [e] at h; exact ⟨z, rfl, (Option.some.inj h).symm⟩
section
variable {P : Program} {w : World} {K : PySem.W.Frag} {mg : Str → Option Value} {base : Heap} {f : Addr} {fd : FuncData} {CR CA CF : Addr}
def spFourBool (CF CR : Addr) : Sp := fun vs H Q _ => ∃ (x al : Addr) (a b : Int) (p : Q5), vs = [.ref x] ∧ FourAt CF CR H x al a b p ∧ ∃ k : Bool, (k = true ↔ ¬ (p.w = 0 ∧ p.x = 0 ∧ p.y = 0 ∧ p.z = 0)) ∧ Q (.bl k) H
theorem ok_Four_bool (F : FnD K "__bool__" "Four.__bool__" s_P_Four___bool__ f fd) (T : Glob mg) (R : FourK K CF) : FnOk P w K mg base CX0 1 f fd ["self"] (spFourBool CF CR) := by
  refine F.ok sc_P_Four___bool__ (fun vs H Q E h => ?_) (fun cdv A outer s H vs Q E hr h => ?_)
  · obtain ⟨x, al, a, b, p, rfl, _⟩ := h; rfl
  · obtain ⟨x, al, a, b, p, rfl, hx, k, hk, q⟩ := h
    refine ⟨_, PSs.nox (pss_one (ps_ret (pe_callB (cr_anyT rfl) (by rfl) T.m_any (by decide +kernel) (pa_cons (pe_fld (pv 0) rfl) pa_nil)))), ?_⟩
    obtain ⟨d1, e1, t1, m1, _, _, _, _, h1, u1, _⟩ := hx.ex
    refine ⟨_, rfl, x, CF, d1, _, .ref e1, rfl, h1, R.own.cls, R.n2, rfl, e1, entI p, rfl, SqT.of u1, ?_⟩
    have e : (entI p).any (fun z => z != 0) = k := by
      rw [Bool.eq_iff_iff, hk]
      unfold entI
      simp
      omega
    rw [e]
    exact q
theorem ok_Four_neg (F : FnD K "__neg__" "Four.__neg__" s_P_Four___neg__ f fd) (T : Glob mg) (R : FourK K CF) (C_P_made_four : Cal P w K mg base 9 "made_four" ["algebra", "entries", "bottom"] (spMadeFour CF CR CA)) :
    FnOk P w K mg base CX0 10 f fd ["self"] (spFour1 CF CR CA negQ) := by
  refine F.ok sc_P_Four___neg__ (fun vs H Q E h => ?_) (fun cdv A outer s H vs Q E hr h => ?_)
  · obtain ⟨x, al, a, b, p, rfl, _⟩ := h.ex; rfl
  · obtain ⟨x, al, a, b, p, rfl, hx, ha, bp, hlow, q⟩ := h.ex
    refine ⟨_, PSs.nox (pss_one (ps_ret (pe_cal C_P_made_four (hr.mono (by decide)) (pa_cons (pe_fld (pv 0) rfl) (pa_cons (pe_callTy call_tuple_of (by rfl) T.m_tuple (by decide +kernel) (pa_cons (pe_lc rfl sc_P_Four___neg__.nd (own := [("part", 1)]) (pi_tup (pe_fld (pv 0) rfl)) (blkOk_by (N := ["self", "part"]) (sc := defScope s_P_Four___neg__) (by decide +kernel)) (fun _ _ _ _ _ => pg_name (i := 1) sc_P_Four___neg__.nd rfl (Or.inl rfl)) (fun _ _ _ _ _ => pts_nil) (fun _ _ _ _ _ => (pe_un un_neg (pv 1)))) pa_nil)) (pa_cons (pe_fld (pv 0) rfl) pa_nil)))))), ?_⟩
    obtain ⟨d1, e1, t1, m1, _, _, _, _, h1, u1, _⟩ := hx.ex
    have dp := hx.pos
    refine ⟨_, rfl, x, CF, d1, _, .ref al, rfl, h1, R.own.cls, R.n1, rfl, _, rfl, x, CF, d1, _, .ref e1, rfl, h1, R.own.cls, R.n2, rfl, e1, rfl, ⟨_, SqT.of u1⟩, fun D hD => lc_tup (K := K) (a := e1) (xs := (entI p).map V.int) (fun i H' => Same H H' ∧ H' D = some (.lst (((entI p).take i).map fun n => V.int (-n)))) ⟨same_upd hD, upd_same⟩ (fun i H' _ hp => SqT.of (hp.1 _ _ u1)) (fun i v H' hv hp => ?_) (fun H' hp => ?_)⟩
    · obtain ⟨k1, hd⟩ := hp
      obtain ⟨n, hn, rfl⟩ := int_of_map' hv
      refine ⟨rfl, _, rfl, n, rfl, _, hd, ?_, ?_, ?_⟩
      · rw [List.length_map]
        have := List.length_take_le' i (entI p)
        exact Nat.lt_of_le_of_lt (Nat.le_trans this (by show 4 ≤ 4; exact Nat.le_refl _)) (by decide)
      · intro c o ec
        rw [upd_ne (ne_of_none ec hD)]
        exact k1 _ _ ec
      · rw [upd_same, List.take_add_one, hn, List.map_append]; rfl
    · obtain ⟨k1, hd⟩ := hp
      refine ⟨D, _, rfl, .inl ⟨SqL.of hd, fun t ht => ?_⟩⟩
      have et : ((entI p).take ((entI p).map V.int).length).map (fun n => V.int (-n)) = ents (negQ p) := rfl
      rw [et]
      have k2 := k1.trans (same_upd (o := .tup (ents (negQ p))) ht)
      refine ⟨_, rfl, x, CF, d1, _, .int p.d, rfl, k2 _ _ h1, R.own.cls, R.n3, rfl, ⟨al, t, a, b, negQ p, rfl, ha.same k2, upd_same, by show p.d ≠ 0; omega, Nat.lt_of_lt_of_le bp.2.2.2.2 (Nat.pow_le_pow_right (by decide) (by decide)), hlow, fun r z H'' hl hz e hF => q r z H'' hl (k2.free hz) (k2.trans e) hF⟩⟩
theorem ok_Four_eq (F : FnD K "__eq__" "Four.__eq__" s_P_Four___eq__ f fd) (T : Glob mg) (R : FourK K CF) (G_Four : mg "Four" = some (.ref CF)) (O_Algebra : OwnK K CA) (M_Algebra_eq : CalM P w K mg base 1 "__eq__" CA ["self", "value"] (spAlgEq CA)) : FnOk P w K mg base CX0 2 f fd ["self", "value"] (spFourEq CF CR CA) := by
  refine F.ok sc_P_Four___eq__ (fun vs H Q E h => ?_) (fun cdv A outer s H vs Q E hr h => ?_)
  · obtain ⟨x, y, al, be, a, b, c, d, p, q, rfl, _⟩ := h; rfl
  · obtain ⟨x, y, al, be, a, b, c, d, p, q5, rfl, hx, hy, ha, hb, k, hk, q⟩ := h
    refine ⟨_, PSs.nox (pss_one (ps_ret (pe_and (pe_callB call_isi (by rfl) T.m_isinstance (by decide +kernel) (pa_cons (pv 1) (pa_cons (pe_glob (v := .ref _) rfl G_Four rfl) pa_nil))) (pe_and (pe_cmpR (eq_own M_Algebra_eq.me M_Algebra_eq.ok (hr.mono (by decide)) M_Algebra_eq.b pass0) (pe_fld (pv 0) rfl) (pe_fld (pv 1) rfl) (nomark _)) (pe_and (pe_cmpR (op_eqD hr.units) (pe_fld (pv 0) rfl) (pe_fld (pv 1) rfl) (nomark _)) (pe_one (pe_cmp (pc_eqI (pe_fld (pv 0) rfl) (pe_fld (pv 1) rfl)) rfl))))))), ?_⟩
    obtain ⟨d1, e1, t1, m1, _, _, _, _, h1, u1, _⟩ := hx.ex
    obtain ⟨d2, e2, t2, m2, _, _, _, _, h2, u2, _⟩ := hy.ex
    have kf : ∀ {z : Bool}, (z = true ↔ (a = c ∧ b = d) ∧ p = q5) → z = k := fun {z} h => Bool.eq_iff_iff.mpr (h.trans hk.symm)
    refine ⟨_, rfl, _, .ref CF, _, _, true, rfl, .own CF, R.own.ty hy.ins, R.own.kk, _, rfl, ?_⟩
    refine ⟨_, rfl, x, CF, d1, _, .ref al, rfl, h1, R.own.cls, R.n1, rfl, _, rfl, y, CF, d2, _, .ref be, rfl, h2, R.own.cls, R.n1, rfl, ?_⟩
    refine ⟨al, be, rfl, rfl, ha.ins, hb.ins, al, be, a, b, c, d, rfl, ha, hb, decide (a = c ∧ b = d), decide_eq_true_iff, _, rfl, ifd (fun h => ?_) (fun h => ?_)⟩
    · refine ⟨_, rfl, x, CF, d1, _, .ref e1, rfl, h1, R.own.cls, R.n2, rfl, _, rfl, y, CF, d2, _, .ref e2, rfl, h2, R.own.cls, R.n2, rfl, ?_⟩
      refine ⟨.tuple ((entI p).map PyData.int), .tuple ((entI q5).map PyData.int), dp_tup (ns := entI p) (SqT.of u1), dp_tup (ns := entI q5) (SqT.of u2), shp_tup _, shp_tup _, ?_⟩
      rw [eqv_tups']
      refine ⟨_, rfl, ifd (fun h3 => ?_) (fun h3 => ?_)⟩
      · refine ⟨_, rfl, x, CF, d1, _, .int p.d, rfl, h1, R.own.cls, R.n3, rfl, _, rfl, y, CF, d2, _, .int q5.d, rfl, h2, R.own.cls, R.n3, rfl, _, _, rfl, rfl, ?_⟩
        have z := kf (z := decide (p.d = q5.d)) (by
          rw [decide_eq_true_iff]
          constructor
          · intro e
            refine ⟨h, ?_⟩
            obtain ⟨w1, x1, y1, z1, dd1⟩ := p
            obtain ⟨w2, x2, y2, z2, dd2⟩ := q5
            unfold entI at h3
            simp at h3 e
            obtain ⟨r1, r2, r3, r4⟩ := h3
            subst r1 r2 r3 r4 e
            rfl
          · rintro ⟨_, e⟩
            rw [e])
        show Q (.bl (decide (p.d = q5.d))) H
        rw [z]
        exact q
      · have z := kf (z := false) ⟨fun h => Bool.noConfusion h, fun e => absurd (by rw [e.2]) h3⟩
        show Q (.bl false) H
        rw [z]
        exact q
    · have z := kf (z := false) ⟨fun h => Bool.noConfusion h, fun e => absurd e.1 h⟩
      show Q (.bl false) H
      rw [z]
      exact q
end
end Sf

namespace Sf
open PySem PySem.Spec PyProof.Rows L2
/-! a class called: what stands then -/
theorem same_new {H : Hp} {x dx C : Addr} (hx : H x = none) (hd : H dx = none) (nd : dx ≠ x) : Same H (upd (upd H dx (.own x)) x (.ins C dx [])) := (same_upd hd).trans (same_upd (by rw [upd_ne nd.symm]; exact hx))
theorem same_keep {x : Addr} {H H1 H2 : Hp} (hx : H x = none) (s : Same H H1) (k : Keep x H1 H2) : Same H H2 := fun d o e => k _ _ (s _ _ e) (ne_of_none e hx)
theorem new_alg {CA : Addr} {H : Hp} {a b : Int} {R : VK} {x dx : Addr} (a0 : a ≠ 0) (b0 : b ≠ 0) (a1 : a.natAbs ≤ 1000000000) (b1 : b.natAbs ≤ 1000000000) (hx : H x = none) (hd : H dx = none) (nd : dx ≠ x) (q : ∀ (H' : Hp), Same H H' → AlgAt CA H' x a b → R .non H') :
    AlgInitP CA [.ref x, .int a, .int b] (upd (upd H dx (.own x)) x (.ins CA dx [])) R :=
  ⟨x, dx, a, b, rfl, a0, b0, a1, b1, upd_same, fun H' k hA => q H' (same_keep hx (same_new hx hd nd) k) hA⟩
theorem new_rat {CR : Addr} {H : Hp} {t b : Int} {R : VK} {x dx : Addr} (b0 : b ≠ 0) (t1 : t.natAbs < 10 ^ 60) (b1 : b.natAbs < 10 ^ 60) (hx : H x = none) (hd : H dx = none) (nd : dx ≠ x) (q : ∀ (t' b' : Int) (H' : Hp), LowT t b t' b' → Same H H' → RatioAt CR H' x t' b' → R .non H') :
    RatInitP CR [.ref x, .int t, .int b] (upd (upd H dx (.own x)) x (.ins CR dx [])) R :=
  ⟨x, dx, t, b, rfl, b0, t1, b1, upd_same, fun t' b' H' l k hR => q t' b' H' l (same_keep hx (same_new hx hd nd) k) hR⟩
theorem new_four {CF CR CA : Addr} {H : Hp} {al e x dx : Addr} {a b : Int} {p : Q5} {R : VK} (hal : AlgAt CA H al a b) (he : H e = some (.tup (ents p))) (d0 : p.d ≠ 0) (hp : Pass60 p) (bp : Bd 3000 p) (hlow : ∀ r, Low5 p r → Bd 3000 r)
    (hx : H x = none) (hd : H dx = none) (nd : dx ≠ x) (q : ∀ (r : Q5) (H' : Hp), Low5 p r → Same H H' → FourAt CF CR H' x al a b r → R .non H') :
    FourInitP CF CR CA [.ref x, .ref al, .ref e, .int p.d] (upd (upd H dx (.own x)) x (.ins CF dx [])) R := by
  have s := same_new (C := CF) hx hd nd
  refine ⟨x, dx, al, e, a, b, p, rfl, hal.same s, fun z => ?_, s _ _ he, d0, hp, bp, upd_same, hlow, fun r H' l k hF => q r H' l (same_keep hx s k) hF⟩
  obtain ⟨_, _, _, g, _⟩ := hal.ex
  rw [z, hx] at g
  cases g
/-- a ratio has its lowest terms once -/
theorem low_one_r {t : Int} {t' b' : Int} (h : LowT t 1 t' b') : t' = t ∧ b' = 1 := by
  obtain ⟨h0, h1, h2⟩ := h
  have e : t' = t * b' := by rw [h1, Int.mul_one]
  have d : b'.natAbs ∣ t'.natAbs := Int.natAbs_dvd_natAbs.mpr ⟨t, by rw [e, Int.mul_comm]⟩
  have g : t'.natAbs.gcd b'.natAbs = b'.natAbs := Nat.gcd_eq_right d
  have b1 : b' = 1 := by omega
  subst b1
  exact ⟨by omega, rfl⟩
theorem low_one_q {w x y z : Int} {r : Q5} (h : Low5 ⟨w, x, y, z, 1⟩ r) : r = ⟨w, x, y, z, 1⟩ := by
  obtain ⟨h0, h1, h2, h3, h4, h5⟩ := h
  obtain ⟨w', x', y', z', d⟩ := r
  dsimp only at *
  have dv : ∀ {s t : Int}, s * d = t * 1 → d.natAbs ∣ t.natAbs := fun {s t} e => Int.natAbs_dvd_natAbs.mpr ⟨s, by rw [Int.mul_comm, e, Int.mul_one]⟩
  have g : d.natAbs ∣ gcd5 w' x' y' z' d := Nat.dvd_gcd (Nat.dvd_gcd (Nat.dvd_gcd (Nat.dvd_gcd (dv h1) (dv h2)) (dv h3)) (dv h4)) (Nat.dvd_refl _)
  rw [h5] at g
  have d1 : d = 1 := by
    have := Nat.dvd_one.mp g
    omega
  subst d1
  simp only [Int.mul_one] at h1 h2 h3 h4
  subst h1 h2 h3 h4
  rfl
end Sf

namespace Sf
open PySem PySem.Spec PyProof.Rows L2
def subQ (_ _ : Int) (p q : Q5) : Q5 := ⟨p.w * q.d - q.w * p.d, p.x * q.d - q.x * p.d, p.y * q.d - q.y * p.d, p.z * q.d - q.z * p.d, p.d * q.d⟩
def sclQ (t b : Int) (p : Q5) : Q5 := ⟨p.w * t, p.x * t, p.y * t, p.z * t, p.d * b⟩
theorem low5_bd {n : Nat} {p r : Q5} (hp : p.d ≠ 0) (h : Low5 p r) (b : Bd n p) : Bd n r := by
  obtain ⟨h0, h1, h2, h3, h4, h5⟩ := h
  obtain ⟨b1, b2, b3, b4, b5⟩ := b
  have dv : r.d.natAbs ∣ p.d.natAbs := by
    -- r.d divides r.w * p.d, .., r.d * p.d, whose common divisor is p.d
    have e : ∀ {s t : Int}, s * r.d = t * p.d → r.d.natAbs ∣ t.natAbs * p.d.natAbs := fun {s t} e => by
      rw [← Int.natAbs_mul, ← e, Int.natAbs_mul]
      exact Nat.dvd_mul_left _ _
    have g : r.d.natAbs ∣ (gcd5 r.w r.x r.y r.z r.d) * p.d.natAbs := by
      unfold gcd5
      rw [← Nat.gcd_mul_right, ← Nat.gcd_mul_right, ← Nat.gcd_mul_right, ← Nat.gcd_mul_right]
      exact Nat.dvd_gcd (Nat.dvd_gcd (Nat.dvd_gcd (Nat.dvd_gcd (e h1) (e h2)) (e h3)) (e h4)) (Nat.dvd_mul_right _ _)
    rw [h5, Nat.one_mul] at g
    exact g
  have le : r.d.natAbs ≤ p.d.natAbs := Nat.le_of_dvd (by omega) dv
  have small : ∀ {s t : Int}, s * r.d = t * p.d → t.natAbs ≤ s.natAbs := fun {s t} e => by
    have e2 : s.natAbs * r.d.natAbs = t.natAbs * p.d.natAbs := by rw [← Int.natAbs_mul, ← Int.natAbs_mul, e]
    have h6 : t.natAbs * r.d.natAbs ≤ s.natAbs * r.d.natAbs := by
      rw [e2]
      exact Nat.mul_le_mul_left _ le
    exact Nat.le_of_mul_le_mul_right h6 (by omega)
  exact ⟨Nat.lt_of_le_of_lt (small h1) b1, Nat.lt_of_le_of_lt (small h2) b2, Nat.lt_of_le_of_lt (small h3) b3, Nat.lt_of_le_of_lt (small h4) b4, Nat.lt_of_le_of_lt le b5⟩
theorem bd_mono {m n : Nat} {p : Q5} (h : Bd m p) (l : m ≤ n) : Bd n p := by
  have e : 2 ^ m ≤ 2 ^ n := Nat.pow_le_pow_right (by decide) l
  exact ⟨Nat.lt_of_lt_of_le h.1 e, Nat.lt_of_lt_of_le h.2.1 e, Nat.lt_of_lt_of_le h.2.2.1 e, Nat.lt_of_lt_of_le h.2.2.2.1 e, Nat.lt_of_lt_of_le h.2.2.2.2 e⟩
theorem lt_mono {m n : Nat} {i : Int} (h : i.natAbs < 2 ^ m) (l : m ≤ n) : i.natAbs < 2 ^ n := Nat.lt_of_lt_of_le h (Nat.pow_le_pow_right (by decide) l)
theorem add_lt2 {n : Nat} {i j : Int} (h1 : i.natAbs < 2 ^ n) (h2 : j.natAbs < 2 ^ n) : (i + j).natAbs < 2 ^ (n + 1) := by
  rw [Nat.pow_succ]
  omega
theorem sub_lt2 {n : Nat} {i j : Int} (h1 : i.natAbs < 2 ^ n) (h2 : j.natAbs < 2 ^ n) : (i - j).natAbs < 2 ^ (n + 1) := by
  rw [Nat.pow_succ]
  omega
theorem prodQ_bd {a b : Int} {p q : Q5} {m n k : Nat} (ha : a.natAbs < 2 ^ k) (hb : b.natAbs < 2 ^ k) (hp : Bd m p) (hq : Bd n q) : Bd (m + n + 2 * k + 2) (prodQ a b p q) := by
  obtain ⟨p1, p2, p3, p4, p5⟩ := hp
  obtain ⟨q1, q2, q3, q4, q5⟩ := hq
  have L : ∀ {i j : Int} {s t : Nat}, i.natAbs < 2 ^ s → j.natAbs < 2 ^ t → (i * j).natAbs < 2 ^ (s + t) := fun h1 h2 => wide_lt h1 h2
  have two : ∀ {i j : Int}, i.natAbs < 2 ^ m → j.natAbs < 2 ^ n → (i * j).natAbs < 2 ^ (m + n + 2 * k) := fun h1 h2 => lt_mono (L h1 h2) (by omega)
  have three : ∀ {c i j : Int}, c.natAbs < 2 ^ k → i.natAbs < 2 ^ m → j.natAbs < 2 ^ n → (c * i * j).natAbs < 2 ^ (m + n + 2 * k) := fun h0 h1 h2 => lt_mono (L (L h0 h1) h2) (by omega)
  have four : ∀ {i j : Int}, i.natAbs < 2 ^ m → j.natAbs < 2 ^ n → (a * b * i * j).natAbs < 2 ^ (m + n + 2 * k) := fun h1 h2 => lt_mono (L (L (L ha hb) h1) h2) (by omega)
  have sum : ∀ {c1 c2 c3 c4 : Int}, c1.natAbs < 2 ^ (m + n + 2 * k) → c2.natAbs < 2 ^ (m + n + 2 * k) → c3.natAbs < 2 ^ (m + n + 2 * k) → c4.natAbs < 2 ^ (m + n + 2 * k) → (c1 + c2 + c3 - c4).natAbs < 2 ^ (m + n + 2 * k + 2) ∧ (c1 + c2 - c3 + c4).natAbs < 2 ^ (m + n + 2 * k + 2) := fun {c1 c2 c3 c4} h1 h2 h3 h4 => by
    rw [Nat.pow_succ, Nat.pow_succ]
    omega
  unfold prodQ
  exact ⟨(sum (two p1 q1) (three ha p2 q2) (three hb p3 q3) (four p4 q4)).1, (sum (two p1 q2) (two p2 q1) (three hb p3 q4) (three hb p4 q3)).2, (sum (two p1 q3) (two p3 q1) (three ha p2 q4) (three ha p4 q2)).1, (sum (two p1 q4) (two p4 q1) (two p2 q3) (two p3 q2)).1, lt_mono (L p5 q5) (by omega)⟩
section
variable {P : Program} {w : World} {K : PySem.W.Frag} {mg : Str → Option Value} {base : Heap} {f : Addr} {fd : FuncData} {CR CA CF : Addr}
set_option maxHeartbeats 8000000 in
theorem ok_Four_add (F : FnD K "__add__" "Four.__add__" s_P_Four___add__ f fd) (T : Glob mg) (R : FourK K CF) (G_Four : mg "Four" = some (.ref CF)) (C_P_check_operands : Cal P w K mg base 3 "check_operands" ["one", "other"] (spOperands CF CR CA))
    (C_P_made_four : Cal P w K mg base 9 "made_four" ["algebra", "entries", "bottom"] (spMadeFour CF CR CA)) : FnOk P w K mg base CX0 10 f fd ["self", "other"] (spFourOp CF CR CA addQ) := by
  refine F.ok sc_P_Four___add__ (fun vs H Q E h => ?_) (fun cdv A outer s H vs Q E hr h => ?_)
  · obtain ⟨x, y, al, be, a, b, p, q, rfl, _⟩ := h.ex; rfl
  · obtain ⟨x, y, al, be, a, b, p, q5, rfl, hx, hy, ha, hb, bp, bq, hlow, q⟩ := h.ex
    refine ⟨_, PSs.nox (pss_cons (ps_if (pt_not (pt_val (pe_callB call_isi (by rfl) T.m_isinstance (by decide +kernel) (pa_cons (pv 1) (pa_cons (pe_glob (v := .ref _) rfl G_Four rfl) pa_nil))))) (pss_one ps_never) pss_nil)
      (pss_cons (ps_expr (pe_cal C_P_check_operands (hr.mono (by decide)) (pa_cons (pv 0) (pa_cons (pv 1) pa_nil))))
      (pss_cons (ps_set (i := 2) sc_P_Four___add__.nd rfl (Or.inl rfl) (pe_callTy call_tuple_of (by rfl) T.m_tuple (by decide +kernel) (pa_cons (pe_lc rfl sc_P_Four___add__.nd (own := [("one", 3), ("two", 4)]) (RZ.pi_zipA (by rfl) T.m_zip (pa_cons (pe_fld (pv 0) rfl) (pa_cons (pe_fld (pv 1) rfl) pa_nil))) (blkOk_by (N := ["self", "other", "entries", "one", "two"]) (sc := defScope s_P_Four___add__) (by decide +kernel)) (fun _ _ _ _ _ => pg_tupK (K := K) (n := 2) rfl (by rfl) (pgs_cons (pg_name (i := 3) sc_P_Four___add__.nd rfl (Or.inl rfl)) (pgs_cons (pg_name (i := 4) sc_P_Four___add__.nd rfl (Or.inl rfl)) pgs_nil))) (fun _ _ _ _ _ => pts_nil) (fun _ _ _ _ _ => (pe_op op_add (pe_op op_mulW (pv 3) (pe_fldK (K := K) rfl (pv 1) rfl)) (pe_op op_mulW (pv 4) (pe_fldK (K := K) rfl (pv 0) rfl))))) pa_nil)))
      (pss_one (ps_ret (pe_cal C_P_made_four (hr.mono (by decide)) (pa_cons (pe_fld (pv 0) rfl) (pa_cons (pv 2) (pa_cons (pe_op op_mulW (pe_fld (pv 0) rfl) (pe_fld (pv 1) rfl)) pa_nil))))))))), ?_⟩
    obtain ⟨d1, e1, t1, m1, _, _, _, _, h1, u1, _⟩ := hx.ex
    obtain ⟨d2, e2, t2, m2, _, _, _, _, h2, u2, _⟩ := hy.ex
    have dp := hx.pos
    have dq := hy.pos
    refine ⟨_, rfl, _, .ref CF, _, _, true, rfl, .own CF, R.own.ty hy.ins, R.own.kk, _, rfl, ?_⟩
    refine ⟨_, rfl, _, rfl, x, y, al, be, a, b, p, q5, rfl, hx, hy, ha, hb, ?_⟩
    refine ⟨_, rfl, x, CF, d1, _, .ref e1, rfl, h1, R.own.cls, R.n2, rfl, _, rfl, y, CF, d2, _, .ref e2, rfl, h2, R.own.cls, R.n2, rfl, e1, e2, _, _, rfl, .inr ⟨SqT.of u1, SqT.of u2, fun D hD => ?_⟩⟩
    refine lc_it (walk_zipT (xs := (entI p).map V.int) (ys := (entI q5).map V.int) (n := 4) rfl rfl) (fun i H' => Same H H' ∧ H' D = some (.lst ((((entI p).zip (entI q5)).take i).map fun n => V.int (n.1 * q5.d + n.2 * p.d)))) ⟨same_upd hD, upd_same⟩ (fun i H' _ hp => ⟨SqT.of (hp.1 _ _ u1), SqT.of (hp.1 _ _ u2)⟩) (fun i v H' H'' hi hp hY => ?_) (fun H' hp => ?_)
    · obtain ⟨k1, hd⟩ := hp
      obtain ⟨TT, n1, n2, rfl, hT, rfl, g1, g2⟩ := hY
      obtain ⟨z1, hz1, rfl⟩ := int_of_map' g1
      obtain ⟨z2, hz2, rfl⟩ := int_of_map' g2
      have bz : ∀ {r : Q5} {z : Int}, Bd 1400 r → (entI r)[i]? = some z → z.natAbs < 2 ^ 1400 := fun {r z} b h => by
        have hm := List.mem_of_getElem? h
        have c : z = r.w ∨ z = r.x ∨ z = r.y ∨ z = r.z := by simpa [entI] using hm
        rcases c with rfl | rfl | rfl | rfl
        · exact b.1
        · exact b.2.1
        · exact b.2.2.1
        · exact b.2.2.2.1
      have k2 := k1.trans (same_upd (o := .tup [V.int z1, V.int z2]) hT)
      refine ⟨TT, _, rfl, .inl (.inl upd_same), rfl, _, _, rfl, _, _, rfl, rfl, rfl, ?_⟩
      refine ⟨_, rfl, _, rfl, y, CF, d2, _, .int q5.d, rfl, k2 _ _ h2, R.own.cls, R.n3, rfl, _, _, rfl, rfl, wmul (bz bp hz1) bq.2.2.2.2 (by decide) (by decide) (by decide), ?_⟩
      refine ⟨_, rfl, _, rfl, x, CF, d1, _, .int p.d, rfl, k2 _ _ h1, R.own.cls, R.n3, rfl, _, _, rfl, rfl, wmul (bz bq hz2) bp.2.2.2.2 (by decide) (by decide) (by decide), _, _, rfl, rfl, _, by rw [upd_ne (ne_of_none hd hT)]; exact hd, ?_, ?_, ?_⟩
      · rw [List.length_map]
        have := List.length_take_le' i ((entI p).zip (entI q5))
        exact Nat.lt_of_le_of_lt this (by show 4 < sizeLine; decide)
      · intro c o ec
        rw [upd_ne (ne_of_none ec hD)]
        exact k2 _ _ ec
      · have hz : ((entI p).zip (entI q5))[i]? = some (z1, z2) := by
          rw [List.getElem?_zip_eq_some]
          exact ⟨hz1, hz2⟩
        rw [upd_same, List.take_add_one, hz, List.map_append]
        rfl
    · obtain ⟨k1, hd⟩ := hp
      refine ⟨D, _, rfl, .inl ⟨SqL.of hd, fun t ht => ?_⟩⟩
      have et : (((entI p).zip (entI q5)).take 4).map (fun n => V.int (n.1 * q5.d + n.2 * p.d)) = ents (addQ a b p q5) := rfl
      rw [et]
      have k2 := k1.trans (same_upd (o := .tup (ents (addQ a b p q5))) ht)
      refine ⟨_, rfl, x, CF, d1, _, .ref al, rfl, k2 _ _ h1, R.own.cls, R.n1, rfl, _, rfl, _, rfl, x, CF, d1, _, .int p.d, rfl, k2 _ _ h1, R.own.cls, R.n3, rfl, _, rfl, y, CF, d2, _, .int q5.d, rfl, k2 _ _ h2, R.own.cls, R.n3, rfl, _, _, rfl, rfl, wmul bp.2.2.2.2 bq.2.2.2.2 (by decide) (by decide) (by decide), ?_⟩
      refine ⟨⟨al, t, a, b, addQ a b p q5, rfl, ha.same k2, upd_same, ?_, ?_, hlow, fun r z H' hl hz e hF => q r z H' hl (k2.free hz) (k2.trans e) hF⟩⟩
      · exact Int.mul_ne_zero (by omega) (by omega)
      · exact Nat.lt_of_lt_of_le (wide_lt bp.2.2.2.2 bq.2.2.2.2) (Nat.pow_le_pow_right (by decide) (by decide))
end
end Sf

namespace Sf
open PySem PySem.Spec PyProof.Rows L2
/-- the same four: cross products -/
def Cross (p q : Q5) : Prop := p.w * q.d = q.w * p.d ∧ p.x * q.d = q.x * p.d ∧ p.y * q.d = q.y * p.d ∧ p.z * q.d = q.z * p.d
theorem Cross.symm {p q : Q5} (h : Cross p q) : Cross q p := ⟨h.1.symm, h.2.1.symm, h.2.2.1.symm, h.2.2.2.symm⟩
theorem cr1 {a b c d e f : Int} (h1 : a * d = b * e) (h2 : b * f = c * d) (d0 : d ≠ 0) : a * f = c * e := by
  have h : (a * f) * d = (c * e) * d := by
    calc (a * f) * d = (a * d) * f := by simp only [Int.mul_comm, Int.mul_left_comm]
      _ = (b * e) * f := by rw [h1]
      _ = (b * f) * e := by simp only [Int.mul_comm, Int.mul_left_comm]
      _ = (c * d) * e := by rw [h2]
      _ = (c * e) * d := by simp only [Int.mul_comm, Int.mul_left_comm]
  exact Int.eq_of_mul_eq_mul_right d0 h
theorem Cross.trans {p q r : Q5} (h : Cross p q) (g : Cross q r) (d0 : q.d ≠ 0) : Cross p r := ⟨cr1 h.1 g.1 d0, cr1 h.2.1 g.2.1 d0, cr1 h.2.2.1 g.2.2.1 d0, cr1 h.2.2.2 g.2.2.2 d0⟩
def Nrm (r : Q5) : Prop := 0 < r.d ∧ gcd5 r.w r.x r.y r.z r.d = 1
theorem Low5.cross {p r : Q5} (h : Low5 p r) : Cross p r := ⟨h.2.1, h.2.2.1, h.2.2.2.1, h.2.2.2.2.1⟩
theorem Low5.nrm {p r : Q5} (h : Low5 p r) : Nrm r := ⟨h.1, h.2.2.2.2.2⟩
theorem low5_mk {p r : Q5} (n : Nrm r) (c : Cross p r) : Low5 p r := ⟨n.1, c.1, c.2.1, c.2.2.1, c.2.2.2, n.2⟩
theorem nrm_dvd {r s : Q5} (hr : Nrm r) (c : Cross r s) : r.d.natAbs ∣ s.d.natAbs := by
  have e : ∀ {a b : Int}, a * s.d = b * r.d → r.d.natAbs ∣ a.natAbs * s.d.natAbs := fun {a b} e => by
    rw [← Int.natAbs_mul, e, Int.natAbs_mul]
    exact Nat.dvd_mul_left _ _
  have g : r.d.natAbs ∣ (gcd5 r.w r.x r.y r.z r.d) * s.d.natAbs := by
    unfold gcd5
    rw [← Nat.gcd_mul_right, ← Nat.gcd_mul_right, ← Nat.gcd_mul_right, ← Nat.gcd_mul_right]
    exact Nat.dvd_gcd (Nat.dvd_gcd (Nat.dvd_gcd (Nat.dvd_gcd (e c.1) (e c.2.1)) (e c.2.2.1)) (e c.2.2.2)) (Nat.dvd_mul_right _ _)
  rw [hr.2, Nat.one_mul] at g
  exact g
theorem nrm_uni {r s : Q5} (hr : Nrm r) (hs : Nrm s) (c : Cross r s) : r = s := by
  have d : r.d = s.d := by
    have := Nat.dvd_antisymm (nrm_dvd hr c) (nrm_dvd hs c.symm)
    have h1 := hr.1
    have h2 := hs.1
    omega
  obtain ⟨w, x, y, z, d1⟩ := r
  obtain ⟨w', x', y', z', d2⟩ := s
  obtain ⟨h1, h2, h3, h4⟩ := c
  obtain ⟨hp, _⟩ := hr
  dsimp only at *
  subst d
  have d0 : d1 ≠ 0 := by omega
  rw [Int.eq_of_mul_eq_mul_right d0 h1, Int.eq_of_mul_eq_mul_right d0 h2, Int.eq_of_mul_eq_mul_right d0 h3, Int.eq_of_mul_eq_mul_right d0 h4]
theorem low5_uni {p q r s : Q5} (hr : Low5 p r) (hs : Low5 q s) (c : Cross p q) (p0 : p.d ≠ 0) (q0 : q.d ≠ 0) : r = s :=
  nrm_uni hr.nrm hs.nrm ((hr.cross.symm.trans c p0).trans hs.cross q0)
theorem FourAt.nrm {CF CR : Addr} {H : Hp} {x al : Addr} {a b : Int} {q : Q5} (h : FourAt CF CR H x al a b q) : Nrm q := ⟨h.pos, h.low⟩
theorem Cross.refl (p : Q5) : Cross p p := ⟨rfl, rfl, rfl, rfl⟩
theorem low_self {q r : Q5} (n : Nrm q) (h : Low5 q r) : r = q := nrm_uni h.nrm n h.cross.symm
theorem negQ_nrm {q : Q5} (n : Nrm q) : Nrm (negQ q) := by
  refine ⟨n.1, ?_⟩
  have h := n.2
  unfold gcd5 negQ at *
  dsimp only
  rw [Int.natAbs_neg, Int.natAbs_neg, Int.natAbs_neg, Int.natAbs_neg]
  exact h
theorem add_neg (a b : Int) (p q : Q5) : addQ a b p (negQ q) = subQ a b p q := by
  unfold addQ negQ subQ
  dsimp only
  rw [Int.neg_mul, Int.neg_mul, Int.neg_mul, Int.neg_mul]
  rfl
/-! powers -/
def oneQ : Q5 := ⟨1, 0, 0, 0, 1⟩
def pw (a b : Int) (p : Q5) : Nat → Q5
  | 0 => oneQ
  | n + 1 => prodQ a b (pw a b p n) p
theorem q5_ext {p q : Q5} (h1 : p.w = q.w) (h2 : p.x = q.x) (h3 : p.y = q.y) (h4 : p.z = q.z) (h5 : p.d = q.d) : p = q := by
  obtain ⟨_, _, _, _, _⟩ := p
  obtain ⟨_, _, _, _, _⟩ := q
  dsimp only at *
  subst h1 h2 h3 h4 h5
  rfl
theorem prod_assoc (a b : Int) (p q r : Q5) : prodQ a b (prodQ a b p q) r = prodQ a b p (prodQ a b q r) := by
  unfold prodQ
  refine q5_ext ?_ ?_ ?_ ?_ ?_ <;> dsimp only <;> grind
theorem one_prod (a b : Int) (p : Q5) : prodQ a b oneQ p = p := by
  unfold prodQ oneQ
  refine q5_ext ?_ ?_ ?_ ?_ ?_ <;> dsimp only <;> grind
theorem prod_one (a b : Int) (p : Q5) : prodQ a b p oneQ = p := by
  unfold prodQ oneQ
  refine q5_ext ?_ ?_ ?_ ?_ ?_ <;> dsimp only <;> grind
theorem pw_succ' (a b : Int) (p : Q5) : ∀ n, pw a b p (n + 1) = prodQ a b p (pw a b p n)
  | 0 => by
    show prodQ a b oneQ p = prodQ a b p oneQ
    rw [one_prod, prod_one]
  | n + 1 => by
    show prodQ a b (pw a b p (n + 1)) p = prodQ a b p (prodQ a b (pw a b p n) p)
    rw [pw_succ' a b p n, prod_assoc]
theorem pw_sq (a b : Int) (p : Q5) : ∀ n, pw a b (prodQ a b p p) n = pw a b p (2 * n)
  | 0 => rfl
  | n + 1 => by
    show prodQ a b (pw a b (prodQ a b p p) n) (prodQ a b p p) = prodQ a b (prodQ a b (pw a b p (2 * n)) p) p
    rw [pw_sq a b p n, prod_assoc]
def invQ (a b : Int) (p : Q5) : Q5 := ⟨p.w * p.d, -p.x * p.d, -p.y * p.d, -p.z * p.d, normT a b p⟩
end Sf

namespace Sf
open PySem PySem.Spec PyProof.Rows L2
section
variable {P : Program} {w : World} {K : PySem.W.Frag} {mg : Str → Option Value} {base : Heap} {f : Addr} {fd : FuncData} {CR CA CF : Addr}
theorem ok_Four_sub (F : FnD K "__sub__" "Four.__sub__" s_P_Four___sub__ f fd) (T : Glob mg) (R : FourK K CF) (G_Four : mg "Four" = some (.ref CF)) (O_Four : OwnK K CF) (M_Four_neg : CalM P w K mg base 10 "__neg__" CF ["self"] (spFour1 CF CR CA negQ)) (M_Four_add : CalM P w K mg base 10 "__add__" CF ["self", "other"] (spFourOp CF CR CA addQ)) :
    FnOk P w K mg base CX0 12 f fd ["self", "other"] (spFourOp CF CR CA subQ) := by
  refine F.ok sc_P_Four___sub__ (fun vs H Q E h => ?_) (fun cdv A outer s H vs Q E hr h => ?_)
  · obtain ⟨x, y, al, be, a, b, p, q, rfl, _⟩ := h.ex; rfl
  · obtain ⟨x, y, al, be, a, b, p, q5, rfl, hx, hy, ha, hb, bp, bq, hlow, q⟩ := h.ex
    refine ⟨_, PSs.nox (pss_cons (ps_if (pt_not (pt_val (pe_callB call_isi (by rfl) T.m_isinstance (by decide +kernel) (pa_cons (pv 1) (pa_cons (pe_glob (v := .ref _) rfl G_Four rfl) pa_nil))))) (pss_one ps_never) pss_nil)
      (pss_one (ps_ret (pe_op (op_own (M_Four_add.me.cast (by decide +kernel)) M_Four_add.ok (hr.mono (by decide)) M_Four_add.b pass0 O_Four.sf) (pv 0) (pe_un (un_own M_Four_neg.me M_Four_neg.ok (hr.mono (by decide)) M_Four_neg.b pass0) (pv 1)))))), ?_⟩
    refine ⟨_, rfl, _, .ref CF, _, _, true, rfl, .own CF, R.own.ty hy.ins, R.own.kk, _, rfl, ?_⟩
    have nn := negQ_nrm hy.nrm
    have dq := hy.pos
    have bn : Bd 1400 (negQ q5) := ⟨by show (-q5.w).natAbs < _; rw [Int.natAbs_neg]; exact bq.1, by show (-q5.x).natAbs < _; rw [Int.natAbs_neg]; exact bq.2.1, by show (-q5.y).natAbs < _; rw [Int.natAbs_neg]; exact bq.2.2.1, by show (-q5.z).natAbs < _; rw [Int.natAbs_neg]; exact bq.2.2.2.1, bq.2.2.2.2⟩
    refine ⟨_, rfl, _, rfl, y, rfl, hy.ins, ⟨y, be, a, b, q5, rfl, hy, hb, bd_mono bq (by decide), fun r hr => by rw [low_self nn hr]; exact bd_mono bn (by decide), fun r z H1 hl hz e1 hF => ?_⟩⟩
    have er := low_self nn hl
    subst er
    exact ⟨x, z, rfl, rfl, (hx.same e1).ins, hF.ins, ⟨x, z, al, be, a, b, p, negQ q5, rfl, hx.same e1, hF, ha.same e1, hb.same e1, bp, bn, fun r hr => hlow r (by rw [← add_neg a b p q5]; exact hr), fun r z2 H2 hl2 hz2 e2 hF2 => q r z2 H2 (by rw [← add_neg a b p q5]; exact hl2) (e1.free hz2) (e1.trans e2) hF2⟩⟩
structure BasisP (CF CR CA : Addr) (vs : List V) (H : Hp) (Q : VK) : Prop where
  ex : ∃ (al : Addr) (a b : Int), vs = [.ref al] ∧ AlgAt CA H al a b ∧ ∀ (x0 x1 x2 x3 t : Addr) (H' : Hp), Same H H' → H' t = some (.tup [.ref x0, .ref x1, .ref x2, .ref x3]) → FourAt CF CR H' x0 al a b ⟨1, 0, 0, 0, 1⟩ → FourAt CF CR H' x1 al a b ⟨0, 1, 0, 0, 1⟩ → FourAt CF CR H' x2 al a b ⟨0, 0, 1, 0, 1⟩ → FourAt CF CR H' x3 al a b ⟨0, 0, 0, 1, 1⟩ → Q (.ref t) H'
def spBasis (CF CR CA : Addr) : Sp := fun vs H Q _ => BasisP CF CR CA vs H Q
theorem unit_four {CF CR CA : Addr} {H : Hp} {al e x dx : Addr} {a b i j k l : Int} {R : VK} (hi : i = 0 ∨ i = 1) (hj : j = 0 ∨ j = 1) (hk : k = 0 ∨ k = 1) (hl : l = 0 ∨ l = 1) (hal : AlgAt CA H al a b) (he : H e = some (.tup [.int i, .int j, .int k, .int l]))
    (hx : H x = none) (hd : H dx = none) (nd : dx ≠ x) (q : ∀ (H' : Hp), Same H H' → FourAt CF CR H' x al a b ⟨i, j, k, l, 1⟩ → R .non H') : FourInitP CF CR CA [.ref x, .ref al, .ref e, .int 1] (upd (upd H dx (.own x)) x (.ins CF dx [])) R := by
  have o : ∀ {i : Int}, i = 0 ∨ i = 1 → i.natAbs < 10 ^ 60 ∧ i.natAbs < 2 ^ 3000 := fun h => by
    rcases h with rfl | rfl
    · exact ⟨by decide +kernel, by decide +kernel⟩
    · exact ⟨by decide +kernel, by decide +kernel⟩
  have one := o (.inr (rfl : (1 : Int) = 1))
  have bd : Bd 3000 ⟨i, j, k, l, 1⟩ := ⟨(o hi).2, (o hj).2, (o hk).2, (o hl).2, one.2⟩
  exact new_four (p := ⟨i, j, k, l, 1⟩) hal he (by show (1 : Int) ≠ 0; decide) ⟨(o hi).1, (o hj).1, (o hk).1, (o hl).1, one.1⟩ bd (fun r hr => by rw [low_one_q hr]; exact bd) hx hd nd fun r H' hr e hF => by
    have er := low_one_q hr
    subst er
    exact q H' e hF
theorem ok_Algebra_basis (F : FnD K "basis" "Algebra.basis" s_P_Algebra_basis f fd) (N_Four_2 : CalC P w K mg base 7 "Four" CF ["self", "algebra", "entries", "bottom"] [.int 1] (spFourInit CF CR CA)) : FnOk P w K mg base CX0 9 f fd ["self"] (spBasis CF CR CA) := by
  refine F.ok sc_P_Algebra_basis (fun vs H Q E h => ?_) (fun cdv A outer s H vs Q E hr h => ?_)
  · obtain ⟨al, a, b, rfl, _⟩ := h.ex; rfl
  · obtain ⟨al, a, b, rfl, ha, q⟩ := h.ex
    refine ⟨_, PSs.nox (pss_one (ps_ret (pe_tup (pa_cons (pe_new N_Four_2 (hr.mono (by decide)) (pa_cons (pv 0) (pa_cons (pe_tup (pa_cons pe_int (pa_cons pe_int (pa_cons pe_int (pa_cons pe_int pa_nil))))) pa_nil))) (pa_cons (pe_new N_Four_2 (hr.mono (by decide)) (pa_cons (pv 0) (pa_cons (pe_tup (pa_cons pe_int (pa_cons pe_int (pa_cons pe_int (pa_cons pe_int pa_nil))))) pa_nil))) (pa_cons (pe_new N_Four_2 (hr.mono (by decide)) (pa_cons (pv 0) (pa_cons (pe_tup (pa_cons pe_int (pa_cons pe_int (pa_cons pe_int (pa_cons pe_int pa_nil))))) pa_nil))) (pa_cons (pe_new N_Four_2 (hr.mono (by decide)) (pa_cons (pv 0) (pa_cons (pe_tup (pa_cons pe_int (pa_cons pe_int (pa_cons pe_int (pa_cons pe_int pa_nil))))) pa_nil))) pa_nil))))))), ?_⟩
    refine ⟨_, rfl, (by show 4 ≤ sizeLine; decide), fun e0 he0 => fun x0 dx0 hx0 hd0 nd0 => unit_four (.inr rfl) (.inl rfl) (.inl rfl) (.inl rfl) (ha.same (same_upd he0)) upd_same hx0 hd0 nd0 fun H0 k0 f0 => ⟨rfl, ?_⟩⟩
    have s0 := (same_upd (o := .tup [V.int 1, V.int 0, V.int 0, V.int 0]) he0).trans k0
    refine ⟨_, rfl, (by show 4 ≤ sizeLine; decide), fun e1 he1 => fun x1 dx1 hx1 hd1 nd1 => unit_four (.inl rfl) (.inr rfl) (.inl rfl) (.inl rfl) ((ha.same s0).same (same_upd he1)) upd_same hx1 hd1 nd1 fun H1 k1 f1 => ⟨rfl, ?_⟩⟩
    have s1 := (same_upd (o := .tup [V.int 0, V.int 1, V.int 0, V.int 0]) he1).trans k1
    refine ⟨_, rfl, (by show 4 ≤ sizeLine; decide), fun e2 he2 => fun x2 dx2 hx2 hd2 nd2 => unit_four (.inl rfl) (.inl rfl) (.inr rfl) (.inl rfl) (((ha.same s0).same s1).same (same_upd he2)) upd_same hx2 hd2 nd2 fun H2 k2 f2 => ⟨rfl, ?_⟩⟩
    have s2 := (same_upd (o := .tup [V.int 0, V.int 0, V.int 1, V.int 0]) he2).trans k2
    refine ⟨_, rfl, (by show 4 ≤ sizeLine; decide), fun e3 he3 => fun x3 dx3 hx3 hd3 nd3 => unit_four (.inl rfl) (.inl rfl) (.inl rfl) (.inr rfl) ((((ha.same s0).same s1).same s2).same (same_upd he3)) upd_same hx3 hd3 nd3 fun H3 k3 f3 => ⟨rfl, ?_⟩⟩
    have s3 := (same_upd (o := .tup [V.int 0, V.int 0, V.int 0, V.int 1]) he3).trans k3
    refine ⟨(by show 4 ≤ sizeLine; decide), fun t ht => q x0 x1 x2 x3 t _ ((((s0.trans s1).trans s2).trans s3).trans (same_upd ht)) upd_same ?_ ?_ ?_ ?_⟩
    · exact (((f0.same s1).same s2).same s3).same (same_upd ht)
    · exact ((f1.same s2).same s3).same (same_upd ht)
    · exact (f2.same s3).same (same_upd ht)
    · exact f3.same (same_upd ht)
end
end Sf

namespace Sf
open PySem PySem.Spec PyProof.Rows L2
section
variable {P : Program} {w : World} {K : PySem.W.Frag} {mg : Str → Option Value} {base : Heap} {f : Addr} {fd : FuncData} {CR CA CF : Addr}
structure ScaledP (CF CR CA : Addr) (vs : List V) (H : Hp) (Q : VK) : Prop where
  ex : ∃ (x al : Addr) (a b t u : Int) (v : V) (p : Q5), vs = [.ref x, v] ∧ FourAt CF CR H x al a b p ∧ AlgAt CA H al a b ∧ RatV CR H v t u ∧ u ≠ 0 ∧ t.natAbs < 2 ^ 1400 ∧ u.natAbs < 2 ^ 1400 ∧ Bd 1400 p ∧
    ∀ (r : Q5) (z : Addr) (H' : Hp), Low5 (sclQ t u p) r → H z = none → Same H H' → FourAt CF CR H' z al a b r → Q (.ref z) H'
def spScaled (CF CR CA : Addr) : Sp := fun vs H Q _ => ScaledP CF CR CA vs H Q
theorem ok_Four_scaled (F : FnD K "scaled" "Four.scaled" s_P_Four_scaled f fd) (T : Glob mg) (R : FourK K CF) (C_P_check_ratio : Cal P w K mg base 4 "check_ratio" ["value"] (spRatV CR .non)) (C_P_terms_of : Cal P w K mg base 1 "terms_of" ["ratio"] (spTermsOf CR))
    (C_P_made_four : Cal P w K mg base 9 "made_four" ["algebra", "entries", "bottom"] (spMadeFour CF CR CA)) : FnOk P w K mg base CX0 10 f fd ["self", "ratio"] (spScaled CF CR CA) := by
  refine F.ok sc_P_Four_scaled (fun vs H Q E h => ?_) (fun cdv A outer s H vs Q E hr h => ?_)
  · obtain ⟨x, al, a, b, t, u, v, p, rfl, _⟩ := h.ex; rfl
  · obtain ⟨x, al, a, b, t, u, v, p, rfl, hx, ha, hv, u0, bt, bu, bp, q⟩ := h.ex
    refine ⟨_, PSs.nox (pss_cons (ps_expr (pe_cal C_P_check_ratio (hr.mono (by decide)) (pa_cons (pv 1) pa_nil)))
      (pss_cons (ps_asg (pe_cal C_P_terms_of (hr.mono (by decide)) (pa_cons (pv 1) pa_nil)) (pg_tup (by rfl) (pgs_cons (pg_name (i := 2) sc_P_Four_scaled.nd rfl (Or.inr rfl)) (pgs_cons (pg_name (i := 3) sc_P_Four_scaled.nd rfl (Or.inl rfl)) pgs_nil))))
      (pss_one (ps_ret (pe_cal C_P_made_four (hr.mono (by decide)) (pa_cons (pe_fld (pv 0) rfl) (pa_cons (pe_callTy call_tuple_of (by rfl) T.m_tuple (by decide +kernel) (pa_cons (pe_lc rfl sc_P_Four_scaled.nd (own := [("part", 4)]) (pi_tup (pe_fld (pv 0) rfl)) (blkOk_by (N := ["self", "ratio", "top", "bottom", "part"]) (sc := defScope s_P_Four_scaled) (by decide +kernel)) (fun _ _ _ _ _ => pg_name (i := 4) sc_P_Four_scaled.nd rfl (Or.inl rfl)) (fun _ _ _ _ _ => pts_nil) (fun _ _ _ _ _ => (pe_op op_mulW (pv 4) (pv 2)))) pa_nil)) (pa_cons (pe_op op_mulW (pe_fld (pv 0) rfl) (pv 3)) pa_nil)))))))), ?_⟩
    obtain ⟨d1, e1, t1, m1, _, _, _, _, h1, u1, _⟩ := hx.ex
    have dp := hx.pos
    refine ⟨_, rfl, v, t, u, rfl, hv, _, rfl, v, t, u, rfl, hv, fun c hc => ?_⟩
    have k0 := same_upd (o := .tup [V.int t, V.int u]) hc
    refine ⟨c, _, rfl, .inl (.inl upd_same), rfl, _, _, rfl, _, _, rfl, rfl, ?_⟩
    refine ⟨_, rfl, x, CF, d1, _, .ref al, rfl, k0 _ _ h1, R.own.cls, R.n1, rfl, _, rfl, x, CF, d1, _, .ref e1, rfl, k0 _ _ h1, R.own.cls, R.n2, rfl, e1, rfl, ⟨_, SqT.of (k0 _ _ u1)⟩, fun D hD => lc_tup (K := K) (a := e1) (xs := (entI p).map V.int) (fun i H' => Same (upd H c (.tup [V.int t, V.int u])) H' ∧ H' D = some (.lst (((entI p).take i).map fun n => V.int (n * t)))) ⟨same_upd hD, upd_same⟩ (fun i H' _ hp => SqT.of (hp.1 _ _ (k0 _ _ u1))) (fun i v H' hv hp => ?_) (fun H' hp => ?_)⟩
    · obtain ⟨k1, hd⟩ := hp
      obtain ⟨n, hn, rfl⟩ := int_of_map' hv
      have bn : n.natAbs < 2 ^ 1400 := by
        have hm := List.mem_of_getElem? hn
        have c : n = p.w ∨ n = p.x ∨ n = p.y ∨ n = p.z := by simpa [entI] using hm
        rcases c with rfl | rfl | rfl | rfl
        · exact bp.1
        · exact bp.2.1
        · exact bp.2.2.1
        · exact bp.2.2.2.1
      refine ⟨rfl, _, rfl, _, rfl, _, _, rfl, rfl, wmul bn bt (by decide) (by decide) (by decide), _, hd, ?_, ?_, ?_⟩
      · rw [List.length_map]
        have := List.length_take_le' i (entI p)
        exact Nat.lt_of_le_of_lt this (by show 4 < sizeLine; decide)
      · intro b o eb
        rw [upd_ne (ne_of_none eb hD)]
        exact k1 _ _ eb
      · rw [upd_same, List.take_add_one, hn, List.map_append]; rfl
    · obtain ⟨k1, hd⟩ := hp
      refine ⟨D, _, rfl, .inl ⟨SqL.of hd, fun tt htt => ?_⟩⟩
      have et : ((entI p).take ((entI p).map V.int).length).map (fun n => V.int (n * t)) = ents (sclQ t u p) := rfl
      rw [et]
      have k2 := (k0.trans k1).trans (same_upd (o := .tup (ents (sclQ t u p))) htt)
      have bs : Bd 2800 (sclQ t u p) := ⟨wide_lt bp.1 bt, wide_lt bp.2.1 bt, wide_lt bp.2.2.1 bt, wide_lt bp.2.2.2.1 bt, wide_lt bp.2.2.2.2 bu⟩
      have d0 : (sclQ t u p).d ≠ 0 := Int.mul_ne_zero (by omega) u0
      refine ⟨_, rfl, x, CF, d1, _, .int p.d, rfl, k2 _ _ h1, R.own.cls, R.n3, rfl, _, rfl, _, _, rfl, rfl, wmul bp.2.2.2.2 bu (by decide) (by decide) (by decide), ⟨al, tt, a, b, sclQ t u p, rfl, ha.same k2, upd_same, d0, lt_mono bs.2.2.2.2 (by decide), fun r hr => bd_mono (low5_bd d0 hr bs) (by decide), fun r z H'' hl hz e hF => q r z H'' hl (k2.free hz) (k2.trans e) hF⟩⟩
end
end Sf

namespace Sf
open PySem PySem.Spec PyProof.Rows L2
theorem lowT_bd {t b t' b' : Int} (b0 : b ≠ 0) (h : LowT t b t' b') : t'.natAbs ≤ t.natAbs ∧ b'.natAbs ≤ b.natAbs := by
  obtain ⟨h0, h1, h2⟩ := h
  have e : t.natAbs * b'.natAbs = t'.natAbs * b.natAbs := by rw [← Int.natAbs_mul, ← Int.natAbs_mul, h1]
  have dv : b'.natAbs ∣ b.natAbs := by
    have d : b'.natAbs ∣ t'.natAbs * b.natAbs := by rw [← e]; exact Nat.dvd_mul_left _ _
    exact Nat.Coprime.dvd_of_dvd_mul_left (by rw [Nat.coprime_comm]; exact h2) d
  have le : b'.natAbs ≤ b.natAbs := Nat.le_of_dvd (by omega) dv
  refine ⟨?_, le⟩
  have h3 : t'.natAbs * b.natAbs ≤ t.natAbs * b.natAbs := by
    rw [← e]
    exact Nat.mul_le_mul_left _ le
  exact Nat.le_of_mul_le_mul_right h3 (by omega)
theorem normT_bd {a b : Int} {p : Q5} {n k : Nat} (ha : a.natAbs < 2 ^ k) (hb : b.natAbs < 2 ^ k) (hp : Bd n p) : (normT a b p).natAbs < 2 ^ (n + n + 2 * k + 2) := by
  have h := (prodQ_bd ha hb hp (q := mateQ p) (n := n) ⟨hp.1, by show (-p.x).natAbs < _; rw [Int.natAbs_neg]; exact hp.2.1, by show (-p.y).natAbs < _; rw [Int.natAbs_neg]; exact hp.2.2.1, by show (-p.z).natAbs < _; rw [Int.natAbs_neg]; exact hp.2.2.2.1, hp.2.2.2.2⟩).1
  have e : (prodQ a b p (mateQ p)).w = normT a b p := by
    unfold prodQ mateQ normT
    dsimp only
    grind
  rw [e] at h
  exact h
section
variable {P : Program} {w : World} {K : PySem.W.Frag} {mg : Str → Option Value} {base : Heap} {f : Addr} {fd : FuncData} {CR CA CF : Addr}
structure InverseP (CF CR CA : Addr) (vs : List V) (H : Hp) (Q : VK) : Prop where
  ex : ∃ (x al : Addr) (a b : Int) (p : Q5), vs = [.ref x] ∧ FourAt CF CR H x al a b p ∧ AlgAt CA H al a b ∧ a.natAbs < 2 ^ 10 ∧ b.natAbs < 2 ^ 10 ∧ Bd 600 p ∧ normT a b p ≠ 0 ∧
    ∀ (r : Q5) (z : Addr) (H' : Hp), Low5 (invQ a b p) r → H z = none → Same H H' → FourAt CF CR H' z al a b r → Q (.ref z) H'
def spInverse (CF CR CA : Addr) : Sp := fun vs H Q _ => InverseP CF CR CA vs H Q
def invP (p : Q5) (n1 n2 : Int) : Q5 := ⟨p.w * n2, -p.x * n2, -p.y * n2, -p.z * n2, p.d * n1⟩
theorem inv_cross {a b n1 n2 : Int} {p : Q5} (h : LowT (normT a b p) (p.d * p.d) n1 n2) : Cross (invQ a b p) (invP p n1 n2) := by
  have e := h.2.1
  unfold Cross invQ invP
  dsimp only
  generalize normT a b p = N at *
  refine ⟨?_, ?_, ?_, ?_⟩ <;> grind
theorem ok_Four_inverse (F : FnD K "inverse" "Four.inverse" s_P_Four_inverse f fd) (T : Glob mg) (R : FourK K CF) (RR : RatioK K CR) (M_Ratio_bool : CalM P w K mg base 1 "__bool__" CR ["self"] (spRatBool CR)) (C_P_mate_entries : Cal P w K mg base 1 "mate_entries" ["entries"] spMateE)
    (C_P_made_four : Cal P w K mg base 9 "made_four" ["algebra", "entries", "bottom"] (spMadeFour CF CR CA)) : FnOk P w K mg base CX0 10 f fd ["self"] (spInverse CF CR CA) := by
  refine F.ok sc_P_Four_inverse (fun vs H Q E h => ?_) (fun cdv A outer s H vs Q E hr h => ?_)
  · obtain ⟨x, al, a, b, p, rfl, _⟩ := h.ex; rfl
  · obtain ⟨x, al, a, b, p, rfl, hx, ha, ba, bb, bp, nz, q⟩ := h.ex
    refine ⟨_, PSs.nox (pss_cons (ps_if (pt_not (pt_truthR (pe_fld (pv 0) rfl) (tru_own M_Ratio_bool.me M_Ratio_bool.ok (hr.mono (by decide)) M_Ratio_bool.b pass0) (fun _ => rfl))) (pss_one ps_never) pss_nil)
      (pss_cons (ps_set (i := 1) sc_P_Four_inverse.nd rfl (Or.inl rfl) (pe_callTy call_tuple_of (by rfl) T.m_tuple (by decide +kernel) (pa_cons (pe_lc rfl sc_P_Four_inverse.nd (own := [("part", 2)]) (pi_tup (pe_cal C_P_mate_entries (hr.mono (by decide)) (pa_cons (pe_fld (pv 0) rfl) pa_nil))) (blkOk_by (N := ["self", "entries", "part"]) (sc := defScope s_P_Four_inverse) (by decide +kernel)) (fun _ _ _ _ _ => pg_name (i := 2) sc_P_Four_inverse.nd rfl (Or.inl rfl)) (fun _ _ _ _ _ => pts_nil) (fun _ _ _ _ _ => (pe_op op_mulW (pv 2) (pe_fldK (K := K) rfl (pe_fldK (K := K) rfl (pv 0) rfl) rfl)))) pa_nil)))
      (pss_one (ps_ret (pe_cal C_P_made_four (hr.mono (by decide)) (pa_cons (pe_fld (pv 0) rfl) (pa_cons (pv 1) (pa_cons (pe_op op_mulW (pe_fld (pv 0) rfl) (pe_fld (pe_fld (pv 0) rfl) rfl)) pa_nil)))))))), ?_⟩
    obtain ⟨d1, e1, tr, nm, t1, t2, n1, n2, h1, u1, _, _, hN, lN⟩ := hx.ex
    have dp := hx.pos
    have dd : p.d * p.d ≠ 0 := Int.mul_ne_zero (by omega) (by omega)
    have n10 : n1 ≠ 0 := fun z => by
      have e := lN.2.1
      rw [z, Int.zero_mul] at e
      exact nz ((Int.mul_eq_zero.mp e).resolve_right (by have := lN.1; omega))
    obtain ⟨c1, c2⟩ := lowT_bd dd lN
    have bN := normT_bd ba bb bp
    have b1 : n1.natAbs < 2 ^ 1222 := Nat.lt_of_le_of_lt c1 bN
    have b2 : n2.natAbs < 2 ^ 1222 := Nat.lt_of_le_of_lt c2 (lt_mono (wide_lt bp.2.2.2.2 bp.2.2.2.2) (by decide))
    have hb : (n1 != 0) = true := by simpa using n10
    refine ⟨_, rfl, x, CF, d1, _, .ref nm, rfl, h1, R.own.cls, R.n5, rfl, nm, rfl, hN.ins, nm, n1, n2, rfl, hN, _, rfl, ifnb (fun h => absurd (h.symm.trans hb) (by decide)) (fun _ => ?_)⟩
    refine ⟨_, rfl, x, CF, d1, _, .ref e1, rfl, h1, R.own.cls, R.n2, rfl, e1, p, rfl, u1, fun me hme => ?_⟩
    have k0 := same_upd (o := .tup (ents (mateQ p))) hme
    refine ⟨me, rfl, ⟨_, SqT.of upd_same⟩, fun D hD => lc_tup (K := K) (a := me) (xs := (entI (mateQ p)).map V.int) (fun i H' => Same (upd H me (.tup (ents (mateQ p)))) H' ∧ H' D = some (.lst (((entI (mateQ p)).take i).map fun n => V.int (n * n2)))) ⟨same_upd hD, upd_same⟩ (fun i H' _ hp => SqT.of (hp.1 _ _ upd_same)) (fun i v H' hv hp => ?_) (fun H' hp => ?_)⟩
    · obtain ⟨k1, hd⟩ := hp
      obtain ⟨n, hn, rfl⟩ := int_of_map' hv
      have bn : n.natAbs < 2 ^ 600 := by
        have hm := List.mem_of_getElem? hn
        have c : n = p.w ∨ n = -p.x ∨ n = -p.y ∨ n = -p.z := by simpa [entI, mateQ] using hm
        rcases c with rfl | rfl | rfl | rfl
        · exact bp.1
        · rw [Int.natAbs_neg]; exact bp.2.1
        · rw [Int.natAbs_neg]; exact bp.2.2.1
        · rw [Int.natAbs_neg]; exact bp.2.2.2.1
      have hN' := (hN.same k0).same k1
      obtain ⟨dR, hR⟩ := hN'
      refine ⟨rfl, _, rfl, _, rfl, x, CF, d1, _, .ref nm, rfl, k1 _ _ (k0 _ _ h1), R.own.cls, R.n5, rfl, nm, CR, dR, _, .int n2, rfl, hR, RR.own.cls, RR.nb, rfl, _, _, rfl, rfl, wmul bn b2 (by decide) (by decide) (by decide), _, hd, ?_, ?_, ?_⟩
      · rw [List.length_map]
        have := List.length_take_le' i (entI (mateQ p))
        exact Nat.lt_of_le_of_lt this (by show 4 < sizeLine; decide)
      · intro b o eb
        rw [upd_ne (ne_of_none eb hD)]
        exact k1 _ _ eb
      · rw [upd_same, List.take_add_one, hn, List.map_append]; rfl
    · obtain ⟨k1, hd⟩ := hp
      refine ⟨D, _, rfl, .inl ⟨SqL.of hd, fun tt htt => ?_⟩⟩
      have et : ((entI (mateQ p)).take ((entI (mateQ p)).map V.int).length).map (fun n => V.int (n * n2)) = ents (invP p n1 n2) := rfl
      rw [et]
      have k2 := (k0.trans k1).trans (same_upd (o := .tup (ents (invP p n1 n2))) htt)
      obtain ⟨dR, hR⟩ := hN.same k2
      have neg : ∀ {i : Int}, i.natAbs < 2 ^ 600 → (-i).natAbs < 2 ^ 600 := fun h => by rw [Int.natAbs_neg]; exact h
      have bs : Bd 1822 (invP p n1 n2) := ⟨wide_lt bp.1 b2, wide_lt (neg bp.2.1) b2, wide_lt (neg bp.2.2.1) b2, wide_lt (neg bp.2.2.2.1) b2, wide_lt bp.2.2.2.2 b1⟩
      have d0 : (invP p n1 n2).d ≠ 0 := Int.mul_ne_zero (by omega) n10
      refine ⟨_, rfl, x, CF, d1, _, .ref al, rfl, k2 _ _ h1, R.own.cls, R.n1, rfl, _, rfl, _, rfl, x, CF, d1, _, .int p.d, rfl, k2 _ _ h1, R.own.cls, R.n3, rfl, _, rfl, x, CF, d1, _, .ref nm, rfl, k2 _ _ h1, R.own.cls, R.n5, rfl, nm, CR, dR, _, .int n1, rfl, hR, RR.own.cls, RR.nt, rfl, _, _, rfl, rfl, wmul bp.2.2.2.2 b1 (by decide) (by decide) (by decide), ⟨al, tt, a, b, invP p n1 n2, rfl, ha.same k2, upd_same, d0, lt_mono bs.2.2.2.2 (by decide), fun r hr => bd_mono (low5_bd d0 hr bs) (by decide), fun r z H'' hl hz e hF => q r z H'' (low5_mk hl.nrm ((inv_cross lN).trans hl.cross d0)) (k2.free hz) (k2.trans e) hF⟩⟩
structure Pow0P (CF CR CA : Addr) (vs : List V) (H : Hp) (Q : VK) : Prop where
  ex : ∃ (x al : Addr) (a b : Int) (p : Q5) (n : Nat), vs = [.ref x, .int n] ∧ FourAt CF CR H x al a b p ∧ AlgAt CA H al a b ∧ a.natAbs < 2 ^ 10 ∧ b.natAbs < 2 ^ 10 ∧ Bd 130 p ∧ n ≤ 5 ∧
    ∀ (r : Q5) (z : Addr) (H' : Hp), Low5 (pw a b p n) r → H z = none → Same H H' → FourAt CF CR H' z al a b r → Q (.ref z) H'
def spPow0 (CF CR CA : Addr) : Sp := fun vs H Q _ => Pow0P CF CR CA vs H Q
theorem pw_d {a b : Int} {p : Q5} (h : 0 < p.d) : ∀ n, 0 < (pw a b p n).d
  | 0 => by show (0 : Int) < 1; decide
  | n + 1 => Int.mul_pos (pw_d h n) h
set_option maxHeartbeats 8000000 in
theorem ok_pow0 (F : FnD K "power" "Four.power" s_P_Four_power f fd) (T : Glob mg) (R : FourK K CF) (C_P_is_passed : Cal P w K mg base 2 "is_passed" ["value"] (spPassed K)) (C_P_product_entries : Cal P w K mg base 1 "product_entries" ["algebra", "one", "other"] (spProd CA)) (C_P_made_four : Cal P w K mg base 9 "made_four" ["algebra", "entries", "bottom"] (spMadeFour CF CR CA))
    (O_Four : OwnK K CF) (M_Four_inverse : CalM P w K mg base 10 "inverse" CF ["self"] (spInverse CF CR CA)) (M_Four_power : CalM P w K mg base 0 "power" CF ["self", "many"] (fun _ _ _ _ => False)) : FnOk P w K mg base CX0 11 f fd ["self", "many"] (spPow0 CF CR CA) := by
  refine F.ok sc_P_Four_power (fun vs H Q E h => ?_) (fun cdv A outer s H vs Q E hr h => ?_)
  · obtain ⟨x, al, a, b, p, n, rfl, _⟩ := h.ex; rfl
  · obtain ⟨x, al, a, b, p, n, rfl, hx, ha, ba, bb, bp, hn, q⟩ := h.ex
    obtain ⟨tM, hc_MAX_POWER⟩ := T.m_MAX_POWER
    refine ⟨_, PSs.nox (pss_cons (ps_if (PW.pt (pw_or (pt_not (pt_val (pe_cal C_P_is_passed (hr.mono (by decide)) (pa_cons (pv 1) pa_nil)))) (pw_or1 (pt_cmp (pc_gt (pe_callB call_abs (by rfl) T.m_abs (by decide +kernel) (pa_cons (pv 1) pa_nil)) (pe_glob (v := .int 1000) rfl hc_MAX_POWER ⟨_, rfl⟩)))))) (pss_one ps_never) pss_nil)
      (pss_cons (ps_if (pt_cmp (pc_lt (pv 1) pe_int)) (pss_one (ps_ret (pe_meth (pe_meth0 (pv 0) O_Four.cls M_Four_inverse.me M_Four_inverse.ok (hr.mono (by decide)) M_Four_inverse.b .nil pass0) O_Four.cls M_Four_power.me M_Four_power.ok (hr.mono (by decide)) M_Four_power.b .nil pass0 (pa_cons (pe_un un_neg (pv 1)) pa_nil)))) pss_nil)
      (pss_cons (ps_asg (pe_tup (pa_cons (pe_tup (pa_cons pe_int (pa_cons pe_int (pa_cons pe_int (pa_cons pe_int pa_nil))))) (pa_cons pe_int pa_nil))) (pg_tup (by rfl) (pgs_cons (pg_name (i := 2) sc_P_Four_power.nd rfl (Or.inl rfl)) (pgs_cons (pg_name (i := 3) sc_P_Four_power.nd rfl (Or.inl rfl)) pgs_nil))))
      (pss_cons (ps_par (i := 4) (j := 5) (by rfl) sc_P_Four_power.nd rfl rfl (by decide) rfl rfl (pa_cons (pe_fld (pv 0) rfl) (pa_cons (pe_fld (pv 0) rfl) pa_nil)) (by rfl))
      (pss_cons (ps_while PassesOwn.never (pt_cmp (pc_gt (pv 1) pe_int)) (Evl.pss_cut (ps_if (pt_cmp (pc_eqI (pe_op op_mod (pv 1) pe_int) pe_int)) (pss_one (ps_par (i := 2) (j := 3) (by rfl) sc_P_Four_power.nd rfl rfl (by decide) rfl rfl (pa_cons (pe_cal C_P_product_entries (hr.mono (by decide)) (pa_cons (pe_fld (pv 0) rfl) (pa_cons (pv 2) (pa_cons (pv 4) pa_nil)))) (pa_cons (pe_op op_mulW (pv 3) (pv 5)) pa_nil)) (by rfl))) pss_nil)
      (pss_cons (ps_set (i := 1) sc_P_Four_power.nd rfl (Or.inl rfl) (pe_op op_fdivW (pv 1) pe_int))
      (pss_one (ps_if (pt_cmp (pc_gt (pv 1) pe_int)) (pss_one (ps_par (i := 4) (j := 5) (by rfl) sc_P_Four_power.nd rfl rfl (by decide) rfl rfl (pa_cons (pe_cal C_P_product_entries (hr.mono (by decide)) (pa_cons (pe_fld (pv 0) rfl) (pa_cons (pv 4) (pa_cons (pv 4) pa_nil)))) (pa_cons (pe_op op_mulW (pv 5) (pv 5)) pa_nil)) (by rfl))) pss_nil)))))
      (pss_one (ps_ret (pe_cal C_P_made_four (hr.mono (by decide)) (pa_cons (pe_fld (pv 0) rfl) (pa_cons (pv 2) (pa_cons (pv 3) pa_nil))))))))))), ?_⟩
    obtain ⟨d1, e1, tr, nm, t1, t2, n1, n2, h1, u1, _⟩ := hx.ex
    have dp := hx.pos
    refine ⟨_, rfl, .int n, true, rfl, .int _, ⟨fun _ => ⟨_, rfl⟩, fun _ => rfl⟩, fun r hr2 => ⟨_, rfl, ?_⟩⟩
    have er : r = true := hr2.mpr ⟨_, rfl, Nat.lt_of_le_of_lt (by omega : (n : Int).natAbs ≤ 5) (by decide +kernel)⟩
    subst er
    refine ⟨_, rfl, n, rfl, _, _, rfl, rfl, _, rfl, ifd (fun h => ?_) (fun _ => ?_)⟩
    · exfalso
      split at h <;> omega
    refine ⟨_, rfl, _, _, rfl, rfl, _, rfl, ifd (fun h => by exfalso; omega) (fun _ => ?_)⟩
    refine ⟨(by show 4 ≤ sizeLine; decide), fun m0 hm0 => ⟨(by show 2 ≤ sizeLine; decide), fun mt hmt => ?_⟩⟩
    have k0 := (same_upd (o := .tup [V.int 1, V.int 0, V.int 0, V.int 0]) hm0).trans (same_upd (o := .tup [V.ref m0, V.int 1]) hmt)
    have hm0' : (upd (upd H m0 (.tup [V.int 1, V.int 0, V.int 0, V.int 0])) mt (.tup [V.ref m0, V.int 1])) m0 = some (.tup (ents oneQ)) := by
      rw [upd_ne (ne_of_none upd_same hmt), upd_same]
      rfl
    refine ⟨mt, _, rfl, .inl (.inl upd_same), rfl, _, _, rfl, _, _, rfl, rfl, ?_⟩
    refine ⟨_, rfl, x, CF, d1, _, .ref e1, rfl, k0 _ _ h1, R.own.cls, R.n2, rfl, _, rfl, x, CF, d1, _, .int p.d, rfl, k0 _ _ h1, R.own.cls, R.n3, rfl, _, _, rfl, ?_⟩
    refine ⟨fun c σ H' => ∃ (M S : Q5) (me se : Addr) (m j : Nat), σ = [some (.ref x), some (.int m), some (.ref me), some (.int M.d), some (.ref se), some (.int S.d)] ∧ c = m ∧ Same H H' ∧ H' me = some (.tup (ents M)) ∧ H' se = some (.tup (ents S)) ∧
        prodQ a b M (pw a b S m) = pw a b p n ∧ m * 2 ^ j ≤ 5 ∧ Bd (2 ^ j * 152 - 22) M ∧ (0 < m → Bd (2 ^ j * 152 - 22) S) ∧ j ≤ 3,
      ⟨n, oneQ, p, m0, e1, n, 0, rfl, rfl, k0, hm0', k0 _ _ u1, one_prod a b _, by omega, ⟨by decide +kernel, by decide +kernel, by decide +kernel, by decide +kernel, by decide +kernel⟩, fun _ => bp, by decide⟩, ?_⟩
    rintro c σ H' ⟨M, S, me, se, m, j, rfl, rfl, ks, hM, hS, inv, hj, bM, bS, j3⟩
    refine ⟨_, rfl, _, _, rfl, rfl, _, rfl, ifd (fun h => ⟨_, fun _ _ z => z, ?_⟩) (fun h => ?_)⟩
    · have m1 : 0 < c := by omega
      have bS' := bS m1
      have j2 : j ≤ 2 := by
        have c : j = 0 ∨ j = 1 ∨ j = 2 ∨ j = 3 := by omega
        rcases c with rfl | rfl | rfl | rfl <;> omega
      have mono : 2 ^ j * 152 - 22 ≤ 1400 := by
        have c : j = 0 ∨ j = 1 ∨ j = 2 := by omega
        rcases c with rfl | rfl | rfl <;> decide
      have nextb : ∀ {A B : Q5}, Bd (2 ^ j * 152 - 22) A → Bd (2 ^ j * 152 - 22) B → Bd (2 ^ (j + 1) * 152 - 22) (prodQ a b A B) := fun {A B} hA hB => by
        refine bd_mono (prodQ_bd ba bb hA hB) ?_
        rw [Nat.pow_succ]
        have : 1 ≤ 2 ^ j := Nat.one_le_two_pow
        omega
      have Mup : Bd (2 ^ (j + 1) * 152 - 22) M := bd_mono bM (by rw [Nat.pow_succ]; omega)
      have S14 := bd_mono bS' mono
      have M14 := bd_mono bM mono
      refine ⟨fun σ' H2 => ∃ (M' : Q5) (me' : Addr), σ' = [some (.ref x), some (.int c), some (.ref me'), some (.int M'.d), some (.ref se), some (.int S.d)] ∧ Same H H2 ∧ H2 me' = some (.tup (ents M')) ∧ H2 se = some (.tup (ents S)) ∧ prodQ a b M' (pw a b (prodQ a b S S) (c / 2)) = pw a b p n ∧ Bd (2 ^ (j + 1) * 152 - 22) M', ?_, ?_⟩
      · refine ⟨_, rfl, _, _, rfl, rfl, (by show (0 : Int) < 2; decide), _, _, rfl, rfl, _, rfl, ifd (fun h2 => ?_) (fun h2 => ?_)⟩
        · have odd : c = 2 * (c / 2) + 1 := by omega
          refine ⟨_, rfl, x, CF, d1, _, .ref al, rfl, ks _ _ h1, R.own.cls, R.n1, rfl, _, rfl, _, rfl, ⟨al, me, se, a, b, M, S, rfl, ha.same ks, hM, hS, M14, S14, fun t ht => ?_⟩⟩
          have kt := same_upd (o := .tup (ents (prodQ a b M S))) ht
          refine ⟨_, rfl, _, rfl, _, _, rfl, rfl, wmul M14.2.2.2.2 S14.2.2.2.2 (by decide) (by decide) (by decide), _, _, rfl, ?_⟩
          refine ⟨prodQ a b M S, t, rfl, ks.trans kt, upd_same, kt _ _ hS, ?_, nextb bM bS'⟩
          rw [pw_sq, prod_assoc, ← pw_succ', ← odd]
          exact inv
        · have even : c = 2 * (c / 2) := by omega
          refine ⟨M, me, rfl, ks, hM, hS, ?_, Mup⟩
          rw [pw_sq, ← even]
          exact inv
      · rintro σ' H2 ⟨M', me', rfl, k2, hM', hS', inv', bM'⟩
        have half : ((c : Int) / 2) = ((c / 2 : Nat) : Int) := by omega
        have hj' : c / 2 * 2 ^ (j + 1) ≤ 5 := by
          have c : j = 0 ∨ j = 1 ∨ j = 2 := by omega
          rcases c with rfl | rfl | rfl <;> omega
        refine ⟨_, rfl, _, _, rfl, rfl, CDivW.of (by decide) (lt3000s (by decide) (by decide)), ?_⟩
        refine ⟨_, rfl, _, _, rfl, rfl, _, rfl, ifd (fun h2 => ?_) (fun h2 => ?_)⟩
        · refine ⟨_, rfl, x, CF, d1, _, .ref al, rfl, k2 _ _ h1, R.own.cls, R.n1, rfl, _, rfl, _, rfl, ⟨al, se, se, a, b, S, S, rfl, ha.same k2, hS', hS', S14, S14, fun t ht => ?_⟩⟩
          have kt := same_upd (o := .tup (ents (prodQ a b S S))) ht
          refine ⟨_, rfl, _, rfl, _, _, rfl, rfl, wmul S14.2.2.2.2 S14.2.2.2.2 (by decide) (by decide) (by decide), _, _, rfl, ?_⟩
          refine ⟨c / 2, by omega, M', prodQ a b S S, me', t, c / 2, j + 1, ?_, rfl, k2.trans kt, kt _ _ hM', upd_same, inv', hj', bM', fun _ => nextb bS' bS', by omega⟩
          rw [← half]
          rfl
        · have z : c / 2 = 0 := by omega
          refine ⟨c / 2, by omega, M', S, me', se, c / 2, j + 1, ?_, rfl, k2, hM', hS', ?_, hj', bM', fun h => by omega, by omega⟩
          · rw [← half]
            rfl
          · rw [z] at inv' ⊢
            exact inv'
    · have e0 : c = 0 := by omega
      subst e0
      have eM : M = pw a b p n := by
        rw [← inv]
        exact (prod_one a b M).symm
      subst eM
      have bM' : Bd 3000 (pw a b p n) := bd_mono bM (by
        have c : j = 0 ∨ j = 1 ∨ j = 2 ∨ j = 3 := by omega
        rcases c with rfl | rfl | rfl | rfl <;> decide)
      have d0 := pw_d (a := a) (b := b) dp n
      refine ⟨_, rfl, x, CF, d1, _, .ref al, rfl, ks _ _ h1, R.own.cls, R.n1, rfl, _, rfl, _, rfl, ⟨al, me, a, b, pw a b p n, rfl, ha.same ks, hM, by omega, lt_mono bM'.2.2.2.2 (by decide), fun r hr => low5_bd (by omega) hr bM', fun r z H'' hl hz e hF => q r z H'' hl (ks.free hz) (ks.trans e) hF⟩⟩
end
end Sf

namespace Sf
open PySem PySem.Spec PyProof.Rows L2
theorem fnOr {P : Program} {w : World} {K : PySem.W.Frag} {mg : Str → Option Value} {base : Heap} {CX : CXT} {k : Nat} {f : Addr} {fd : FuncData} {ps : List Str} {sp sq sr : Sp} (F : FnOk P w K mg base CX k f fd ps sp) (G : FnOk P w K mg base CX k f fd ps sq)
    (h : ∀ vs H Q E, sr vs H Q E → sp vs H Q E ∨ sq vs H Q E) : FnOk P w K mg base CX k f fd ps sr :=
  ⟨fun vs H Q E q => (h _ _ _ _ q).elim (F.len vs H Q E) (G.len vs H Q E), fun A outer s H args us vs Q E hr he hb hv hs => (h _ _ _ _ hs).elim (F.run A outer s H args us vs Q E hr he hb hv) (G.run A outer s H args us vs Q E hr he hb hv)⟩
theorem cross_prod {a b : Int} {p q r : Q5} (h : Cross p r) : Cross (prodQ a b p q) (prodQ a b r q) := by
  obtain ⟨h1, h2, h3, h4⟩ := h
  unfold prodQ
  refine ⟨?_, ?_, ?_, ?_⟩ <;> dsimp only <;> grind
section
variable {P : Program} {w : World} {K : PySem.W.Frag} {mg : Str → Option Value} {base : Heap} {f : Addr} {fd : FuncData} {CR CA CF : Addr}
structure PowNP (CF CR CA : Addr) (vs : List V) (H : Hp) (Q : VK) : Prop where
  ex : ∃ (x al : Addr) (a b : Int) (p : Q5) (n : Nat), vs = [.ref x, .int (-(n : Int))] ∧ FourAt CF CR H x al a b p ∧ AlgAt CA H al a b ∧ a.natAbs < 2 ^ 10 ∧ b.natAbs < 2 ^ 10 ∧ Bd 41 p ∧ 1 ≤ n ∧ n ≤ 5 ∧ normT a b p ≠ 0 ∧
    ∀ (i r : Q5) (z : Addr) (H' : Hp), Low5 (invQ a b p) i → Low5 (pw a b i n) r → H z = none → Same H H' → FourAt CF CR H' z al a b r → Q (.ref z) H'
def spPowN (CF CR CA : Addr) : Sp := fun vs H Q _ => PowNP CF CR CA vs H Q
theorem ok_powN (F : FnD K "power" "Four.power" s_P_Four_power f fd) (T : Glob mg) (R : FourK K CF) (C_P_is_passed : Cal P w K mg base 2 "is_passed" ["value"] (spPassed K)) (C_P_product_entries : Cal P w K mg base 1 "product_entries" ["algebra", "one", "other"] (spProd CA)) (C_P_made_four : Cal P w K mg base 9 "made_four" ["algebra", "entries", "bottom"] (spMadeFour CF CR CA))
    (O_Four : OwnK K CF) (M_Four_inverse : CalM P w K mg base 10 "inverse" CF ["self"] (spInverse CF CR CA)) (M_Four_power : CalM P w K mg base 11 "power" CF ["self", "many"] (spPow0 CF CR CA)) : FnOk P w K mg base CX0 12 f fd ["self", "many"] (spPowN CF CR CA) := by
  refine F.ok sc_P_Four_power (fun vs H Q E h => ?_) (fun cdv A outer s H vs Q E hr h => ?_)
  · obtain ⟨x, al, a, b, p, n, rfl, _⟩ := h.ex; rfl
  · obtain ⟨x, al, a, b, p, n, rfl, hx, ha, ba, bb, bp, n1, hn, nz, q⟩ := h.ex
    obtain ⟨tM, hc_MAX_POWER⟩ := T.m_MAX_POWER
    refine ⟨_, PSs.nox (pss_cons (ps_if (PW.pt (pw_or (pt_not (pt_val (pe_cal C_P_is_passed (hr.mono (by decide)) (pa_cons (pv 1) pa_nil)))) (pw_or1 (pt_cmp (pc_gt (pe_callB call_abs (by rfl) T.m_abs (by decide +kernel) (pa_cons (pv 1) pa_nil)) (pe_glob (v := .int 1000) rfl hc_MAX_POWER ⟨_, rfl⟩)))))) (pss_one ps_never) pss_nil)
      (pss_cons (ps_if (pt_cmp (pc_lt (pv 1) pe_int)) (pss_one (ps_ret (pe_meth (pe_meth0 (pv 0) O_Four.cls M_Four_inverse.me M_Four_inverse.ok (hr.mono (by decide)) M_Four_inverse.b .nil pass0) O_Four.cls M_Four_power.me M_Four_power.ok (hr.mono (by decide)) M_Four_power.b .nil pass0 (pa_cons (pe_un un_neg (pv 1)) pa_nil)))) pss_nil)
      (pss_cons (ps_asg (pe_tup (pa_cons (pe_tup (pa_cons pe_int (pa_cons pe_int (pa_cons pe_int (pa_cons pe_int pa_nil))))) (pa_cons pe_int pa_nil))) (pg_tup (by rfl) (pgs_cons (pg_name (i := 2) sc_P_Four_power.nd rfl (Or.inl rfl)) (pgs_cons (pg_name (i := 3) sc_P_Four_power.nd rfl (Or.inl rfl)) pgs_nil))))
      (pss_cons (ps_par (i := 4) (j := 5) (by rfl) sc_P_Four_power.nd rfl rfl (by decide) rfl rfl (pa_cons (pe_fld (pv 0) rfl) (pa_cons (pe_fld (pv 0) rfl) pa_nil)) (by rfl))
      (pss_cons (ps_while PassesOwn.never (pt_cmp (pc_gt (pv 1) pe_int)) (Evl.pss_cut (ps_if (pt_cmp (pc_eqI (pe_op op_mod (pv 1) pe_int) pe_int)) (pss_one (ps_par (i := 2) (j := 3) (by rfl) sc_P_Four_power.nd rfl rfl (by decide) rfl rfl (pa_cons (pe_cal C_P_product_entries (hr.mono (by decide)) (pa_cons (pe_fld (pv 0) rfl) (pa_cons (pv 2) (pa_cons (pv 4) pa_nil)))) (pa_cons (pe_op op_mulW (pv 3) (pv 5)) pa_nil)) (by rfl))) pss_nil)
      (pss_cons (ps_set (i := 1) sc_P_Four_power.nd rfl (Or.inl rfl) (pe_op op_fdivW (pv 1) pe_int))
      (pss_one (ps_if (pt_cmp (pc_gt (pv 1) pe_int)) (pss_one (ps_par (i := 4) (j := 5) (by rfl) sc_P_Four_power.nd rfl rfl (by decide) rfl rfl (pa_cons (pe_cal C_P_product_entries (hr.mono (by decide)) (pa_cons (pe_fld (pv 0) rfl) (pa_cons (pv 4) (pa_cons (pv 4) pa_nil)))) (pa_cons (pe_op op_mulW (pv 5) (pv 5)) pa_nil)) (by rfl))) pss_nil)))))
      (pss_one (ps_ret (pe_cal C_P_made_four (hr.mono (by decide)) (pa_cons (pe_fld (pv 0) rfl) (pa_cons (pv 2) (pa_cons (pv 3) pa_nil))))))))))), ?_⟩
    refine ⟨_, rfl, .int (-(n : Int)), true, rfl, .int _, ⟨fun _ => ⟨_, rfl⟩, fun _ => rfl⟩, fun r hr2 => ⟨_, rfl, ?_⟩⟩
    have er : r = true := hr2.mpr ⟨_, rfl, Nat.lt_of_le_of_lt (by omega : (-(n : Int)).natAbs ≤ 5) (by decide +kernel)⟩
    subst er
    refine ⟨_, rfl, _, rfl, _, _, rfl, rfl, _, rfl, ifd (fun h => ?_) (fun _ => ?_)⟩
    · exfalso
      split at h <;> omega
    refine ⟨_, rfl, _, _, rfl, rfl, _, rfl, ifd (fun _ => ?_) (fun h => by exfalso; omega)⟩
    obtain ⟨d1, e1, tr, nm, t1, t2, n1', n2, h1, u1, _⟩ := hx.ex
    have dp := hx.pos
    refine ⟨_, rfl, x, d1, _, rfl, h1, rfl, x, al, a, b, p, rfl, hx, ha, ba, bb, bd_mono bp (by decide), nz, fun i z H2 hi hz s2 hF => ?_⟩
    obtain ⟨d2, e2, _, _, _, _, _, _, h2, _⟩ := hF.ex
    have d0 : (invQ a b p).d ≠ 0 := nz
    have bi0 : Bd 130 (invQ a b p) := by
      have neg : ∀ {i : Int}, i.natAbs < 2 ^ 41 → (-i).natAbs < 2 ^ 41 := fun h => by rw [Int.natAbs_neg]; exact h
      have W : ∀ {i : Int}, i.natAbs < 2 ^ 41 → (i * p.d).natAbs < 2 ^ 130 := fun h => lt_mono (wide_lt h bp.2.2.2.2) (by decide)
      exact ⟨W bp.1, W (neg bp.2.1), W (neg bp.2.2.1), W (neg bp.2.2.2.1), lt_mono (normT_bd ba bb bp) (by decide)⟩
    have bi := low5_bd d0 hi bi0
    refine ⟨z, d2, _, rfl, h2, rfl, _, rfl, _, rfl, ⟨z, al, a, b, i, n, by show [V.ref z, V.int (-(-(n : Int)))] = _; rw [Int.neg_neg], hF, ha.same s2, ba, bb, bi, hn, fun r y H3 hr3 hy s3 hG => ?_⟩⟩
    exact q i r y H3 hi hr3 (s2.free hy) (s2.trans s3) hG
structure PowP (CF CR CA : Addr) (vs : List V) (H : Hp) (Q : VK) : Prop where
  ex : ∃ (x al : Addr) (a b : Int) (p : Q5) (n : Int), vs = [.ref x, .int n] ∧ FourAt CF CR H x al a b p ∧ AlgAt CA H al a b ∧ a.natAbs < 2 ^ 10 ∧ b.natAbs < 2 ^ 10 ∧ Bd 41 p ∧ n.natAbs ≤ 5 ∧ (n < 0 → normT a b p ≠ 0) ∧
    ∀ (r : Q5) (z : Addr) (H' : Hp), (0 ≤ n → Low5 (pw a b p n.natAbs) r) → (n < 0 → ∃ i, Low5 (invQ a b p) i ∧ Low5 (pw a b i n.natAbs) r) → H z = none → Same H H' → FourAt CF CR H' z al a b r → Q (.ref z) H'
def spPow (CF CR CA : Addr) : Sp := fun vs H Q _ => PowP CF CR CA vs H Q
theorem ok_Four_power (F : FnD K "power" "Four.power" s_P_Four_power f fd) (T : Glob mg) (R : FourK K CF) (C_P_is_passed : Cal P w K mg base 2 "is_passed" ["value"] (spPassed K)) (C_P_product_entries : Cal P w K mg base 1 "product_entries" ["algebra", "one", "other"] (spProd CA)) (C_P_made_four : Cal P w K mg base 9 "made_four" ["algebra", "entries", "bottom"] (spMadeFour CF CR CA))
    (O_Four : OwnK K CF) (M_Four_inverse : CalM P w K mg base 10 "inverse" CF ["self"] (spInverse CF CR CA)) (ME_Four_power : Meth K CF "power" f) : FnOk P w K mg base CX0 12 f fd ["self", "many"] (spPow CF CR CA) := by
  have bi : Binds K fd ["self", "many"] [] := F.bindsN fun _ _ _ _ _ _ us hl => match us, hl with | [_, _], _ => rfl
  have N : FnOk P w K mg base CX0 0 f fd ["self", "many"] (fun _ _ _ _ => False) := ⟨fun _ _ _ _ h => False.elim h, fun _ _ _ _ _ _ _ _ _ _ _ _ _ h => False.elim h⟩
  have A := ok_pow0 F T R C_P_is_passed C_P_product_entries C_P_made_four O_Four M_Four_inverse ⟨f, fd, N, ME_Four_power, bi⟩
  have B := ok_powN F T R C_P_is_passed C_P_product_entries C_P_made_four O_Four M_Four_inverse ⟨f, fd, A, ME_Four_power, bi⟩
  refine fnOr (A.mono (by decide)) B fun vs H Q E h => ?_
  obtain ⟨x, al, a, b, p, n, rfl, hx, ha, ba, bb, bp, hn, nz, q⟩ := h.ex
  by_cases h0 : 0 ≤ n
  · refine .inl ⟨x, al, a, b, p, n.natAbs, ?_, hx, ha, ba, bb, bd_mono bp (by decide), hn, fun r z H' hl hz s hF => q r z H' (fun _ => hl) (fun h => by omega) hz s hF⟩
    rw [show ((n.natAbs : Nat) : Int) = n by omega]
  · refine .inr ⟨x, al, a, b, p, n.natAbs, ?_, hx, ha, ba, bb, bp, by omega, hn, nz (by omega), fun i r z H' hi hl hz s hF => q r z H' (fun h => absurd h h0) (fun _ => ⟨i, hi, hl⟩) hz s hF⟩
    rw [show (-((n.natAbs : Nat) : Int)) = n by omega]
end
end Sf

namespace Sf
open PySem PySem.Spec PyProof.Rows L2
section
variable {P : Program} {w : World} {K : PySem.W.Frag} {mg : Str → Option Value} {base : Heap} {f : Addr} {fd : FuncData}
structure TakeP (vs : List V) (H : Hp) (Q : VK) : Prop where
  ex : ∃ (p : Addr) (xs : List V) (n : Nat) (m : Int), vs = [.ref p, .int m] ∧ H p = some (.lst xs) ∧ SackO n xs ∧ n ≤ 1000000 ∧ 1 ≤ m ∧ m < 10 ^ 80 ∧
  ∀ (r : Int) (ys : List V), 0 ≤ r → r < m → SackO (n + 1) ys → Q (.int r) (upd H p (.lst ys))
def spTake : Sp := fun vs H Q _ => TakeP vs H Q
theorem ok_pour (F : FnD K "_law_pour" "_law_pour" s_L_pour f fd) (T : Glob mg) : FnOk P w K mg base CX0 1 f fd ["_law_jug_here", "_law_many"] spTake := by
  refine F.ok sc_L_pour (fun vs H Q E h => ?_) (fun cdv A outer s H vs Q E hr h => ?_)
  · obtain ⟨p, xs, n, m, rfl, _⟩ := h.ex; rfl
  · obtain ⟨p, _, n, m, rfl, hp, ⟨a, b, c, rfl, a0, a1, b0, b1, c0, c1⟩, hn, hm, hm1, q⟩ := h.ex
    have m0 : (0 : Int) < m := by omega
    have mb : m.natAbs < 2 ^ 3000 := lt3000 (by omega) (Int.lt_trans hm1 (by decide +kernel))
    have hS : SqL K H p [.int a, .int b, .int c] := SqL.of hp
    refine ⟨_, PSs.nox (pss_cons (ps_if (pt_cmp (pc_gt (pe_ix ix_list (pv 0) pe_int (fun _ _ => rfl)) pe_int)) (pss_cons (ps_set (i := 2) sc_L_pour.nd rfl (Or.inl rfl) (pe_op op_mod (pe_callTy call_int1 (by rfl) T.m_int (by decide +kernel) (pa_cons (pe_ix ix_list (pv 0) pe_int (fun _ _ => rfl)) pa_nil)) (pv 1)))
      (pss_cons (ps_asg (pe_op op_fdivW (pe_ix ix_list (pv 0) pe_int (fun _ _ => rfl)) (pv 1)) (pg_sub (pv 0) pe_int set_list))
      (pss_one (ps_ret (pv 2))))) pss_nil)
      (pss_cons (ps_asg (pe_op op_add (pe_ix ix_list (pv 0) pe_int (fun _ _ => rfl)) pe_int) (pg_sub (pv 0) pe_int set_list))
      (pss_cons (ps_set (i := 3) sc_L_pour.nd rfl (Or.inl rfl) (pe_op op_mod (pe_callTy call_int1 (by rfl) T.m_int (by decide +kernel) (pa_cons (pe_op op_add (pe_ix ix_list (pv 0) pe_int (fun _ _ => rfl)) (pe_op op_mulW pe_int (pe_ix ix_list (pv 0) pe_int (fun _ _ => rfl)))) pa_nil)) pe_int))
      (pss_cons (ps_set (i := 4) sc_L_pour.nd rfl (Or.inl rfl) (pe_op op_add (pe_op op_add (pe_op op_mulW (pe_op op_mod (pe_callTy call_int1 (by rfl) T.m_int (by decide +kernel) (pa_cons (pe_op op_mulW (pv 3) (pv 3)) pa_nil)) pe_int) pe_int) (pv 3)) (pe_op op_mulW pe_int (pe_ix ix_list (pv 0) pe_int (fun _ _ => rfl)))))
      (pss_one (ps_ret (pe_op op_mod (pe_callTy call_int1 (by rfl) T.m_int (by decide +kernel) (pa_cons (pe_op op_fdivW (pv 4) pe_int) pa_nil)) (pv 1)))))))), ?_⟩
    refine ⟨_, rfl, p, _, 0, .int a, rfl, rfl, hS, rfl, _, _, rfl, rfl, _, rfl, ifd (fun h => ?_) (fun h => ?_)⟩
    · refine ⟨_, rfl, p, _, 0, .int a, rfl, rfl, hS, rfl, .inl ⟨_, rfl, _, rfl, _, _, rfl, rfl, m0, ?_⟩⟩
      refine ⟨_, rfl, p, _, 0, .int a, rfl, rfl, hS, rfl, _, rfl, _, _, rfl, rfl, CDivW.of m0 mb, ?_⟩
      refine ⟨_, rfl, p, _, 0, 0, rfl, rfl, hp, rfl, ?_⟩
      refine ⟨_, rfl, q (a % m) _ (Int.emod_nonneg _ (by omega)) (Int.emod_lt_of_pos _ m0) ⟨a / m, b, c, rfl, Int.ediv_nonneg a0 (by omega), ?_, b0, b1, c0, by omega⟩⟩
      exact Int.lt_of_le_of_lt (Int.ediv_le_self m a0) a1
    · refine ⟨_, rfl, p, _, 2, .int c, rfl, rfl, hS, rfl, _, _, rfl, rfl, ?_⟩
      refine ⟨_, rfl, p, _, 2, 2, rfl, rfl, hp, rfl, ?_⟩
      have hS2 : SqL K (upd H p (.lst [.int a, .int b, .int (c + 1)])) p [.int a, .int b, .int (c + 1)] := SqL.of upd_same
      refine ⟨_, rfl, p, _, 1, .int b, rfl, rfl, hS2, rfl, _, rfl, p, _, 2, .int (c + 1), rfl, rfl, hS2, rfl, _, _, rfl, rfl, CMulW.of (lt3000s (by decide) (by decide)) (lt3000s (by omega) (by omega)), _, _, rfl, rfl, .inl ⟨_, rfl, _, _, rfl, rfl, (by show (0 : Int) < 2305843009213693967; decide), ?_⟩⟩
      refine ⟨_, rfl, _, rfl, _, _, rfl, rfl, CMulW.of (lt3000s (by omega) (by omega)) (lt3000s (by omega) (by omega)), .inl ⟨_, rfl, _, _, rfl, rfl, (by show (0 : Int) < 2305843009213693951; decide), _, _, rfl, rfl, CMulW.of (lt3000s (by omega) (by omega)) (lt3000s (by decide) (by decide)), _, rfl, _, _, rfl, rfl, _, rfl, p, _, 2, .int (c + 1), rfl, rfl, hS2, rfl, _, _, rfl, rfl, CMulW.of (lt3000s (by decide) (by decide)) (lt3000s (by omega) (by omega)), _, _, rfl, rfl, ?_⟩⟩
      refine ⟨_, rfl, _, _, rfl, rfl, CDivW.of (by decide) (lt3000s (by decide) (by decide)), .inl ⟨_, rfl, _, rfl, _, _, rfl, rfl, m0, ?_⟩⟩
      refine q _ _ (Int.emod_nonneg _ (by omega)) (Int.emod_lt_of_pos _ m0) ⟨a, b, c + 1, rfl, a0, a1, b0, b1, by omega, by omega⟩
end
end Sf

namespace Sf
open PySem PySem.Spec PyProof.Rows L2
section
variable {P : Program} {w : World} {K : PySem.W.Frag} {mg : Str → Option Value} {base : Heap} {f : Addr} {fd : FuncData}
structure OneOfP (K : PySem.W.Frag) (vs : List V) (H : Hp) (Q : VK) : Prop where
  ex : ∃ (p b : Addr) (xs items : List V) (n : Nat), vs = [.ref p, .ref b] ∧ H p = some (.lst xs) ∧ SackO n xs ∧ n ≤ 1000000 ∧ b ≠ p ∧ SqL K H b items ∧ 1 ≤ items.length ∧ items.length ≤ 1000000 ∧
  ∀ (v : V) (ys : List V), v ∈ items → SackO (n + 1) ys → Q v (upd H p (.lst ys))
def spOneOf (K : PySem.W.Frag) : Sp := fun vs H Q _ => OneOfP K vs H Q
theorem ok_of (F : FnD K "_law_of" "_law_of" s_L_of f fd) (T : Glob mg) (C_L_pour : Cal P w K mg base 1 "_law_pour" ["_law_jug_here", "_law_many"] spTake) : FnOk P w K mg base CX0 2 f fd ["_law_jug_here", "_law_items"] (spOneOf K) := by
  refine F.ok sc_L_of (fun vs H Q E h => ?_) (fun cdv A outer s H vs Q E hr h => ?_)
  · obtain ⟨p, b, xs, items, n, rfl, _⟩ := h.ex; rfl
  · obtain ⟨p, b, xs, items, n, rfl, hp, hx, hn, hne, hS, hl0, hl1, q⟩ := h.ex
    refine ⟨_, PSs.nox (pss_one (ps_ret (pe_ix ix_list (pv 1) (pe_cal C_L_pour (hr.mono (by decide)) (pa_cons (pv 0) (pa_cons (pe_callB call_len_seq (by rfl) T.m_len (by decide +kernel) (pa_cons (pv 1) pa_nil)) pa_nil))) (fun _ _ => rfl)))), ?_⟩
    refine ⟨_, rfl, _, rfl, _, rfl, b, _, rfl, .inl hS, ⟨p, xs, n, _, rfl, hp, hx, hn, by omega, ?_, fun r ys h0 h1 hy => ?_⟩⟩
    · exact Int.lt_trans (by omega : (items.length : Int) < 1000001) (by decide +kernel)
    · have hi : r.toNat < items.length := by omega
      have er : ((r.toNat : Nat) : Int) = r := by omega
      refine ⟨b, items, r, items[r.toNat], rfl, rfl, sq_upd hS hne, ?_, q _ ys (List.getElem_mem hi) hy⟩
      have z := atI_nat (List.getElem?_eq_getElem hi)
      rw [er] at z
      exact z
end
end Sf

namespace Sf
open PySem PySem.Spec PyProof.Rows L2
/-- a draw: the same promises in the words of Sk -/
theorem take_of {H : Hp} {p : Addr} {n : Nat} {m : Int} {Q : VK} (hs : Sk p n H) (hn : n ≤ 1000000) (h1 : 1 ≤ m) (h2 : m < 10 ^ 80) (q : ∀ (r : Int) (H' : Hp), 0 ≤ r → r < m → Keep p H H' → Sk p (n + 1) H' → (∀ b, H b = none → H' b = none) → Q (.int r) H') : TakeP [.ref p, .int m] H Q := by
  obtain ⟨xs, a, b⟩ := hs
  exact ⟨p, xs, n, m, rfl, a, b, hn, h1, h2, fun r ys r0 r1 hy => q r _ r0 r1 Keep.upd ⟨ys, upd_same, hy⟩ fun c hc => by rw [upd_ne (fun z => by rw [z, a] at hc; cases hc)]; exact hc⟩
theorem one_of_new {K : PySem.W.Frag} {H : Hp} {p b : Addr} {n : Nat} {items : List V} {Q : VK} (hs : Sk p n H) (hn : n ≤ 1000000) (hb : H b = none) (h1 : 1 ≤ items.length) (h2 : items.length ≤ 1000000)
    (q : ∀ (v : V) (H' : Hp), v ∈ items → Keep p H H' → Sk p (n + 1) H' → Q v H') : OneOfP K [.ref p, .ref b] (upd H b (.lst items)) Q := by
  obtain ⟨xs, a, o⟩ := hs
  have npb : p ≠ b := ne_of_none a hb
  refine ⟨p, b, xs, items, n, rfl, by rw [upd_ne npb]; exact a, o, hn, npb.symm, SqL.of upd_same, h1, h2, fun v ys hv hy => q v _ hv ?_ ⟨ys, upd_same, hy⟩⟩
  exact (Keep.new hb).trans Keep.upd
end Sf

namespace Sf
open PySem PySem.Spec PyProof.Rows L2
theorem cut_first (xs : List V) : cutV xs none (some 1) = xs.take 1 := by
  unfold cutV
  rw [show HT.sIx xs.length xs.length (some 1) = min 1 xs.length from HT.sIx_nat xs.length xs.length 1, HT.sIx_none]
  cases xs with
  | nil => rfl
  | cons x r =>
    rw [show min 1 (x :: r).length = 1 by
      rw [List.length_cons]
      omega]
    rfl
theorem same_ne {H H' : Hp} {p q : Addr} {o u : HO} (s : Same H H') (h : H p = some o) (n : H q = none) : p ≠ q := ne_of_none h n
section
variable {P : Program} {w : World} {K : PySem.W.Frag} {mg : Str → Option Value} {base : Heap} {f : Addr} {fd : FuncData}
def spSack (K : PySem.W.Frag) : Sp := fun vs H Q _ => ∃ (a : Addr) (ns : List Int) (t : Nat), vs = [.ref a, .int t] ∧ SqL K H a (ns.map V.int) ∧ ns.length ≤ 63 ∧ t ≤ 10 ∧
  ∀ (p : Addr) (xs : List V) (H' : Hp), Same H H' → H p = none → H' p = some (.lst xs) → SackO 0 xs → Q (.ref p) H'
theorem ok_jug (F : FnD K "_law_jug" "_law_jug" s_L_jug f fd) (T : Glob mg) : FnOk P w K mg base CX0 1 f fd ["_law_script", "_law_spot"] (spSack K) := by
  refine F.ok sc_L_jug (fun vs H Q E h => ?_) (fun cdv A outer s H vs Q E hr h => ?_)
  · obtain ⟨a, ns, t, rfl, _⟩ := h; rfl
  · obtain ⟨a, ns, t, rfl, hS, hl, ht, q⟩ := h
    refine ⟨_, PSs.nox (Evl.pss_cut (ps_set (i := 2) sc_L_jug.nd rfl (Or.inl rfl) (pe_ifExp (pt_cmp (pc_lt (pv 1) (pe_callB call_len_seq (by rfl) T.m_len (by decide +kernel) (pa_cons (pv 0) pa_nil)))) (pe_callTy call_int1 (by rfl) T.m_int (by decide +kernel) (pa_cons (pe_ix ix_list (pv 0) (pv 1) (fun _ _ => rfl)) pa_nil)) (pe_op op_add (pe_op op_add (pe_op op_mulW pe_int (pv 1)) pe_int) (pe_op op_mod (pe_callTy call_int1 (by rfl) T.m_int (by decide +kernel) (pa_cons (pe_callB (cr_sum rfl) (by rfl) T.m_sum (by decide +kernel) (pa_cons (pe_slice sl_list (pv 0) po_none (po_some pe_int)) pa_nil)) pa_nil)) pe_int))))
      (pss_cons (ps_set (i := 3) sc_L_jug.nd rfl (Or.inl rfl) (pe_op op_mod (pe_callTy call_int1 (by rfl) T.m_int (by decide +kernel) (pa_cons (pe_callB call_abs (by rfl) T.m_abs (by decide +kernel) (pa_cons (pv 2) pa_nil)) pa_nil)) (pe_op op_powW (pe_op op_powW pe_int pe_int) pe_int)))
      (pss_cons (ps_set (i := 4) sc_L_jug.nd rfl (Or.inl rfl) (pe_op op_mod (pe_callTy call_int1 (by rfl) T.m_int (by decide +kernel) (pa_cons (pe_op op_add (pe_op op_add (pe_op op_add (pe_op op_mulW (pe_op op_mod (pv 3) pe_int) pe_int) (pe_op op_mulW pe_int (pv 1))) (pe_op op_mulW pe_int (pe_callTy call_int1 (by rfl) T.m_int (by decide +kernel) (pa_cons (pe_cmp (pc_lt (pv 2) pe_int) rfl) pa_nil)))) pe_int) pa_nil)) pe_int))
      (pss_one (ps_ret (pe_lst (pa_cons (pe_callB (call_max2 rfl) (by rfl) T.m_max (by decide +kernel) (pa_cons pe_int (pa_cons (pe_op op_sub (pv 3) (pe_op op_powW pe_int pe_int)) pa_nil))) (pa_cons (pv 4) (pa_cons pe_int pa_nil))))))))), ?_⟩
    refine ⟨fun σ' H' => ∃ c : Int, σ' = [some (.ref a), some (.int t), some (.int c), none, none] ∧ Same H H', ?_, ?_⟩
    · refine ⟨_, rfl, _, rfl, a, _, rfl, .inl hS, _, _, rfl, rfl, _, rfl, ifd (fun h => ?_) (fun h => ?_)⟩
      · have hi : t < ns.length := by
          rw [List.length_map] at h
          omega
        refine ⟨_, rfl, _, rfl, a, _, t, .int ns[t], rfl, rfl, hS, atI_nat (by rw [List.getElem?_map, List.getElem?_eq_getElem hi]; rfl), .inl ⟨_, rfl, ?_⟩⟩
        exact ⟨_, rfl, Same.refl H⟩
      · refine ⟨_, rfl, _, _, rfl, rfl, CMulW.of (lt3000s (by decide) (by decide)) (lt3000s (by omega) (by omega)), _, _, rfl, rfl, _, rfl, _, rfl, a, _, rfl, hS, fun p hp => ?_⟩
        refine ⟨p, ns.take 1, rfl, SqL.of ?_, .inl ⟨_, rfl, _, _, rfl, rfl, (by show (0 : Int) < 1000033; decide), _, _, rfl, rfl, ?_⟩⟩
        · rw [upd_same, cut_first, List.map_take]
        · exact ⟨_, rfl, same_upd hp⟩
    · rintro σ' H' ⟨c, rfl, hs⟩
      refine ⟨_, rfl, c, rfl, .inl ⟨_, rfl, 10, 59, rfl, rfl, ⟨by decide, by decide +kernel⟩, 10 ^ 59, 8, rfl, rfl, ⟨by decide, by decide +kernel⟩, _, _, rfl, rfl, (by show (0 : Int) < (10 ^ 59) ^ (8 : Int).toNat; decide +kernel), ?_⟩⟩
      have g0 := Int.emod_nonneg (if c < 0 then -c else c) (by decide +kernel : ((10 : Int) ^ 59) ^ (8 : Int).toNat ≠ 0)
      have g1 := Int.emod_lt_of_pos (if c < 0 then -c else c) (by decide +kernel : (0 : Int) < ((10 : Int) ^ 59) ^ (8 : Int).toNat)
      have e472 : ((10 : Int) ^ 59) ^ (8 : Int).toNat = 10 ^ 472 := by decide +kernel
      rw [e472] at g0 g1
      have gb : (((if c < 0 then -c else c) % 10 ^ 472 : Int)).natAbs < 2 ^ 3000 := by
        have : (10 : Int) ^ 472 < 2 ^ 3000 := by decide +kernel
        have e2 : ((2 ^ 3000 : Nat) : Int) = (2 : Int) ^ 3000 := by decide +kernel
        omega
      refine ⟨_, rfl, _, _, rfl, rfl, (by show (0 : Int) < 2305843009213693921; decide), _, _, rfl, rfl, CMulW.of (lt3000s (by omega) (by omega)) (lt3000s (by decide) (by decide)), _, rfl, _, _, rfl, rfl, CMulW.of (lt3000s (by decide) (by decide)) (lt3000s (by omega) (by omega)), _, _, rfl, rfl, ?_⟩
      have eb : ∀ b : Bool, 0 ≤ (if b = true then (1 : Int) else 0) ∧ (if b = true then (1 : Int) else 0) ≤ 1 := fun b => by cases b <;> decide
      have hb := eb (decide (c < 0))
      refine ⟨_, rfl, _, _, rfl, rfl, .inr ⟨_, rfl, _, _, rfl, rfl, CMulW.of (lt3000s (by decide) (by decide)) (lt3000s (by split <;> decide) (by split <;> decide)), _, _, rfl, rfl, _, _, rfl, rfl, .inl ⟨_, rfl, _, _, rfl, rfl, (by show (0 : Int) < 2305843009213693951; decide), ?_⟩⟩⟩
      refine ⟨_, rfl, 10, 17, rfl, rfl, ⟨by decide, by decide +kernel⟩, _, _, rfl, rfl, _, _, rfl, _, rfl, (by show 3 ≤ sizeLine; decide), fun p hp => ?_⟩
      have e17 : (10 : Int) ^ (17 : Int).toNat = 100000000000000000 := by decide +kernel
      refine q p _ _ (hs.trans (same_upd hp)) (hs.free hp) upd_same ⟨_, _, _, rfl, ?_, ?_, ?_, ?_, by decide, by decide⟩
      · rw [e17]
        split <;> omega
      · rw [e17, e472]
        have : (0 : Int) < 10 ^ 472 := by decide +kernel
        have h1 : ∀ z N : Int, 0 ≤ z → z < N → 0 < N → (if z - 100000000000000000 > 0 then z - 100000000000000000 else 0) < N := fun z N a b c => by split <;> omega
        exact Int.lt_trans (h1 _ _ g0 g1 this) (by decide +kernel)
      · omega
      · omega
end
end Sf

namespace Sf
open PySem PySem.Spec PyProof.Rows L2
section
variable {P : Program} {w : World} {K : PySem.W.Frag} {mg : Str → Option Value} {base : Heap} {f : Addr} {fd : FuncData}
structure LTimesP (vs : List V) (H : Hp) (Q : VK) : Prop where
  ex : ∃ (e1 e2 : Addr) (a b : Int) (p q : Q5), vs = [.int a, .int b, .ref e1, .ref e2] ∧ H e1 = some (.tup (ents p)) ∧ H e2 = some (.tup (ents q)) ∧ a.natAbs < 2 ^ 30 ∧ b.natAbs < 2 ^ 30 ∧ Bd 1400 p ∧ Bd 1400 q ∧ ∀ t, H t = none → Q (.ref t) (upd H t (.tup (ents (prodQ a b p q))))
def spLTimes : Sp := fun vs H Q _ => LTimesP vs H Q
set_option maxHeartbeats 8000000 in
theorem ok_l_times (F : FnD K "_law_times" "_law_times" s_L_times f fd) : FnOk P w K mg base CX0 1 f fd ["_law_a", "_law_b", "_law_one", "_law_other"] spLTimes := by
  refine F.ok sc_L_times (fun vs H Q E h => ?_) (fun cdv A outer s H vs Q E hr h => ?_)
  · obtain ⟨e1, e2, a, b, p, q, rfl, _⟩ := h.ex; rfl
  · obtain ⟨e1, e2, a, b, p, q5, rfl, h1, h2, a3, b3, ⟨p1, p2, p3, p4, _⟩, ⟨q1, q2, q3, q4, _⟩, q⟩ := h.ex
    refine ⟨_, PSs.nox (pss_cons (ps_asg (pv 2) (pg_tup (by rfl) (pgs_cons (pg_name (i := 4) sc_L_times.nd rfl (Or.inl rfl)) (pgs_cons (pg_name (i := 5) sc_L_times.nd rfl (Or.inl rfl)) (pgs_cons (pg_name (i := 6) sc_L_times.nd rfl (Or.inl rfl)) (pgs_cons (pg_name (i := 7) sc_L_times.nd rfl (Or.inl rfl)) pgs_nil))))))
      (pss_cons (ps_asg (pv 3) (pg_tup (by rfl) (pgs_cons (pg_name (i := 8) sc_L_times.nd rfl (Or.inl rfl)) (pgs_cons (pg_name (i := 9) sc_L_times.nd rfl (Or.inl rfl)) (pgs_cons (pg_name (i := 10) sc_L_times.nd rfl (Or.inl rfl)) (pgs_cons (pg_name (i := 11) sc_L_times.nd rfl (Or.inl rfl)) pgs_nil))))))
      (pss_cons (ps_set (i := 12) sc_L_times.nd rfl (Or.inl rfl) (pe_op op_sub (pe_op op_add (pe_op op_add (pe_op op_mulW (pv 4) (pv 8)) (pe_op op_mulW (pe_op op_mulW (pv 0) (pv 5)) (pv 9))) (pe_op op_mulW (pe_op op_mulW (pv 1) (pv 6)) (pv 10))) (pe_op op_mulW (pe_op op_mulW (pe_op op_mulW (pv 0) (pv 1)) (pv 7)) (pv 11))))
      (pss_cons (ps_set (i := 13) sc_L_times.nd rfl (Or.inl rfl) (pe_op op_add (pe_op op_sub (pe_op op_add (pe_op op_mulW (pv 4) (pv 9)) (pe_op op_mulW (pv 5) (pv 8))) (pe_op op_mulW (pe_op op_mulW (pv 1) (pv 6)) (pv 11))) (pe_op op_mulW (pe_op op_mulW (pv 1) (pv 7)) (pv 10))))
      (pss_one (ps_ret (pe_tup (pa_cons (pv 12) (pa_cons (pv 13) (pa_cons (pe_op op_sub (pe_op op_add (pe_op op_add (pe_op op_mulW (pv 4) (pv 10)) (pe_op op_mulW (pe_op op_mulW (pv 0) (pv 5)) (pv 11))) (pe_op op_mulW (pv 6) (pv 8))) (pe_op op_mulW (pe_op op_mulW (pv 0) (pv 7)) (pv 9))) (pa_cons (pe_op op_add (pe_op op_sub (pe_op op_add (pe_op op_mulW (pv 4) (pv 11)) (pe_op op_mulW (pv 5) (pv 10))) (pe_op op_mulW (pv 6) (pv 9))) (pe_op op_mulW (pv 7) (pv 8))) pa_nil))))))))))), ?_⟩
    have l2 : ∀ {i j : Int} {m n : Nat}, i.natAbs < 2 ^ m → j.natAbs < 2 ^ n → (i * j).natAbs < 2 ^ (m + n) := fun h1 h2 => wide_lt h1 h2
    refine ⟨_, rfl, e1, _, rfl, .inl (.inl h1), rfl, _, _, rfl, _, _, rfl, _, _, rfl, _, _, rfl, rfl, ?_⟩
    refine ⟨_, rfl, e2, _, rfl, .inl (.inl h2), rfl, _, _, rfl, _, _, rfl, _, _, rfl, _, _, rfl, rfl, ?_⟩
    refine ⟨_, rfl, _, rfl, _, _, rfl, rfl, wmul p1 q1 (by decide) (by decide) (by decide), _, rfl, _, rfl, _, _, rfl, rfl, wmul a3 p2 (by decide) (by decide) (by decide), _, rfl, _, _, rfl, rfl, wmul (l2 a3 p2) q2 (by decide) (by decide) (by decide), _, _, rfl, rfl, _, rfl, _, rfl, _, _, rfl, rfl, wmul b3 p3 (by decide) (by decide) (by decide), _, rfl, _, _, rfl, rfl, wmul (l2 b3 p3) q3 (by decide) (by decide) (by decide), _, _, rfl, rfl, _, rfl, _, rfl, _, _, rfl, rfl, wmul a3 b3 (by decide) (by decide) (by decide), _, rfl, _, _, rfl, rfl, wmul (l2 a3 b3) p4 (by decide) (by decide) (by decide), _, rfl, _, _, rfl, rfl, wmul (l2 (l2 a3 b3) p4) q4 (by decide) (by decide) (by decide), _, _, rfl, rfl, ?_⟩
    refine ⟨_, rfl, _, rfl, _, _, rfl, rfl, wmul p1 q2 (by decide) (by decide) (by decide), _, rfl, _, rfl, _, _, rfl, rfl, wmul p2 q1 (by decide) (by decide) (by decide), _, _, rfl, rfl, _, rfl, _, rfl, _, _, rfl, rfl, wmul b3 p3 (by decide) (by decide) (by decide), _, rfl, _, _, rfl, rfl, wmul (l2 b3 p3) q4 (by decide) (by decide) (by decide), _, _, rfl, rfl, _, rfl, _, rfl, _, _, rfl, rfl, wmul b3 p4 (by decide) (by decide) (by decide), _, rfl, _, _, rfl, rfl, wmul (l2 b3 p4) q3 (by decide) (by decide) (by decide), _, _, rfl, rfl, ?_⟩
    refine ⟨_, rfl, _, rfl, _, rfl, _, rfl, _, _, rfl, rfl, wmul p1 q3 (by decide) (by decide) (by decide), _, rfl, _, rfl, _, _, rfl, rfl, wmul a3 p2 (by decide) (by decide) (by decide), _, rfl, _, _, rfl, rfl, wmul (l2 a3 p2) q4 (by decide) (by decide) (by decide), _, _, rfl, rfl, _, rfl, _, rfl, _, _, rfl, rfl, wmul p3 q1 (by decide) (by decide) (by decide), _, _, rfl, rfl, _, rfl, _, rfl, _, _, rfl, rfl, wmul a3 p4 (by decide) (by decide) (by decide), _, rfl, _, _, rfl, rfl, wmul (l2 a3 p4) q2 (by decide) (by decide) (by decide), _, _, rfl, rfl, _, rfl, _, rfl, _, _, rfl, rfl, wmul p1 q4 (by decide) (by decide) (by decide), _, rfl, _, rfl, _, _, rfl, rfl, wmul p2 q3 (by decide) (by decide) (by decide), _, _, rfl, rfl, _, rfl, _, rfl, _, _, rfl, rfl, wmul p3 q2 (by decide) (by decide) (by decide), _, _, rfl, rfl, _, rfl, _, rfl, _, _, rfl, rfl, wmul p4 q1 (by decide) (by decide) (by decide), _, _, rfl, rfl, (by show 4 ≤ sizeLine; decide), fun t ht => ?_⟩
    have e : (ents (prodQ a b p q5)) = [.int (p.w * q5.w + a * p.x * q5.x + b * p.y * q5.y - a * b * p.z * q5.z), .int (p.w * q5.x + p.x * q5.w - b * p.y * q5.z + b * p.z * q5.y), .int (p.w * q5.y + a * p.x * q5.z + p.y * q5.w - a * p.z * q5.x), .int (p.w * q5.z + p.x * q5.y - p.y * q5.x + p.z * q5.w)] := by
      have e3 : p.w * q5.y + p.y * q5.w + a * p.x * q5.z - a * p.z * q5.x = p.w * q5.y + a * p.x * q5.z + p.y * q5.w - a * p.z * q5.x := by omega
      have e4 : p.w * q5.z + p.z * q5.w + p.x * q5.y - p.y * q5.x = p.w * q5.z + p.x * q5.y - p.y * q5.x + p.z * q5.w := by omega
      rw [← e3, ← e4]
      rfl
    have k := q t ht
    rw [e] at k
    exact k
end
end Sf

namespace Sf
open PySem PySem.Spec PyProof.Rows L2
/-! the law's own fours: a pair of four integers and a bottom -/
def LF (H : Hp) (v : V) (q : Q5) : Prop := ∃ t e, v = .ref t ∧ H t = some (.tup [.ref e, .int q.d]) ∧ H e = some (.tup (ents q))
theorem LF.same {H H' : Hp} {v : V} {q : Q5} (h : LF H v q) (s : Same H H') : LF H' v q := let ⟨t, e, h0, h1, h2⟩ := h; ⟨t, e, h0, s _ _ h1, s _ _ h2⟩
theorem tup_ne {p : Addr} {n : Nat} {H : Hp} {a : Addr} {xs : List V} (s : Sk p n H) (h : H a = some (.tup xs)) : a ≠ p := fun z => by
  obtain ⟨_, g, _⟩ := s
  rw [z, g] at h
  cases h
theorem LF.keep {p : Addr} {n : Nat} {H H' : Hp} {v : V} {q : Q5} (h : LF H v q) (s : Sk p n H) (k : Keep p H H') : LF H' v q := let ⟨t, e, h0, h1, h2⟩ := h; ⟨t, e, h0, k _ _ h1 (tup_ne s h1), k _ _ h2 (tup_ne s h2)⟩
theorem abs_nat (i : Int) : (if i < 0 then -i else i) = (i.natAbs : Int) := by split <;> omega
/-! Euclid in six hundred turns -/
def fibP : Nat → Nat × Nat
  | 0 => (0, 1)
  | n + 1 => ((fibP n).2, (fibP n).1 + (fibP n).2)
theorem fib599 : 2 ^ 400 ≤ (fibP 599).2 := by decide +kernel
theorem fib_step {n : Nat} {x y : Nat} (h : y ≤ x) (y0 : 0 < y) {b : Nat} (c : (fibP n).2 * x + (fibP n).1 * y ≤ b) : (fibP (n + 1)).2 * y + (fibP (n + 1)).1 * (x % y) ≤ b := by
  show ((fibP n).1 + (fibP n).2) * y + (fibP n).2 * (x % y) ≤ b
  have e : y + x % y ≤ x := by
    have h1 := Nat.div_add_mod x y
    have h2 : 1 ≤ x / y := (Nat.one_le_div_iff y0).mpr h
    have h3 : y * 1 ≤ y * (x / y) := Nat.mul_le_mul_left _ h2
    omega
  have h4 : (fibP n).2 * (y + x % y) ≤ (fibP n).2 * x := Nat.mul_le_mul_left _ e
  rw [Nat.mul_add] at h4
  rw [Nat.add_mul]
  omega
theorem gcd_law (w x y z d : Int) : ((((d.natAbs.gcd w.natAbs).gcd x.natAbs).gcd y.natAbs).gcd z.natAbs) = gcd5 w x y z d := by
  unfold gcd5
  simp only [Nat.gcd_assoc, Nat.gcd_comm, Nat.gcd_left_comm]
end Sf

namespace Sf
open PySem PySem.Spec PyProof.Rows L2
/-- bounds of a four: its integers, its bottom -/
def EB (m e : Nat) (q : Q5) : Prop := q.w.natAbs < 2 ^ m ∧ q.x.natAbs < 2 ^ m ∧ q.y.natAbs < 2 ^ m ∧ q.z.natAbs < 2 ^ m ∧ q.d.natAbs < 2 ^ e
theorem EB.bd {m e k : Nat} {q : Q5} (h : EB m e q) (h1 : m ≤ k) (h2 : e ≤ k) : Bd k q := ⟨lt_mono h.1 h1, lt_mono h.2.1 h1, lt_mono h.2.2.1 h1, lt_mono h.2.2.2.1 h1, lt_mono h.2.2.2.2 h2⟩
theorem EB.mono {m e m' e' : Nat} {q : Q5} (h : EB m e q) (h1 : m ≤ m') (h2 : e ≤ e') : EB m' e' q := ⟨lt_mono h.1 h1, lt_mono h.2.1 h1, lt_mono h.2.2.1 h1, lt_mono h.2.2.2.1 h1, lt_mono h.2.2.2.2 h2⟩
theorem low5_le {p r : Q5} (hp : p.d ≠ 0) (h : Low5 p r) : r.w.natAbs ≤ p.w.natAbs ∧ r.x.natAbs ≤ p.x.natAbs ∧ r.y.natAbs ≤ p.y.natAbs ∧ r.z.natAbs ≤ p.z.natAbs ∧ r.d.natAbs ≤ p.d.natAbs := by
  obtain ⟨h0, h1, h2, h3, h4, h5⟩ := h
  have dv : r.d.natAbs ∣ p.d.natAbs := by
    have e : ∀ {s t : Int}, s * r.d = t * p.d → r.d.natAbs ∣ t.natAbs * p.d.natAbs := fun {s t} e => by
      rw [← Int.natAbs_mul, ← e, Int.natAbs_mul]
      exact Nat.dvd_mul_left _ _
    have g : r.d.natAbs ∣ (gcd5 r.w r.x r.y r.z r.d) * p.d.natAbs := by
      unfold gcd5
      rw [← Nat.gcd_mul_right, ← Nat.gcd_mul_right, ← Nat.gcd_mul_right, ← Nat.gcd_mul_right]
      exact Nat.dvd_gcd (Nat.dvd_gcd (Nat.dvd_gcd (Nat.dvd_gcd (e h1) (e h2)) (e h3)) (e h4)) (Nat.dvd_mul_right _ _)
    rw [h5, Nat.one_mul] at g
    exact g
  have le : r.d.natAbs ≤ p.d.natAbs := Nat.le_of_dvd (by omega) dv
  have small : ∀ {s t : Int}, s * r.d = t * p.d → t.natAbs ≤ s.natAbs := fun {s t} e => by
    have e2 : s.natAbs * r.d.natAbs = t.natAbs * p.d.natAbs := by rw [← Int.natAbs_mul, ← Int.natAbs_mul, e]
    have h6 : t.natAbs * r.d.natAbs ≤ s.natAbs * r.d.natAbs := by
      rw [e2]
      exact Nat.mul_le_mul_left _ le
    exact Nat.le_of_mul_le_mul_right h6 (by omega)
  exact ⟨small h1, small h2, small h3, small h4, le⟩
theorem low5_eb {m e : Nat} {p r : Q5} (hp : p.d ≠ 0) (h : Low5 p r) (b : EB m e p) : EB m e r := by
  obtain ⟨h1, h2, h3, h4, h5⟩ := low5_le hp h
  exact ⟨Nat.lt_of_le_of_lt h1 b.1, Nat.lt_of_le_of_lt h2 b.2.1, Nat.lt_of_le_of_lt h3 b.2.2.1, Nat.lt_of_le_of_lt h4 b.2.2.2.1, Nat.lt_of_le_of_lt h5 b.2.2.2.2⟩
theorem prodQ_eb {a b : Int} {p q : Q5} {m n k e g : Nat} (ha : a.natAbs < 2 ^ k) (hb : b.natAbs < 2 ^ k) (hp : EB m e p) (hq : EB n g q) : EB (m + n + 2 * k + 2) (e + g) (prodQ a b p q) := by
  have h := prodQ_bd (m := m) (n := n) ha hb (p := { p with d := 0 }) (q := { q with d := 0 }) ⟨hp.1, hp.2.1, hp.2.2.1, hp.2.2.2.1, Nat.two_pow_pos _⟩ ⟨hq.1, hq.2.1, hq.2.2.1, hq.2.2.2.1, Nat.two_pow_pos _⟩
  exact ⟨h.1, h.2.1, h.2.2.1, h.2.2.2.1, wide_lt hp.2.2.2.2 hq.2.2.2.2⟩
end Sf

namespace Sf
open PySem PySem.Spec PyProof.Rows L2
theorem add_bd {a b : Int} {p q : Q5} {n : Nat} (hp : Bd n p) (hq : Bd n q) : Bd (n + n + 1) (addQ a b p q) := by
  have L : ∀ {i j : Int}, i.natAbs < 2 ^ n → j.natAbs < 2 ^ n → (i * j).natAbs < 2 ^ (n + n) := fun h1 h2 => wide_lt h1 h2
  exact ⟨add_lt2 (L hp.1 hq.2.2.2.2) (L hq.1 hp.2.2.2.2), add_lt2 (L hp.2.1 hq.2.2.2.2) (L hq.2.1 hp.2.2.2.2), add_lt2 (L hp.2.2.1 hq.2.2.2.2) (L hq.2.2.1 hp.2.2.2.2), add_lt2 (L hp.2.2.2.1 hq.2.2.2.2) (L hq.2.2.2.1 hp.2.2.2.2), lt_mono (L hp.2.2.2.2 hq.2.2.2.2) (by omega)⟩
theorem sub_bd {a b : Int} {p q : Q5} {n : Nat} (hp : Bd n p) (hq : Bd n q) : Bd (n + n + 1) (subQ a b p q) := by
  have L : ∀ {i j : Int}, i.natAbs < 2 ^ n → j.natAbs < 2 ^ n → (i * j).natAbs < 2 ^ (n + n) := fun h1 h2 => wide_lt h1 h2
  exact ⟨sub_lt2 (L hp.1 hq.2.2.2.2) (L hq.1 hp.2.2.2.2), sub_lt2 (L hp.2.1 hq.2.2.2.2) (L hq.2.1 hp.2.2.2.2), sub_lt2 (L hp.2.2.1 hq.2.2.2.2) (L hq.2.2.1 hp.2.2.2.2), sub_lt2 (L hp.2.2.2.1 hq.2.2.2.2) (L hq.2.2.2.1 hp.2.2.2.2), lt_mono (L hp.2.2.2.2 hq.2.2.2.2) (by omega)⟩
theorem neg_bd {p : Q5} {n : Nat} (h : Bd n p) : Bd n (negQ p) ∧ Bd n (mateQ p) := by
  have N : ∀ {i : Int}, i.natAbs < 2 ^ n → (-i).natAbs < 2 ^ n := fun h => by rw [Int.natAbs_neg]; exact h
  exact ⟨⟨N h.1, N h.2.1, N h.2.2.1, N h.2.2.2.1, h.2.2.2.2⟩, ⟨h.1, N h.2.1, N h.2.2.1, N h.2.2.2.1, h.2.2.2.2⟩⟩
theorem mate_eb {p : Q5} {m e : Nat} (h : EB m e p) : EB m e (mateQ p) := by
  have N : ∀ {i : Int}, i.natAbs < 2 ^ m → (-i).natAbs < 2 ^ m := fun h => by rw [Int.natAbs_neg]; exact h
  exact ⟨h.1, N h.2.1, N h.2.2.1, N h.2.2.2.1, h.2.2.2.2⟩
theorem mate_nrm {p : Q5} (h : Nrm p) : Nrm (mateQ p) := by
  refine ⟨h.1, ?_⟩
  have e := h.2
  unfold gcd5 mateQ at *
  dsimp only
  rw [Int.natAbs_neg, Int.natAbs_neg, Int.natAbs_neg]
  exact e
theorem cr_sub {a b : Int} {p q u : Q5} (h : Cross (sclQ (-1) 1 q) u) : Cross (subQ a b p q) (addQ 0 0 p u) := by
  obtain ⟨h1, h2, h3, h4⟩ := h
  unfold sclQ at *
  unfold subQ addQ
  dsimp only at *
  refine ⟨?_, ?_, ?_, ?_⟩ <;> dsimp only <;> grind
theorem cr_neg {p : Q5} : Cross (negQ p) (sclQ (-1) 1 p) := by
  unfold negQ sclQ
  refine ⟨?_, ?_, ?_, ?_⟩ <;> dsimp only <;> grind
theorem cr_scl {p : Q5} {t b t' b' : Int} (h : t * b' = t' * b) : Cross (sclQ t' b' p) (sclQ t b p) := by
  unfold sclQ
  refine ⟨?_, ?_, ?_, ?_⟩ <;> dsimp only <;> grind
theorem norm_q (a b : Int) (p : Q5) : prodQ a b p (mateQ p) = ⟨normT a b p, 0, 0, 0, p.d * p.d⟩ := by
  unfold prodQ mateQ normT
  refine q5_ext ?_ ?_ ?_ ?_ ?_ <;> dsimp only <;> grind
theorem cr_inv {a b : Int} {p r : Q5} (h : r.w * (p.d * p.d) = normT a b p * r.d) : Cross (invQ a b p) (sclQ r.d r.w (mateQ p)) := by
  unfold invQ sclQ mateQ
  generalize normT a b p = N at *
  refine ⟨?_, ?_, ?_, ?_⟩ <;> dsimp only <;> grind
theorem lowT_q {t b t' b' : Int} (h : LowT t b t' b') : Low5 ⟨t, 0, 0, 0, b⟩ ⟨t', 0, 0, 0, b'⟩ := by
  obtain ⟨h0, h1, h2⟩ := h
  refine ⟨h0, h1, ?_, ?_, ?_, ?_⟩
  · show (0 : Int) * b' = 0 * b; rw [Int.zero_mul, Int.zero_mul]
  · show (0 : Int) * b' = 0 * b; rw [Int.zero_mul, Int.zero_mul]
  · show (0 : Int) * b' = 0 * b; rw [Int.zero_mul, Int.zero_mul]
  · show gcd5 t' 0 0 0 b' = 1
    unfold gcd5
    simp [h2]
theorem lowT_uni {t b t1 b1 s c t2 b2 : Int} (h : LowT t b t1 b1) (g : LowT s c t2 b2) (e : t * c = s * b) (b0 : b ≠ 0) (c0 : c ≠ 0) : t1 = t2 ∧ b1 = b2 := by
  have z : (0 : Int) * c = 0 * b := by rw [Int.zero_mul, Int.zero_mul]
  have u := low5_uni (lowT_q h) (lowT_q g) ⟨e, z, z, z⟩ b0 c0
  exact ⟨congrArg Q5.w u, congrArg Q5.d u⟩
/-! what stands still by a draw -/
theorem keep_at {p c : Addr} {n : Nat} {H H' : Hp} {o : HO} (s : Sk p n H) (k : Keep p H H') (h : H c = some o) (ho : ∀ xs, o ≠ .lst xs) : H' c = some o := k _ _ h fun z => by
  obtain ⟨xs, g, _⟩ := s
  rw [z, g] at h
  exact ho xs (Option.some.inj h).symm
section
variable {CR CA CF : Addr} {p : Addr} {n : Nat} {H H' : Hp}
theorem RatioAt.keep {x : Addr} {t b : Int} (h : RatioAt CR H x t b) (s : Sk p n H) (k : Keep p H H') : RatioAt CR H' x t b := let ⟨dx, e⟩ := h; ⟨dx, keep_at s k e (fun _ => HO.noConfusion)⟩
theorem AlgAt.keep {x : Addr} {a b : Int} (h : AlgAt CA H x a b) (s : Sk p n H) (k : Keep p H H') : AlgAt CA H' x a b := by
  obtain ⟨dx, pl, l, h1, h2, h3⟩ := h.ex
  exact ⟨dx, pl, l, keep_at s k h1 (fun _ => HO.noConfusion), keep_at s k h2 (fun _ => HO.noConfusion), h3⟩
theorem FourAt.keep {x al : Addr} {a b : Int} {q : Q5} (h : FourAt CF CR H x al a b q) (s : Sk p n H) (k : Keep p H H') : FourAt CF CR H' x al a b q := by
  obtain ⟨dx, e, tr, nm, t1, t2, n1, n2, h1, h2, h3, h4, h5, h6⟩ := h.ex
  exact ⟨⟨dx, e, tr, nm, t1, t2, n1, n2, keep_at s k h1 (fun _ => HO.noConfusion), keep_at s k h2 (fun _ => HO.noConfusion), h3.keep s k, h4, h5.keep s k, h6⟩, h.pos, h.low⟩
/-- what a turn of the law stands on -/
structure Env (CF CR CA t al x1 x2 : Addr) (a b : Int) (v1 v2 : V) (P1 P2 : Q5) (H : Hp) : Prop where
  pr : H t = some (.tup [.int a, .int b])
  A : AlgAt CA H al a b
  f1 : FourAt CF CR H x1 al a b P1
  f2 : FourAt CF CR H x2 al a b P2
  l1 : LF H v1 P1
  l2 : LF H v2 P2
theorem Env.same {t al x1 x2 : Addr} {a b : Int} {v1 v2 : V} {P1 P2 : Q5} (h : Env CF CR CA t al x1 x2 a b v1 v2 P1 P2 H) (s : Same H H') : Env CF CR CA t al x1 x2 a b v1 v2 P1 P2 H' := ⟨s _ _ h.pr, h.A.same s, h.f1.same s, h.f2.same s, h.l1.same s, h.l2.same s⟩
theorem Env.keep {t al x1 x2 : Addr} {a b : Int} {v1 v2 : V} {P1 P2 : Q5} (h : Env CF CR CA t al x1 x2 a b v1 v2 P1 P2 H) (s : Sk p n H) (k : Keep p H H') : Env CF CR CA t al x1 x2 a b v1 v2 P1 P2 H' := ⟨keep_at s k h.pr (fun _ => HO.noConfusion), h.A.keep s k, h.f1.keep s k, h.f2.keep s k, h.l1.keep s k, h.l2.keep s k⟩
end
end Sf

namespace Sf
open PySem PySem.Spec PyProof.Rows L2
/-! fours by what they are worth -/
theorem cross_prod1 {a b : Int} {p r q : Q5} (h : Cross p r) : Cross (prodQ a b q p) (prodQ a b q r) := by
  obtain ⟨h1, h2, h3, h4⟩ := h
  unfold prodQ
  refine ⟨?_, ?_, ?_, ?_⟩ <;> dsimp only <;> grind
theorem cross_add {a b : Int} {p q r s : Q5} (h : Cross p r) (g : Cross q s) : Cross (addQ a b p q) (addQ a b r s) := by
  obtain ⟨h1, h2, h3, h4⟩ := h
  obtain ⟨g1, g2, g3, g4⟩ := g
  unfold addQ
  refine ⟨?_, ?_, ?_, ?_⟩ <;> dsimp only
  · clear h2 h3 h4 g2 g3 g4; grind
  · clear h1 h3 h4 g1 g3 g4; grind
  · clear h1 h2 h4 g1 g2 g4; grind
  · clear h1 h2 h3 g1 g2 g3; grind
theorem cross_mate {p r : Q5} (h : Cross p r) : Cross (mateQ p) (mateQ r) := by
  obtain ⟨h1, h2, h3, h4⟩ := h
  unfold mateQ
  refine ⟨?_, ?_, ?_, ?_⟩ <;> dsimp only <;> grind
theorem cross_neg {p r : Q5} (h : Cross p r) : Cross (negQ p) (negQ r) := by
  obtain ⟨h1, h2, h3, h4⟩ := h
  unfold negQ
  refine ⟨?_, ?_, ?_, ?_⟩ <;> dsimp only <;> grind
theorem cross_sub {a b : Int} {p q r s : Q5} (h : Cross p r) (g : Cross q s) : Cross (subQ a b p q) (subQ a b r s) := by
  rw [← add_neg, ← add_neg]
  exact cross_add h (cross_neg g)
/-- x is a four worth e -/
structure Wo (CF CR : Addr) (H : Hp) (x al : Addr) (a b : Int) (e : Q5) (n : Nat) : Prop where
  ex : ∃ r, FourAt CF CR H x al a b r ∧ Low5 e r ∧ Bd n r
  d0 : e.d ≠ 0
section
variable {CR CA CF : Addr} {H H' : Hp} {al : Addr} {a b : Int}
theorem Wo.same {x : Addr} {e : Q5} {n : Nat} (h : Wo CF CR H x al a b e n) (s : Same H H') : Wo CF CR H' x al a b e n := let ⟨r, h1, h2, h3⟩ := h.ex; ⟨⟨r, h1.same s, h2, h3⟩, h.d0⟩
theorem Wo.ins {x : Addr} {e : Q5} {n : Nat} (h : Wo CF CR H x al a b e n) : Ins H x CF := let ⟨_, h1, _⟩ := h.ex; h1.ins
/-- an operation of two fours -/
theorem wo_op {g : Int → Int → Q5 → Q5 → Q5} {x y : Addr} {e f : Q5} {m n k : Nat} {R : VK} (hA : AlgAt CA H al a b) (hx : Wo CF CR H x al a b e m) (hy : Wo CF CR H y al a b f n) (hm : m ≤ 1400) (hn : n ≤ 1400) (hk : k ≤ 3000)
    (hg : ∀ p q : Q5, Bd m p → Bd n q → Bd k (g a b p q)) (hd : ∀ p q : Q5, (g a b p q).d = p.d * q.d) (hc : ∀ p q r s : Q5, p.d ≠ 0 → q.d ≠ 0 → r.d ≠ 0 → s.d ≠ 0 → Cross p r → Cross q s → Cross (g a b p q) (g a b r s))
    (q : ∀ (z : Addr) (H' : Hp), Same H H' → Wo CF CR H' z al a b (g a b e f) k → R (.ref z) H') : rOwn CF (spFourOp CF CR CA g) E0 (.ref x) (.ref y) H R := by
  obtain ⟨p, fx, lp, bp⟩ := hx.ex
  obtain ⟨p', fy, lq, bq⟩ := hy.ex
  have p0 : p.d ≠ 0 := by have := lp.1; omega
  have q0 : p'.d ≠ 0 := by have := lq.1; omega
  have d0 : (g a b p p').d ≠ 0 := by rw [hd]; exact Int.mul_ne_zero p0 q0
  have d1 : (g a b e f).d ≠ 0 := by rw [hd]; exact Int.mul_ne_zero hx.d0 hy.d0
  refine ⟨x, y, rfl, rfl, fx.ins, fy.ins, ⟨x, y, al, al, a, b, p, p', rfl, fx, fy, hA, hA, bd_mono bp hm, bd_mono bq hn, fun s hs => bd_mono (low5_bd d0 hs (hg _ _ bp bq)) hk, fun s z H' hs hz e1 hF => ?_⟩⟩
  exact q z H' e1 ⟨⟨s, hF, low5_mk hs.nrm ((hc _ _ _ _ hx.d0 hy.d0 p0 q0 lp.cross lq.cross).trans hs.cross d0), low5_bd d0 hs (hg _ _ bp bq)⟩, d1⟩
theorem wo_mul {x y : Addr} {e f : Q5} {m n : Nat} {R : VK} (ha : a.natAbs < 2 ^ 20) (hb : b.natAbs < 2 ^ 20) (hA : AlgAt CA H al a b) (hx : Wo CF CR H x al a b e m) (hy : Wo CF CR H y al a b f n) (hm : m ≤ 1400) (hn : n ≤ 1400)
    (q : ∀ (z : Addr) (H' : Hp), Same H H' → Wo CF CR H' z al a b (prodQ a b e f) (m + n + 42) → R (.ref z) H') : rOwn CF (spFourOp CF CR CA prodQ) E0 (.ref x) (.ref y) H R :=
  wo_op (k := m + n + 42) hA hx hy hm hn (by omega) (fun p q hp hq => bd_mono (prodQ_bd ha hb hp hq) (by omega)) (fun _ _ => rfl)
    (fun p q r s _ q0 r0 _ h g => (cross_prod h).trans (cross_prod1 g) (Int.mul_ne_zero r0 q0)) q
theorem wo_add {x y : Addr} {e f : Q5} {m : Nat} {R : VK} (hA : AlgAt CA H al a b) (hx : Wo CF CR H x al a b e m) (hy : Wo CF CR H y al a b f m) (hm : m ≤ 1400)
    (q : ∀ (z : Addr) (H' : Hp), Same H H' → Wo CF CR H' z al a b (addQ a b e f) (m + m + 1) → R (.ref z) H') : rOwn CF (spFourOp CF CR CA addQ) E0 (.ref x) (.ref y) H R :=
  wo_op (k := m + m + 1) hA hx hy hm hm (by omega) (fun p q hp hq => add_bd hp hq) (fun _ _ => rfl) (fun p q r s _ _ _ _ h g => cross_add h g) q
theorem wo_sub {x y : Addr} {e f : Q5} {m : Nat} {R : VK} (hA : AlgAt CA H al a b) (hx : Wo CF CR H x al a b e m) (hy : Wo CF CR H y al a b f m) (hm : m ≤ 1400)
    (q : ∀ (z : Addr) (H' : Hp), Same H H' → Wo CF CR H' z al a b (subQ a b e f) (m + m + 1) → R (.ref z) H') : rOwn CF (spFourOp CF CR CA subQ) E0 (.ref x) (.ref y) H R :=
  wo_op (k := m + m + 1) hA hx hy hm hm (by omega) (fun p q hp hq => sub_bd hp hq) (fun _ _ => rfl) (fun p q r s _ _ _ _ h g => cross_sub h g) q
theorem Wo.mono {x : Addr} {e : Q5} {m n : Nat} (h : Wo CF CR H x al a b e m) (l : m ≤ n) : Wo CF CR H x al a b e n := let ⟨r, h1, h2, h3⟩ := h.ex; ⟨⟨r, h1, h2, bd_mono h3 l⟩, h.d0⟩
/-- fours worth alike are equal -/
theorem wo_eq {x y : Addr} {e f : Q5} {m n : Nat} {Q : VK} (hA : AlgAt CA H al a b) (hx : Wo CF CR H x al a b e m) (hy : Wo CF CR H y al a b f n) (hc : Cross e f) (q : Q (.bl true) H) : spFourEq CF CR CA [.ref x, .ref y] H Q E0 := by
  obtain ⟨r, h1, h2, _⟩ := hx.ex
  obtain ⟨s, g1, g2, _⟩ := hy.ex
  exact ⟨x, y, al, al, a, b, a, b, r, s, rfl, h1, g1, hA, hA, true, ⟨fun _ => ⟨⟨rfl, rfl⟩, low5_uni h2 g2 hc hx.d0 hy.d0⟩, fun _ => rfl⟩, q⟩
end
end Sf

namespace Sf
open PySem PySem.Spec PyProof.Rows L2
/-! ratios by what they are worth; the parts of a four; more of what is reckoned -/
theorem low5_refl {r : Q5} (n : Nrm r) : Low5 r r := low5_mk n (Cross.refl r)
theorem lowT_tr {t b t' b' u v : Int} (h : LowT t' b' u v) (e : t * b' = t' * b) (b0 : b' ≠ 0) : LowT t b u v := ⟨h.1, cr1 e h.2.1 b0, h.2.2⟩
theorem lowT_zero {t b t' b' : Int} (h : LowT t b t' b') (b0 : b ≠ 0) : (t' = 0 ∧ b' = 1) ↔ t = 0 := by
  obtain ⟨h0, h1, h2⟩ := h
  constructor
  · rintro ⟨rfl, rfl⟩
    rw [Int.zero_mul, Int.mul_one] at h1
    exact h1
  · rintro rfl
    rw [Int.zero_mul] at h1
    have z : t' = 0 := (Int.mul_eq_zero.mp h1.symm).resolve_right b0
    subst z
    refine ⟨rfl, ?_⟩
    simp at h2
    omega
/-- x is a ratio worth t / b -/
structure Rw (CR : Addr) (H : Hp) (x : Addr) (t b : Int) : Prop where
  ex : ∃ t' b', RatioAt CR H x t' b' ∧ LowT t b t' b'
  b0 : b ≠ 0
section
variable {CR CA CF : Addr} {H H' : Hp} {al : Addr} {a b : Int}
theorem Rw.same {x : Addr} {t b : Int} (h : Rw CR H x t b) (s : Same H H') : Rw CR H' x t b := let ⟨t', b', h1, h2⟩ := h.ex; ⟨⟨t', b', h1.same s, h2⟩, h.b0⟩
theorem Rw.ins {x : Addr} {t b : Int} (h : Rw CR H x t b) : Ins H x CR := let ⟨_, _, h1, _⟩ := h.ex; h1.ins
theorem Rw.keep {x p : Addr} {n : Nat} {t b : Int} (h : Rw CR H x t b) (s : Sk p n H) (k : Keep p H H') : Rw CR H' x t b := let ⟨t', b', h1, h2⟩ := h.ex; ⟨⟨t', b', h1.keep s k, h2⟩, h.b0⟩
theorem rw_op {x y : Addr} {t b s c : Int} {R : VK} {g k : Int → Int → Int → Int → Int} (hx : Rw CR H x t b) (hy : Rw CR H y s c) (b1 : t.natAbs < 2 ^ 3000) (b2 : b.natAbs < 2 ^ 3000) (b3 : s.natAbs < 2 ^ 3000) (b4 : c.natAbs < 2 ^ 3000)
    (k0 : ∀ p q p' q', q ≠ 0 → q' ≠ 0 → k p q p' q' ≠ 0) (hg : ∀ t' b' s' c', t * b' = t' * b → s * c' = s' * c → g t b s c * k t' b' s' c' = g t' b' s' c' * k t b s c)
    (q : ∀ (z : Addr) (H' : Hp), Same H H' → Rw CR H' z (g t b s c) (k t b s c) → R (.ref z) H') : rOwn CR (spRatOp CR g k) E0 (.ref x) (.ref y) H R := by
  obtain ⟨t', b', r1, l1⟩ := hx.ex
  obtain ⟨s', c', r2, l2⟩ := hy.ex
  obtain ⟨u1, u2⟩ := lowT_bd hx.b0 l1
  obtain ⟨u3, u4⟩ := lowT_bd hy.b0 l2
  have z1 : b' ≠ 0 := by have := l1.1; omega
  have z2 : c' ≠ 0 := by have := l2.1; omega
  exact ⟨x, y, rfl, rfl, hx.ins, hy.ins, ⟨x, .ref y, t', b', s', c', rfl, r1, .rat r2, Nat.lt_of_le_of_lt u1 b1, Nat.lt_of_le_of_lt u2 b2, Nat.lt_of_le_of_lt u3 b3, Nat.lt_of_le_of_lt u4 b4, k0 _ _ _ _ z1 z2,
    fun u v z H' hl hz e hR => q z H' e ⟨⟨u, v, hR, lowT_tr hl (hg _ _ _ _ l1.2.1 l2.2.1) (k0 _ _ _ _ z1 z2)⟩, k0 _ _ _ _ hx.b0 hy.b0⟩⟩⟩
theorem rw_mul {x y : Addr} {t b s c : Int} {R : VK} (hx : Rw CR H x t b) (hy : Rw CR H y s c) (b1 : t.natAbs < 2 ^ 3000) (b2 : b.natAbs < 2 ^ 3000) (b3 : s.natAbs < 2 ^ 3000) (b4 : c.natAbs < 2 ^ 3000)
    (q : ∀ (z : Addr) (H' : Hp), Same H H' → Rw CR H' z (t * s) (b * c) → R (.ref z) H') : rOwn CR (spRatOp CR (fun t b t2 b2 => t * t2) (fun _ b _ b2 => b * b2)) E0 (.ref x) (.ref y) H R :=
  rw_op hx hy b1 b2 b3 b4 (fun _ _ _ _ h1 h2 => Int.mul_ne_zero h1 h2) (fun t' b' s' c' e1 e2 => by grind) q
theorem rw_add {x y : Addr} {t b s c : Int} {R : VK} (hx : Rw CR H x t b) (hy : Rw CR H y s c) (b1 : t.natAbs < 2 ^ 3000) (b2 : b.natAbs < 2 ^ 3000) (b3 : s.natAbs < 2 ^ 3000) (b4 : c.natAbs < 2 ^ 3000)
    (q : ∀ (z : Addr) (H' : Hp), Same H H' → Rw CR H' z (t * c + s * b) (b * c) → R (.ref z) H') : rOwn CR (spRatOp CR (fun t b t2 b2 => t * b2 + t2 * b) (fun _ b _ b2 => b * b2)) E0 (.ref x) (.ref y) H R :=
  rw_op hx hy b1 b2 b3 b4 (fun _ _ _ _ h1 h2 => Int.mul_ne_zero h1 h2) (fun t' b' s' c' e1 e2 => by grind) q
theorem rw_sub {x y : Addr} {t b s c : Int} {R : VK} (hx : Rw CR H x t b) (hy : Rw CR H y s c) (b1 : t.natAbs < 2 ^ 3000) (b2 : b.natAbs < 2 ^ 3000) (b3 : s.natAbs < 2 ^ 3000) (b4 : c.natAbs < 2 ^ 3000)
    (q : ∀ (z : Addr) (H' : Hp), Same H H' → Rw CR H' z (t * c - s * b) (b * c) → R (.ref z) H') : rOwn CR (spRatOp CR (fun t b t2 b2 => t * b2 - t2 * b) (fun _ b _ b2 => b * b2)) E0 (.ref x) (.ref y) H R :=
  rw_op hx hy b1 b2 b3 b4 (fun _ _ _ _ h1 h2 => Int.mul_ne_zero h1 h2) (fun t' b' s' c' e1 e2 => by grind) q
/-- ratios worth the same are equal -/
theorem rw_uni {x y : Addr} {t b s c : Int} (hx : Rw CR H x t b) (hy : Rw CR H y s c) (k : Prop) [Decidable k] (hk : k ↔ t * c = s * b) {Q : VK} (q : Q (.bl (decide k)) H) : RatEqP CR [.ref x, .ref y] H Q := by
  obtain ⟨t', b', r1, l1⟩ := hx.ex
  obtain ⟨s', c', r2, l2⟩ := hy.ex
  refine ⟨x, .ref y, t', b', s', c', rfl, r1, .rat r2, fun r hr => ?_⟩
  have e : r = decide k := by
    rw [Bool.eq_iff_iff, hr, decide_eq_true_iff, hk]
    constructor
    · rintro ⟨rfl, rfl⟩
      have z : b' ≠ 0 := by have := l1.1; omega
      exact cr1 l1.2.1 l2.2.1.symm z
    · intro e
      exact lowT_uni l1 l2 e hx.b0 hy.b0
  rw [e]
  exact q
theorem rw_eq {x y : Addr} {t b s c : Int} {R : VK} (hx : Rw CR H x t b) (hy : Rw CR H y s c) (e : t * c = s * b) (q : R (.bl true) H) : rOwn CR (spRatEq CR) E0 (.ref x) (.ref y) H R :=
  ⟨x, y, rfl, rfl, hx.ins, hy.ins, rw_uni hx hy True (by simp [e]) (by simpa using q)⟩
theorem rw_ne {x y : Addr} {t b s c : Int} {R : VK} (hx : Rw CR H x t b) (hy : Rw CR H y s c) (e : t * c = s * b) (q : R (.bl false) H) : rOwnNe CR (spRatEq CR) E0 (.ref x) (.ref y) H R :=
  ⟨x, y, rfl, rfl, hx.ins, hy.ins, rw_uni hx hy True (by simp [e]) ⟨true, by simp, q⟩⟩
theorem rw_int {x : Addr} {t b i : Int} (hx : Rw CR H x t b) (hi : i.natAbs < 10 ^ 60) (k : Prop) [Decidable k] (hk : k ↔ t = i * b) {Q : VK} (q : Q (.bl (decide k)) H) : RatEqP CR [.ref x, .int i] H Q := by
  obtain ⟨t', b', r1, l1⟩ := hx.ex
  refine ⟨x, .int i, t', b', i, 1, rfl, r1, .int hi, fun r hr => ?_⟩
  have li : LowT i 1 i 1 := ⟨by decide, rfl, by simp⟩
  have e : r = decide k := by
    rw [Bool.eq_iff_iff, hr, decide_eq_true_iff, hk]
    constructor
    · rintro ⟨rfl, rfl⟩
      have := l1.2.1
      rw [Int.mul_one] at this
      exact this
    · intro e
      exact lowT_uni l1 li (by rw [Int.mul_one]; exact e) hx.b0 (by decide)
  rw [e]
  exact q
/-- the fields of a four -/
theorem Wo.fld {x : Addr} {e : Q5} {n : Nat} (h : Wo CF CR H x al a b e n) : ∃ (dx e1 tr nm : Addr) (r : Q5), H x = some (.ins CF dx [("algebra", .ref al), ("entries", .ref e1), ("bottom", .int r.d), ("trace", .ref tr), ("norm", .ref nm), ("is_ratio", .bl (decide (r.x = 0 ∧ r.y = 0 ∧ r.z = 0)))]) ∧
    H e1 = some (.tup (ents r)) ∧ Low5 e r ∧ Bd n r ∧ Rw CR H tr (2 * e.w) e.d ∧ Rw CR H nm (normT a b e) (e.d * e.d) := by
  obtain ⟨r, hF, hl, hb⟩ := h.ex
  obtain ⟨dx, e1, tr, nm, t1, t2, n1, n2, h1, h2, h3, h4, h5, h6⟩ := hF.ex
  have r0 : r.d ≠ 0 := by have := hl.1; omega
  obtain ⟨c1, c2, c3, c4⟩ := hl.cross
  refine ⟨dx, e1, tr, nm, r, h1, h2, hl, hb, ⟨⟨t1, t2, h3, lowT_tr h4 ?_ r0⟩, h.d0⟩, ⟨⟨n1, n2, h5, lowT_tr h6 ?_ (Int.mul_ne_zero r0 r0)⟩, Int.mul_ne_zero h.d0 h.d0⟩⟩
  · grind
  · unfold normT
    have sq : ∀ {s t : Int}, s * r.d = t * e.d → s * s * (r.d * r.d) = t * t * (e.d * e.d) := fun {s t} h => by
      have : s * s * (r.d * r.d) = (s * r.d) * (s * r.d) := by grind
      rw [this, h]
      grind
    have q1 := sq c1
    have q2 := sq c2
    have q3 := sq c3
    have q4 := sq c4
    clear c1 c2 c3 c4 hl h6 h4
    grind
theorem Wo.of {x : Addr} {r : Q5} {n : Nat} (h : FourAt CF CR H x al a b r) (hb : Bd n r) : Wo CF CR H x al a b r n := ⟨⟨r, h, low5_refl h.nrm, hb⟩, by have := h.pos; omega⟩
theorem Wo.keep {x p : Addr} {e : Q5} {m n : Nat} (h : Wo CF CR H x al a b e n) (s : Sk p m H) (k : Keep p H H') : Wo CF CR H' x al a b e n := let ⟨r, h1, h2, h3⟩ := h.ex; ⟨⟨r, h1.keep s k, h2, h3⟩, h.d0⟩
theorem wo_mate {x : Addr} {e : Q5} {n : Nat} {Q : VK} (hA : AlgAt CA H al a b) (hx : Wo CF CR H x al a b e n) (hn : n ≤ 3000) (q : ∀ (z : Addr) (H' : Hp), Same H H' → Wo CF CR H' z al a b (mateQ e) n → Q (.ref z) H') : Four1P CF CR CA mateQ [.ref x] H Q := by
  obtain ⟨r, hF, hl, hb⟩ := hx.ex
  have r0 : r.d ≠ 0 := by have := hl.1; omega
  exact ⟨x, al, a, b, r, rfl, hF, hA, bd_mono hb hn, fun s hs => bd_mono (low5_bd (p := mateQ r) r0 hs (neg_bd hb).2) hn, fun s z H' hs hz e1 hF' => q z H' e1 ⟨⟨s, hF', low5_mk hs.nrm ((cross_mate hl.cross).trans hs.cross r0), low5_bd (p := mateQ r) r0 hs (neg_bd hb).2⟩, hx.d0⟩⟩
theorem wo_neg {x : Addr} {e : Q5} {n : Nat} {Q : VK} (hA : AlgAt CA H al a b) (hx : Wo CF CR H x al a b e n) (hn : n ≤ 3000) (q : ∀ (z : Addr) (H' : Hp), Same H H' → Wo CF CR H' z al a b (negQ e) n → Q (.ref z) H') : Four1P CF CR CA negQ [.ref x] H Q := by
  obtain ⟨r, hF, hl, hb⟩ := hx.ex
  have r0 : r.d ≠ 0 := by have := hl.1; omega
  exact ⟨x, al, a, b, r, rfl, hF, hA, bd_mono hb hn, fun s hs => bd_mono (low5_bd (p := negQ r) r0 hs (neg_bd hb).1) hn, fun s z H' hs hz e1 hF' => q z H' e1 ⟨⟨s, hF', low5_mk hs.nrm ((cross_neg hl.cross).trans hs.cross r0), low5_bd (p := negQ r) r0 hs (neg_bd hb).1⟩, hx.d0⟩⟩
theorem cross_scl {p r : Q5} {t u t' u' : Int} (h : Cross p r) (e : t * u' = t' * u) : Cross (sclQ t u p) (sclQ t' u' r) := by
  obtain ⟨h1, h2, h3, h4⟩ := h
  unfold sclQ
  refine ⟨?_, ?_, ?_, ?_⟩ <;> dsimp only
  · clear h2 h3 h4; grind
  · clear h1 h3 h4; grind
  · clear h1 h2 h4; grind
  · clear h1 h2 h3; grind
theorem sclQ_bd {t u : Int} {p : Q5} {m k : Nat} (hp : Bd m p) (ht : t.natAbs < 2 ^ k) (hu : u.natAbs < 2 ^ k) : Bd (m + k) (sclQ t u p) :=
  ⟨wide_lt hp.1 ht, wide_lt hp.2.1 ht, wide_lt hp.2.2.1 ht, wide_lt hp.2.2.2.1 ht, wide_lt hp.2.2.2.2 hu⟩
/-- a four times a ratio -/
theorem wo_scaled {x y : Addr} {e : Q5} {t u : Int} {n k : Nat} {Q : VK} (hA : AlgAt CA H al a b) (hx : Wo CF CR H x al a b e n) (hy : Rw CR H y t u) (u0 : t.natAbs < 2 ^ k) (u1 : u.natAbs < 2 ^ k) (hn : n ≤ 1400) (hk : k ≤ 1400)
    (q : ∀ (z : Addr) (H' : Hp), Same H H' → Wo CF CR H' z al a b (sclQ t u e) (n + k) → Q (.ref z) H') : ScaledP CF CR CA [.ref x, .ref y] H Q := by
  obtain ⟨r, hF, hl, hb⟩ := hx.ex
  obtain ⟨t', u', r1, l1⟩ := hy.ex
  have r0 : r.d ≠ 0 := by have := hl.1; omega
  obtain ⟨v1, v2⟩ := lowT_bd hy.b0 l1
  have w0 : u' ≠ 0 := by have := l1.1; omega
  have t1 := Nat.lt_of_le_of_lt v1 u0
  have t2 := Nat.lt_of_le_of_lt v2 u1
  have d0 : (sclQ t' u' r).d ≠ 0 := Int.mul_ne_zero r0 w0
  refine ⟨x, al, a, b, t', u', .ref y, r, rfl, hF, hA, .rat r1, w0, lt_mono t1 hk, lt_mono t2 hk, bd_mono hb hn, fun s z H' hs hz e1 hF' => q z H' e1 ⟨⟨s, hF', low5_mk hs.nrm ((cross_scl hl.cross l1.2.1).trans hs.cross d0), low5_bd d0 hs (sclQ_bd hb t1 t2)⟩, Int.mul_ne_zero hx.d0 hy.b0⟩⟩
theorem wo_feq {x y : Addr} {e f : Q5} {m n : Nat} {Q : VK} (hA : AlgAt CA H al a b) (hx : Wo CF CR H x al a b e m) (hy : Wo CF CR H y al a b f n) (k : Prop) [Decidable k] (hk : k ↔ Cross e f) (q : Q (.bl (decide k)) H) : spFourEq CF CR CA [.ref x, .ref y] H Q E0 := by
  obtain ⟨r, h1, h2, _⟩ := hx.ex
  obtain ⟨s, g1, g2, _⟩ := hy.ex
  refine ⟨x, y, al, al, a, b, a, b, r, s, rfl, h1, g1, hA, hA, decide k, ?_, q⟩
  rw [decide_eq_true_iff, hk]
  refine ⟨fun h => ⟨⟨rfl, rfl⟩, low5_uni h2 g2 h hx.d0 hy.d0⟩, fun h => ?_⟩
  have e1 := h.2
  subst e1
  exact h2.cross.trans g2.cross.symm (by have := h2.1; omega)
theorem four_eq {x y : Addr} {e f : Q5} {m n : Nat} {R : VK} (hA : AlgAt CA H al a b) (hx : Wo CF CR H x al a b e m) (hy : Wo CF CR H y al a b f n) (hc : Cross e f) (q : R (.bl true) H) : rOwn CF (spFourEq CF CR CA) E0 (.ref x) (.ref y) H R :=
  ⟨x, y, rfl, rfl, hx.ins, hy.ins, wo_feq hA hx hy True (by simp [hc]) (by simpa using q)⟩
theorem four_ne {x y : Addr} {e f : Q5} {m n : Nat} {R : VK} (hA : AlgAt CA H al a b) (hx : Wo CF CR H x al a b e m) (hy : Wo CF CR H y al a b f n) (hc : Cross e f) (q : R (.bl false) H) : rOwnNe CF (spFourEq CF CR CA) E0 (.ref x) (.ref y) H R :=
  ⟨x, y, rfl, rfl, hx.ins, hy.ins, wo_feq hA hx hy True (by simp [hc]) ⟨true, by simp, q⟩⟩
theorem cross_inv {p r : Q5} (h : Cross p r) (p0 : p.d ≠ 0) (r0 : r.d ≠ 0) : Cross (invQ a b p) (invQ a b r) := by
  obtain ⟨h1, h2, h3, h4⟩ := h
  have N : normT a b p * (r.d * r.d) = normT a b r * (p.d * p.d) := by
    unfold normT
    have sq : ∀ {s t : Int}, s * r.d = t * p.d → s * s * (r.d * r.d) = t * t * (p.d * p.d) := fun {s t} h => by
      have : s * s * (r.d * r.d) = (s * r.d) * (s * r.d) := by grind
      rw [this, h]
      grind
    have q1 := sq h1
    have q2 := sq h2
    have q3 := sq h3
    have q4 := sq h4
    clear h1 h2 h3 h4
    grind
  unfold invQ
  generalize normT a b p = n at *
  generalize normT a b r = m at *
  have pr : p.d * r.d ≠ 0 := Int.mul_ne_zero p0 r0
  have one : ∀ {s t : Int}, s * r.d = t * p.d → s * p.d * m = t * r.d * n := fun {s t} h => by
    refine Int.eq_of_mul_eq_mul_left pr ?_
    have e1 : p.d * r.d * (s * p.d * m) = (s * r.d) * (m * (p.d * p.d)) := by grind
    have e2 : p.d * r.d * (t * r.d * n) = (t * p.d) * (n * (r.d * r.d)) := by grind
    rw [e1, e2, h, N]
  have ng : ∀ {s t : Int}, s * r.d = t * p.d → -s * r.d = -t * p.d := fun {s t} h => by rw [Int.neg_mul, Int.neg_mul, h]
  exact ⟨one h1, one (ng h2), one (ng h3), one (ng h4)⟩
theorem wo_inverse {x : Addr} {e : Q5} {n : Nat} {Q : VK} (ba : a.natAbs < 2 ^ 10) (bb : b.natAbs < 2 ^ 10) (hA : AlgAt CA H al a b) (hx : Wo CF CR H x al a b e n) (hn : n ≤ 600) (nz : normT a b e ≠ 0)
    (q : ∀ (z : Addr) (H' : Hp), Same H H' → Wo CF CR H' z al a b (invQ a b e) (n + n + 22) → Q (.ref z) H') : InverseP CF CR CA [.ref x] H Q := by
  obtain ⟨r, hF, hl, hb⟩ := hx.ex
  have r0 : r.d ≠ 0 := by have := hl.1; omega
  have rz : normT a b r ≠ 0 := fun z => by
    have c := (cross_inv (a := a) (b := b) hl.cross hx.d0 r0)
    obtain ⟨dx, e1, tr, nm, r', h1, h2, hl', hb', hT, hN⟩ := hx.fld
    obtain ⟨c1, c2, c3, c4⟩ := hl.cross
    refine nz ?_
    have N : normT a b e * (r.d * r.d) = normT a b r * (e.d * e.d) := by
      unfold normT
      have sq : ∀ {s t : Int}, s * r.d = t * e.d → s * s * (r.d * r.d) = t * t * (e.d * e.d) := fun {s t} h => by
        have : s * s * (r.d * r.d) = (s * r.d) * (s * r.d) := by grind
        rw [this, h]
        grind
      have q1 := sq c1
      have q2 := sq c2
      have q3 := sq c3
      have q4 := sq c4
      clear c c1 c2 c3 c4 z hT hN hl hl' nz
      grind
    rw [z, Int.zero_mul] at N
    exact (Int.mul_eq_zero.mp N).resolve_right (Int.mul_ne_zero r0 r0)
  have bi : Bd (n + n + 22) (invQ a b r) := by
    have neg : ∀ {i : Int}, i.natAbs < 2 ^ n → (-i).natAbs < 2 ^ n := fun h => by rw [Int.natAbs_neg]; exact h
    have W : ∀ {i : Int}, i.natAbs < 2 ^ n → (i * r.d).natAbs < 2 ^ (n + n + 22) := fun h => lt_mono (wide_lt h hb.2.2.2.2) (by omega)
    exact ⟨W hb.1, W (neg hb.2.1), W (neg hb.2.2.1), W (neg hb.2.2.2.1), lt_mono (normT_bd ba bb hb) (by omega)⟩
  exact ⟨x, al, a, b, r, rfl, hF, hA, ba, bb, bd_mono hb hn, rz, fun s z H' hs hz e1 hF' => q z H' e1 ⟨⟨s, hF', low5_mk hs.nrm ((cross_inv hl.cross hx.d0 r0).trans hs.cross rz), low5_bd rz hs bi⟩, nz⟩⟩
end
end Sf

namespace Sf
open PySem PySem.Spec PyProof.Rows L2
/-! values near a tuple of ints -/
/-- what stands in such a tuple -/
inductive El (H : Hp) : V → Prop
  | int (n : Int) : El H (.int n)
  | non : El H .non
  | one : El H (.str "1")
  | bl (b : Bool) : El H (.bl b)
  | tup {a : Addr} {n : Int} (h : H a = some (.tup [.int n])) : El H (.ref a)
def isI : V → Bool
  | .int _ => true
  | _ => false
theorem isI_iff {v : V} : isI v = true ↔ ∃ n, v = .int n := by
  cases v with
  | int n => exact ⟨fun _ => ⟨n, rfl⟩, fun _ => rfl⟩
  | _ => exact ⟨fun z => Bool.noConfusion z, fun ⟨_, e⟩ => V.noConfusion e⟩
theorem El.same {H H' : Hp} {v : V} (h : El H v) (s : Same H H') : El H' v := by
  cases h with
  | int n => exact .int n
  | non => exact .non
  | one => exact .one
  | bl b => exact .bl b
  | tup h => exact .tup (s _ _ h)
theorem El.intB {K : PySem.W.Frag} {H : Hp} {v : V} (h : El H v) : IntB K H v (isI v) := by
  cases h with
  | int n => exact .int n
  | non => exact .non
  | one => exact .str _
  | bl b => exact .bl b
  | tup h => exact .tup h
/-- as data -/
theorem El.data {K : PySem.W.Frag} {H : Hp} {v : V} (h : El H v) : ∃ d, Dp K H v d ∧ PyData.canLay0 d = true ∧ PyData.depth d ≤ 1 := by
  cases h with
  | int n => exact ⟨_, .int n, rfl, Nat.zero_le _⟩
  | non => exact ⟨_, .non, rfl, Nat.zero_le _⟩
  | one => exact ⟨_, .str _, by decide +kernel, Nat.zero_le _⟩
  | bl b => exact ⟨_, .bl b, rfl, Nat.zero_le _⟩
  | @tup a n h => exact ⟨_, dp_tup (ns := [n]) (SqT.of h), rfl, Nat.le_refl _⟩
theorem els_data {K : PySem.W.Frag} {H : Hp} : ∀ (xs : List V), (∀ x ∈ xs, El H x) → ∃ ds, DpAll K H xs ds ∧ PyData.canLayAll0 ds = true ∧ PyData.depthAll ds ≤ 1 ∧ ds.length = xs.length
  | [], _ => ⟨[], .nil, rfl, Nat.zero_le _, rfl⟩
  | x :: xs, h => by
    obtain ⟨d, h1, h2, h3⟩ := (h x List.mem_cons_self).data (K := K)
    obtain ⟨ds, g1, g2, g3, g4⟩ := els_data (K := K) xs fun y hy => h y (List.mem_cons_of_mem _ hy)
    refine ⟨d :: ds, .cons h1 g1, ?_, ?_, by rw [List.length_cons, List.length_cons, g4]⟩
    · show (PyData.canLay0 d && PyData.canLayAll0 ds) = true
      rw [h2, g2]
      rfl
    · show max (PyData.depth d) (PyData.depthAll ds) ≤ 1
      omega
theorem eqv_nil : ∀ ds : List PyData, PyData.eqv (.list ds) (.list []) = decide (ds.length = 0)
  | [] => by unfold PyData.eqv; rfl
  | d :: ds => by unfold PyData.eqv; rfl
/-- a tuple of such things -/
def TupV (H : Hp) (v : V) (xs : List V) : Prop := ∃ a, v = .ref a ∧ H a = some (.tup xs) ∧ xs.length ≤ 10 ∧ ∀ x ∈ xs, El H x
def NoTup (H : Hp) (v : V) : Prop := v = .non ∨ (∃ i, v = .int i) ∨ (∃ s, v = .str s) ∨ ∃ a, v = .ref a ∧ ((∃ xs, H a = some (.lst xs)) ∨ ∃ kvs, H a = some (.dK kvs))
def AnyV (H : Hp) (v : V) : Prop := (∃ xs, TupV H v xs) ∨ NoTup H v
def Tri (H : Hp) (v : V) (x y z : Int) : Prop := ∃ a, v = .ref a ∧ H a = some (.tup [.int x, .int y, .int z])
theorem TupV.same {H H' : Hp} {v : V} {xs : List V} (h : TupV H v xs) (s : Same H H') : TupV H' v xs := by
  obtain ⟨a, e, h1, h2, h3⟩ := h
  exact ⟨a, e, s _ _ h1, h2, fun x hx => (h3 x hx).same s⟩
theorem NoTup.same {H H' : Hp} {v : V} (h : NoTup H v) (s : Same H H') : NoTup H' v := by
  rcases h with h | h | h | ⟨a, e, ⟨xs, h⟩ | ⟨xs, h⟩⟩
  · exact .inl h
  · exact .inr (.inl h)
  · exact .inr (.inr (.inl h))
  · exact .inr (.inr (.inr ⟨a, e, .inl ⟨xs, s _ _ h⟩⟩))
  · exact .inr (.inr (.inr ⟨a, e, .inr ⟨xs, s _ _ h⟩⟩))
theorem AnyV.same {H H' : Hp} {v : V} (h : AnyV H v) (s : Same H H') : AnyV H' v := by
  rcases h with ⟨xs, h⟩ | h
  · exact .inl ⟨xs, h.same s⟩
  · exact .inr (h.same s)
theorem Tri.same {H H' : Hp} {v : V} {x y z : Int} (h : Tri H v x y z) (s : Same H H') : Tri H' v x y z := let ⟨a, e, g⟩ := h; ⟨a, e, s _ _ g⟩
theorem Tri.any {H : Hp} {v : V} {x y z : Int} (h : Tri H v x y z) : AnyV H v := by
  obtain ⟨a, e, g⟩ := h
  refine .inl ⟨_, a, e, g, by show 3 ≤ 10; decide, fun u hu => ?_⟩
  have c : u = .int x ∨ u = .int y ∨ u = .int z := by simpa using hu
  rcases c with rfl | rfl | rfl <;> exact .int _
theorem Tri.uni {H : Hp} {v : V} {x y z x' y' z' : Int} (h : Tri H v x y z) (g : Tri H v x' y' z') : x = x' ∧ y = y' ∧ z = z' := by
  obtain ⟨a, rfl, h⟩ := h
  obtain ⟨b, e, g⟩ := g
  cases e
  rw [h] at g
  cases g
  exact ⟨rfl, rfl, rfl⟩
theorem NoTup.noTri {H : Hp} {v : V} {x y z : Int} (h : NoTup H v) (g : Tri H v x y z) : False := by
  obtain ⟨b, rfl, g⟩ := g
  rcases h with h | ⟨_, h⟩ | ⟨_, h⟩ | ⟨a, e, ⟨xs, h⟩ | ⟨xs, h⟩⟩
  · cases h
  · cases h
  · cases h
  · cases e
    rw [h] at g
    cases g
  · cases e
    rw [h] at g
    cases g
theorem TupV.tri {H : Hp} {v : V} {xs : List V} (h : TupV H v xs) {x y z : Int} : Tri H v x y z ↔ xs = [.int x, .int y, .int z] := by
  obtain ⟨a, rfl, h, _⟩ := h
  constructor
  · rintro ⟨b, e, g⟩
    cases e
    rw [h] at g
    cases g
    rfl
  · rintro rfl
    exact ⟨a, rfl, h⟩
theorem NoTup.kit {K : PySem.W.Frag} {H : Hp} {v : V} (h : NoTup H v) : ∃ t, TyX K H v (.type t) ∧ kitB t "tuple" = some false := by
  rcases h with rfl | ⟨_, rfl⟩ | ⟨_, rfl⟩ | ⟨a, rfl, ⟨xs, h⟩ | ⟨xs, h⟩⟩
  · exact ⟨"NoneType", .base .non, by decide +kernel⟩
  · exact ⟨"int", .base (.int _), by decide +kernel⟩
  · exact ⟨"str", .base (.str _), by decide +kernel⟩
  · exact ⟨"list", .base (.lst h), by decide +kernel⟩
  · exact ⟨"dict", .base (.dK h), by decide +kernel⟩
theorem three_ints {xs : List V} (l : xs.length = 3) : (xs.all isI = true) ↔ ∃ x y z : Int, xs = [.int x, .int y, .int z] := by
  match xs, l with
  | [a, b, c], _ =>
    constructor
    · intro h
      simp only [List.all_cons, List.all_nil, Bool.and_eq_true] at h
      obtain ⟨x, rfl⟩ := isI_iff.mp h.1
      obtain ⟨y, rfl⟩ := isI_iff.mp h.2.1
      obtain ⟨z, rfl⟩ := isI_iff.mp h.2.2.1
      exact ⟨x, y, z, rfl⟩
    · rintro ⟨x, y, z, e⟩
      cases e
      rfl
end Sf

namespace Sf
open PySem PySem.Spec PyProof.Rows L2
/-! own objects compared with values of other types -/
inductive VB (H : Hp) : V → String → Prop
  | non : VB H .non "NoneType"
  | int (i : Int) : VB H (.int i) "int"
  | str (x : Str) : VB H (.str x) "str"
  | tup {a : Addr} {xs : List V} (h : H a = some (.tup xs)) : VB H (.ref a) "tuple"
  | lst {a : Addr} {xs : List V} (h : H a = some (.lst xs)) : VB H (.ref a) "list"
theorem VB.tyx {K : PySem.W.Frag} {H : Hp} {v : V} {T : String} (h : VB H v T) : TyX K H v (.type T) := by
  cases h with
  | non => exact .base .non
  | int i => exact .base (.int i)
  | str x => exact .base (.str x)
  | tup h => exact .base (.tup h)
  | lst h => exact .base (.lst h)
theorem VB.tyb {K : PySem.W.Frag} {H : Hp} {v : V} {T : String} (h : VB H v T) : TyB K H v T := by
  cases h with
  | non => exact .non
  | int i => exact .int i
  | str x => exact .str x
  | tup h => exact .tup (SqT.of h)
  | lst h => exact .lst (SqL.of h)
theorem VB.same {H H' : Hp} {v : V} {T : String} (h : VB H v T) (s : Same H H') : VB H' v T := by
  cases h with
  | non => exact .non
  | int i => exact .int i
  | str x => exact .str x
  | tup h => exact .tup (s _ _ h)
  | lst h => exact .lst (s _ _ h)
theorem kit_b {K : PySem.W.Frag} {C : Addr} {T : String} (h : PySem.W.kitOne K (.type "int") (.ref C) = some false) (t : T = "NoneType" ∨ T = "int" ∨ T = "str" ∨ T = "tuple" ∨ T = "list") : PySem.W.kitOne K (.type T) (.ref C) = some false := by
  unfold PySem.W.kitOne at h ⊢
  rw [if_neg (fun z => by cases eq_of_beq z)] at h ⊢
  unfold PySem.W.kitCls at h ⊢
  dsimp only at h ⊢
  by_cases c : ((PySem.W.clsIn K C).isSome && PySem.W.typeIn K (Value.ref C) == some (Value.type "type")) = true
  · rw [if_pos c]
    rcases t with rfl | rfl | rfl | rfl | rfl <;> kernel_rfl
  · rw [if_neg c] at h
    cases h
theorem VB.kit {K : PySem.W.Frag} {C : Addr} {H : Hp} {v : V} {T : String} (b : VB H v T) (h : PySem.W.kitOne K (.type "int") (.ref C) = some false) : PySem.W.kitOne K (.type T) (.ref C) = some false :=
  kit_b h (by cases b <;> simp)
theorem sub_b {K : PySem.W.Frag} {C : Addr} {H : Hp} {v : V} {T : String} (b : VB H v T) : PySem.W.subIn K (.type T) (.ref C) = some false := by
  cases b <;> (unfold PySem.W.subIn; kernel_rfl)
theorem looks_is {M : Model} {s : Shared} {u : Value} {T : String} (h : s.TypeIs u T) : PySem.W.Looks M s.heap (typeOf u) (.type T) := by
  cases u with
  | ref a =>
    obtain ⟨o, ho, hc⟩ := h
    exact hc ▸ (PySem.W.Looks.ld ho).andThen .now
  | _ => exact PySem.W.Looks.of_pure h
section
variable {X : Cx} {CX : CXT} {n : Nat} {f C : Addr} {fd : FuncData} {ps : List Str} {sp : Sp} {E : XK}
def rOwnV (C : Addr) (sp : Sp) (E : XK) : R2 := fun x y H Q => ∃ a T, x = .ref a ∧ Ins H a C ∧ VB H y T ∧ sp [.ref a, y] H Q E
theorem eq_ownV (M : Meth X.K C "__eq__" f) (F : FnOk X.prog X.w X.K X.mg X.base CX n f fd ps sp) (hr : Room n X.A) (hb : Binds X.K fd ps []) (hx : Passes CX X E) : OpR X (compareOp .Eq) (rOwnV C sp E) := by
  intro pins s σ H x y v u Q I rx ry h
  obtain ⟨a, T, rfl, ha, vb, q⟩ := h
  cases (show v = Value.ref a from rx)
  obtain ⟨ox, od, J⟩ := ins_inst I ha
  obtain ⟨m, hF⟩ := I.fr
  show wpAny (model X.prog X.w) X.A (richCompare .Eq _ _) (EP X pins σ Q) X.xe s
  refine PySem.W.cmp_K (op := .Eq) (tb := .type T) hr.units0 hF I.ok.mod.kin J (looks_is (TyB.is I ry vb.tyb)) (by unfold PySem.W.notFirst; rw [sub_b vb]; simp) M.at_ M.fn (wpAny_mono (run_fn (us := [.ref a, u]) (vs := [.ref a, y]) F hr hb .nil hx I (.cons rfl (.cons ry .nil)) q) (fun w s' h => ?_) fun _ _ z => z)
  obtain ⟨z, H', I', rz, qz⟩ := id h
  exact cmpBack rz h
def rOwnNeV (C : Addr) (sp : Sp) (E : XK) : R2 := fun x y H Q => ∃ a T, x = .ref a ∧ Ins H a C ∧ VB H y T ∧ sp [.ref a, y] H (fun v H' => ∃ k, v = .bl k ∧ Q (.bl (!k)) H') E
theorem ne_ownV (M : Meth X.K C "__eq__" f) (F : FnOk X.prog X.w X.K X.mg X.base CX n f fd ps sp) (hr : Room (n + 1) X.A) (hb : Binds X.K fd ps []) (hx : Passes CX X E)
    (hn : PySem.W.findIn X.K (.ref C) "__ne__" = some (some (.builtin "object.__ne__"))) (hm : PySem.W.mroIn X.K C (.type "object") = some true) : OpR X (compareOp .NotEq) (rOwnNeV C sp E) := by
  intro pins s σ H x y v u Q I rx ry h
  obtain ⟨a, T, rfl, ha, vb, q⟩ := h
  cases (show v = Value.ref a from rx)
  exact ne_own_core (b := y) M F hr hb hx hn hm I ha ry (looks_is (TyB.is I ry vb.tyb)) (by unfold PySem.W.notFirst; rw [sub_b vb]; simp) q
end
section
variable {P : Program} {w : World} {K : PySem.W.Frag} {mg : Str → Option Value} {base : Heap} {f : Addr} {fd : FuncData} {CX : CXT} {k : Nat} {ps : List Str} {sp1 sp2 : Sp}
theorem fn_or (h1 : FnOk P w K mg base CX k f fd ps sp1) (h2 : FnOk P w K mg base CX k f fd ps sp2) : FnOk P w K mg base CX k f fd ps (fun vs H Q E => sp1 vs H Q E ∨ sp2 vs H Q E) where
  len := fun vs H Q E z => z.elim (fun z => h1.len vs H Q E z) (fun z => h2.len vs H Q E z)
  run := fun A outer s H args us vs Q E hr env bt rv z => z.elim (fun z => h1.run A outer s H args us vs Q E hr env bt rv z) (fun z => h2.run A outer s H args us vs Q E hr env bt rv z)
theorem fn_weak (h1 : FnOk P w K mg base CX k f fd ps sp1) (e : ∀ vs H Q E, sp2 vs H Q E → sp1 vs H Q E) : FnOk P w K mg base CX k f fd ps sp2 where
  len := fun vs H Q E z => h1.len vs H Q E (e vs H Q E z)
  run := fun A outer s H args us vs Q E hr env bt rv z => h1.run A outer s H args us vs Q E hr env bt rv (e vs H Q E z)
end
end Sf

namespace Sf
open PySem PySem.Spec PyProof.Rows L2
instance (p q : Q5) : Decidable (Cross p q) := by unfold Cross; infer_instance
def uQ : Q5 := ⟨1, 0, 0, 0, 1⟩
section
variable {P : Program} {w : World} {K : PySem.W.Frag} {mg : Str → Option Value} {base : Heap} {f : Addr} {fd : FuncData} {CR CA CF : Addr}
theorem wo_scaledJ {H : Hp} {x al : Addr} {a b : Int} {e : Q5} {t : Int} {n : Nat} {Q : VK} (hA : AlgAt CA H al a b) (hx : Wo CF CR H x al a b e n) (ht : t.natAbs < 2 ^ 20) (hn : n ≤ 1000)
    (q : ∀ (z : Addr) (H' : Hp), Same H H' → Wo CF CR H' z al a b (sclQ t 1 e) (n + 20) → Q (.ref z) H') : ScaledP CF CR CA [.ref x, .int t] H Q := by
  obtain ⟨r, hF, hl, hb⟩ := hx.ex
  have r0 : r.d ≠ 0 := by have := hl.1; omega
  have d0 : (sclQ t 1 r).d ≠ 0 := Int.mul_ne_zero r0 (by decide)
  exact ⟨x, al, a, b, t, 1, .int t, r, rfl, hF, hA, .int (Nat.lt_of_lt_of_le ht (by decide)), by decide, lt_mono ht (by decide), by show 1 < _; exact Nat.one_lt_two_pow (by decide), bd_mono hb (by omega), fun s z H' hs hz e1 hF' => q z H' e1 ⟨⟨s, hF', low5_mk hs.nrm ((cross_scl hl.cross rfl).trans hs.cross d0), low5_bd d0 hs (sclQ_bd hb ht (by decide))⟩, Int.mul_ne_zero hx.d0 (by decide)⟩⟩
def spSide (CA : Addr) : Sp := fun vs H Q _ => ∃ (al : Addr) (a b : Int), vs = [.ref al] ∧ AlgAt CA H al a b ∧ a.natAbs ≤ 10000 ∧ b.natAbs ≤ 10000 ∧ Q .non H
theorem ok_check_side (F : FnD K "check_side" "check_side" s_P_check_side f fd) (T : Glob mg) (R : AlgK K CA) : FnOk P w K mg base CX0 1 f fd ["algebra"] (spSide CA) := by
  refine F.ok sc_P_check_side (fun vs H Q E h => ?_) (fun cdv A outer s H vs Q E hr h => ?_)
  · obtain ⟨al, a, b, rfl, _⟩ := h; rfl
  · obtain ⟨al, a, b, rfl, hA, a1, b1, q⟩ := h
    obtain ⟨tM, hc_MAX_SIDE⟩ := T.m_MAX_SIDE
    refine ⟨_, PSs.nox (pss_one (ps_if (pt_cmp (pc_gt (pe_callB (call_max2 rfl) (by rfl) T.m_max (by decide +kernel) (pa_cons (pe_callB call_abs (by rfl) T.m_abs (by decide +kernel) (pa_cons (pe_fld (pv 0) rfl) pa_nil)) (pa_cons (pe_callB call_abs (by rfl) T.m_abs (by decide +kernel) (pa_cons (pe_fld (pv 0) rfl) pa_nil)) pa_nil))) (pe_glob (v := .int 10000) rfl hc_MAX_SIDE ⟨_, rfl⟩))) (pss_one ps_never) pss_nil)), ?_⟩
    obtain ⟨dx, pl, l, hx, _⟩ := hA.ex
    refine ⟨_, rfl, al, CA, dx, _, .int a, rfl, hx, R.own.cls, R.n2, rfl, a, rfl, _, rfl, al, CA, dx, _, .int b, rfl, hx, R.own.cls, R.n3, rfl, b, rfl, _, _, rfl, ?_⟩
    refine ⟨_, _, rfl, rfl, _, rfl, ifd (fun c => ?_) (fun c => q)⟩
    exfalso
    revert c
    repeat' split
    all_goals omega
structure RootP (CF CR CA : Addr) (vs : List V) (H : Hp) (Q : VK) : Prop where
  ex : ∃ (x al : Addr) (a b n : Int) (e : Q5) (m : Nat), vs = [.ref x, .int n] ∧ AlgAt CA H al a b ∧ a.natAbs < 2 ^ 10 ∧ b.natAbs < 2 ^ 10 ∧ n.natAbs < 2 ^ 20 ∧ Wo CF CR H x al a b e m ∧ m ≤ 1400 ∧
    ∀ (r : Bool) (H' : Hp), Same H H' → (r = true ↔ Cross (prodQ a b e e) (sclQ n 1 uQ)) → Q (.bl r) H'
def spRoot (CF CR CA : Addr) : Sp := fun vs H Q _ => RootP CF CR CA vs H Q
theorem ok_is_root (F : FnD K "is_root" "is_root" s_P_is_root f fd) (T : Glob mg) (R : FourK K CF) (O_Four : OwnK K CF) (O_Algebra : OwnK K CA) (M_Algebra_basis : CalM P w K mg base 9 "basis" CA ["self"] (spBasis CF CR CA))
    (M_Four_eq : CalM P w K mg base 2 "__eq__" CF ["self", "value"] (spFourEq CF CR CA)) (M_Four_mul : CalM P w K mg base 10 "__mul__" CF ["self", "other"] (spFourOp CF CR CA prodQ)) (M_Four_scaled : CalM P w K mg base 10 "scaled" CF ["self", "ratio"] (spScaled CF CR CA)) :
    FnOk P w K mg base CX0 11 f fd ["four", "number"] (spRoot CF CR CA) := by
  refine F.ok sc_P_is_root (fun vs H Q E h => ?_) (fun cdv A outer s H vs Q E hr h => ?_)
  · obtain ⟨x, al, a, b, n, e, m, rfl, _⟩ := h.ex; rfl
  · obtain ⟨x, al, a, b, n, e, m, rfl, hA, ba, bb, bn, hx, hm, q⟩ := h.ex
    refine ⟨_, PSs.nox (pss_one (ps_ret (pe_cmpR (eq_own M_Four_eq.me M_Four_eq.ok (hr.mono (by decide)) M_Four_eq.b pass0) (pe_op (op_own (M_Four_mul.me.cast (by decide +kernel)) M_Four_mul.ok (hr.mono (by decide)) M_Four_mul.b pass0 O_Four.sf) (pv 0) (pv 0)) (pe_meth (pe_ix ix_tup (pe_meth0 (pe_fld (pv 0) rfl) O_Algebra.cls M_Algebra_basis.me M_Algebra_basis.ok (hr.mono (by decide)) M_Algebra_basis.b .nil pass0) pe_int (fun _ _ => rfl)) O_Four.cls M_Four_scaled.me M_Four_scaled.ok (hr.mono (by decide)) M_Four_scaled.b .nil pass0 (pa_cons (pv 1) pa_nil)) (nomark _)))), ?_⟩
    refine ⟨_, rfl, _, rfl, wo_mul (lt_mono ba (by decide)) (lt_mono bb (by decide)) hA hx hx hm hm fun z H1 s1 wz => ?_⟩
    replace hA := hA.same s1
    replace hx := hx.same s1
    obtain ⟨dA, pl, lA, gA, _⟩ := id hA.ex
    obtain ⟨dx, e1, tr, nm, rr, g1, _⟩ := hx.fld
    refine ⟨_, rfl, x, CF, dx, _, .ref al, rfl, g1, R.own.cls, R.n1, rfl, al, dA, _, rfl, gA, rfl, ⟨al, a, b, rfl, hA, fun u0 u1 u2 u3 tt H2 s2 htt f0 f1 f2 f3 => ⟨tt, _, _, _, rfl, rfl, SqT.of htt, atI_nat (j := 0) rfl, ?_⟩⟩⟩
    have w0 : Wo CF CR H2 u0 al a b uQ 1 := Wo.of f0 ⟨by decide, by decide, by decide, by decide, by decide⟩
    obtain ⟨du, eu, _, _, _, gu, _⟩ := w0.fld
    refine ⟨u0, du, _, rfl, gu, rfl, _, rfl, wo_scaledJ (t := n) (hA.same s2) w0 bn (by decide) fun y H3 s3 wy => ?_⟩
    exact ⟨z, y, rfl, rfl, ((wz.same s2).same s3).ins, wy.ins, wo_feq ((hA.same s2).same s3) ((wz.same s2).same s3) wy (Cross (prodQ a b e e) (sclQ n 1 uQ)) Iff.rfl (q _ _ ((s1.trans s2).trans s3) decide_eq_true_iff)⟩
end
end Sf

namespace Sf
open PySem PySem.Spec PyProof.Rows L2
/-- a value that is a four of the algebra told by a and b, or is none -/
inductive FourB (CF CR CA : Addr) (a b : Int) (H : Hp) : V → Bool → Prop
  | yes {x al : Addr} {q : Q5} {m : Nat} (w : Wo CF CR H x al a b q m) (hA : AlgAt CA H al a b) : FourB CF CR CA a b H (.ref x) true
  | strange {x be : Addr} {c d : Int} {q : Q5} {m : Nat} (w : Wo CF CR H x be c d q m) (hB : AlgAt CA H be c d) (ne : ¬ (c = a ∧ d = b)) : FourB CF CR CA a b H (.ref x) false
  | out {v : V} {t : String} (h : VB H v t) : FourB CF CR CA a b H v false
theorem FourB.same {CF CR CA : Addr} {a b : Int} {H H' : Hp} {v : V} {k : Bool} (h : FourB CF CR CA a b H v k) (s : Same H H') : FourB CF CR CA a b H' v k := by
  cases h with
  | yes w hA => exact .yes (w.same s) (hA.same s)
  | strange w hB ne => exact .strange (w.same s) (hB.same s) ne
  | out h => exact .out (h.same s)
inductive PairB (CF CR CA : Addr) (a b : Int) (H : Hp) : V → Bool → Prop
  | of {t : Addr} {v0 v1 : V} {b0 b1 : Bool} (h : H t = some (.tup [v0, v1])) (r0 : FourB CF CR CA a b H v0 b0) (r1 : FourB CF CR CA a b H v1 b1) : PairB CF CR CA a b H (.ref t) (b0 && b1)
  | len {t : Addr} {ys : List V} (h : H t = some (.tup ys)) (l : ys.length ≠ 2) : PairB CF CR CA a b H (.ref t) false
  | out {v : V} (h : NoTup H v) : PairB CF CR CA a b H v false
section
variable {P : Program} {w : World} {K : PySem.W.Frag} {mg : Str → Option Value} {base : Heap} {f : Addr} {fd : FuncData} {CR CA CF : Addr}
structure IsFourOfP (CF CR CA : Addr) (vs : List V) (H : Hp) (Q : VK) : Prop where
  ex : ∃ (al : Addr) (a b : Int) (v : V) (k : Bool), vs = [.ref al, v] ∧ AlgAt CA H al a b ∧ FourB CF CR CA a b H v k ∧ ∀ H', Same H H' → Q (.bl k) H'
def spIsFourOf (CF CR CA : Addr) : Sp := fun vs H Q _ => IsFourOfP CF CR CA vs H Q
theorem ok_is_four_of (F : FnD K "is_four_of" "is_four_of" s_P_is_four_of f fd) (T : Glob mg) (R : FourK K CF) (G_Four : mg "Four" = some (.ref CF)) (O_Algebra : OwnK K CA) (M_Algebra_eq : CalM P w K mg base 1 "__eq__" CA ["self", "value"] (spAlgEq CA)) :
    FnOk P w K mg base CX0 2 f fd ["algebra", "value"] (spIsFourOf CF CR CA) := by
  refine F.ok sc_P_is_four_of (fun vs H Q E h => ?_) (fun cdv A outer s H vs Q E hr h => ?_)
  · obtain ⟨al, a, b, v, k, rfl, _⟩ := h.ex; rfl
  · obtain ⟨al, a, b, v, k, rfl, hA, hv, q⟩ := h.ex
    refine ⟨_, PSs.nox (pss_one (ps_ret (pe_and (pe_callB call_isi (by rfl) T.m_isinstance (by decide +kernel) (pa_cons (pv 1) (pa_cons (pe_glob (v := .ref _) rfl G_Four rfl) pa_nil))) (pe_one (pe_cmpR (eq_own M_Algebra_eq.me M_Algebra_eq.ok (hr.mono (by decide)) M_Algebra_eq.b pass0) (pe_fld (pv 1) rfl) (pv 0) (nomark _)))))), ?_⟩
    cases hv with
    | out g =>
      refine ⟨_, rfl, _, .ref CF, _, _, false, rfl, .own CF, g.tyx, g.kit R.own.ki, ?_⟩
      exact ⟨false, rfl, q _ (Same.refl _)⟩
    | @yes x al2 e m wz hB =>
      obtain ⟨dz, ez, trz, nmz, rz, gz, _⟩ := wz.fld
      refine ⟨_, rfl, _, .ref CF, _, _, true, rfl, .own CF, R.own.ty wz.ins, R.own.kk, ?_⟩
      refine ⟨true, rfl, (if_pos rfl).mpr ?_⟩
      refine ⟨_, rfl, x, CF, dz, _, .ref al2, rfl, gz, R.own.cls, R.n1, rfl, _, rfl, al2, al, rfl, rfl, hB.ins, hA.ins, ⟨al2, al, a, b, a, b, rfl, hB, hA, true, by simp, ?_⟩⟩
      exact q _ (Same.refl _)
    | @strange x be c d e m wz hB ne =>
      obtain ⟨dz, ez, trz, nmz, rz, gz, _⟩ := wz.fld
      refine ⟨_, rfl, _, .ref CF, _, _, true, rfl, .own CF, R.own.ty wz.ins, R.own.kk, ?_⟩
      refine ⟨true, rfl, (if_pos rfl).mpr ?_⟩
      refine ⟨_, rfl, x, CF, dz, _, .ref be, rfl, gz, R.own.cls, R.n1, rfl, _, rfl, be, al, rfl, rfl, hB.ins, hA.ins, ⟨be, al, c, d, a, b, rfl, hB, hA, false, by simpa using ne, ?_⟩⟩
      exact q _ (Same.refl _)
end
end Sf

namespace Sf
open PySem PySem.Spec PyProof.Rows L2
section
variable {P : Program} {w : World} {K : PySem.W.Frag} {mg : Str → Option Value} {base : Heap} {f : Addr} {fd : FuncData}
structure DrawP (vs : List V) (H : Hp) (Q : VK) : Prop where
  ex : ∃ (p : Addr) (n : Nat) (m : Int), vs = [.ref p, .int m] ∧ Sk p n H ∧ n ≤ 900000 ∧ 1 ≤ m ∧ m ≤ 1000 ∧ ∀ (z : Int) (H' : Hp), z ≠ 0 → (z.natAbs : Int) ≤ m → Keep p H H' → Sk p (n + 2) H' → Q (.int z) H'
def spDraw : Sp := fun vs H Q _ => DrawP vs H Q
theorem ok_drawn (F : FnD K "_law_drawn" "_law_drawn" s_L_drawn f fd) (T : Glob mg) (C_L_pour : Cal P w K mg base 1 "_law_pour" ["_law_jug_here", "_law_many"] spTake) : FnOk P w K mg base CX0 2 f fd ["_law_jug_here", "_law_most"] spDraw := by
  refine F.ok sc_L_drawn (fun vs H Q E h => ?_) (fun cdv A outer s H vs Q E hr h => ?_)
  · obtain ⟨p, n, m, rfl, _⟩ := h.ex; rfl
  · obtain ⟨p, n, m, rfl, hs, hn, m0, m1, q⟩ := h.ex
    refine ⟨_, PSs.nox (pss_cons (ps_set (i := 2) sc_L_drawn.nd rfl (Or.inl rfl) (pe_op op_add pe_int (pe_cal C_L_pour (hr.mono (by decide)) (pa_cons (pv 0) (pa_cons (pv 1) pa_nil)))))
      (pss_one (ps_ret (pe_ifExp (pt_cmp (pc_eqI (pe_cal C_L_pour (hr.mono (by decide)) (pa_cons (pv 0) (pa_cons pe_int pa_nil))) pe_int)) (pv 2) (pe_un un_neg (pv 2)))))), ?_⟩
    refine ⟨_, rfl, _, rfl, take_of hs (by omega) m0 (Int.lt_trans (by omega : m < 1000001) (by decide +kernel)) fun t H2 t0 t1 k2 s2 _ => ?_⟩
    refine ⟨_, _, rfl, rfl, ?_⟩
    refine ⟨_, rfl, take_of s2 (by omega) (by decide) (by decide +kernel) fun r H3 r0 r1 k3 s3 _ => ?_⟩
    refine ⟨_, _, rfl, rfl, _, rfl, ifd (fun h => ?_) (fun h => ?_)⟩
    · exact ⟨_, rfl, q _ _ (by omega) (by omega) (k2.trans k3) s3⟩
    · exact ⟨_, rfl, _, rfl, q (-(1 + t)) _ (by omega) (by omega) (k2.trans k3) s3⟩
structure KPairP (vs : List V) (H : Hp) (Q : VK) : Prop where
  ex : ∃ (p : Addr) (n : Nat), vs = [.ref p] ∧ Sk p n H ∧ n ≤ 800000 ∧ ∀ (a b : Int) (t : Addr) (H' : Hp), a ≠ 0 → b ≠ 0 → a.natAbs ≤ 100 → b.natAbs ≤ 100 → Keep p H H' → Sk p (n + 5) H' → H' t = some (.tup [.int a, .int b]) → Q (.ref t) H'
def spKPair : Sp := fun vs H Q _ => KPairP vs H Q
theorem ok_pair (F : FnD K "_law_pair" "_law_pair" s_L_pair f fd) (T : Glob mg) (C_L_of : Cal P w K mg base 2 "_law_of" ["_law_jug_here", "_law_items"] (spOneOf K)) (C_L_drawn : Cal P w K mg base 2 "_law_drawn" ["_law_jug_here", "_law_most"] spDraw) : FnOk P w K mg base CX0 3 f fd ["_law_jug_here"] spKPair := by
  refine F.ok sc_L_pair (fun vs H Q E h => ?_) (fun cdv A outer s H vs Q E hr h => ?_)
  · obtain ⟨p, n, rfl, _⟩ := h.ex; rfl
  · obtain ⟨p, n, rfl, hs, hn, q⟩ := h.ex
    refine ⟨_, PSs.nox (pss_cons (ps_set (i := 1) sc_L_pair.nd rfl (Or.inl rfl) (pe_cal C_L_of (hr.mono (by decide)) (pa_cons (pv 0) (pa_cons (pe_lst (pa_cons pe_int (pa_cons pe_int (pa_cons pe_int (pa_cons pe_int (pa_cons pe_int (pa_cons pe_int (pa_cons pe_int pa_nil)))))))) pa_nil))))
      (pss_one (ps_ret (pe_tup (pa_cons (pe_cal C_L_drawn (hr.mono (by decide)) (pa_cons (pv 0) (pa_cons (pv 1) pa_nil))) (pa_cons (pe_cal C_L_drawn (hr.mono (by decide)) (pa_cons (pv 0) (pa_cons (pv 1) pa_nil))) pa_nil)))))), ?_⟩
    refine ⟨_, rfl, (by show 7 ≤ sizeLine; decide), fun b hb => one_of_new hs (by omega) hb (by show 1 ≤ 7; decide) (by show 7 ≤ 1000000; decide) fun x H1 hv k1 s1 => ?_⟩
    obtain ⟨u, rfl, u0, u1⟩ : ∃ u : Int, x = .int u ∧ 1 ≤ u ∧ u ≤ 100 := by
      have c : x = .int 3 ∨ x = .int 7 ∨ x = .int 12 ∨ x = .int 30 ∨ x = .int 100 := by simpa using hv
      rcases c with e | e | e | e | e <;> exact ⟨_, e, by omega, by omega⟩
    have k1 : Keep p H H1 := k1
    refine ⟨_, rfl, _, rfl, ⟨p, n + 1, u, rfl, s1, by omega, u0, by omega, fun a H2 a0 a1 k2 s2 => ?_⟩⟩
    refine ⟨_, rfl, _, rfl, ⟨p, n + 1 + 2, u, rfl, s2, by omega, u0, by omega, fun b2 H3 b0 b1 k3 s3 => ?_⟩⟩
    exact ⟨(by show 2 ≤ sizeLine; decide), fun t ht => q a b2 t _ a0 b0 (by omega) (by omega) (((k1.trans k2).trans k3).trans (Keep.new ht)) (s3.same (same_upd ht)) upd_same⟩
end
end Sf

namespace Sf
open PySem PySem.Spec PyProof.Rows L2
/-! ### signs multiply -/
def par2 (s t : Nat) (u v : Int) : Int := (u - 1) / 2 * ((v - 1) / 2) + s * ((v * v - 1) / 8) + t * ((u * u - 1) / 8)
theorem sgn2 (s t : Nat) (u v : Int) : sgnAt 2 s t u v = if par2 s t u v % 2 = 1 then -1 else 1 := rfl
theorem e_mul {v w : Int} (hv : v % 2 = 1) (hw : w % 2 = 1) : ((v * w - 1) / 2) % 2 = ((v - 1) / 2 + (w - 1) / 2) % 2 := by
  have h1 : v = 2 * ((v - 1) / 2) + 1 := by omega
  have h2 : w = 2 * ((w - 1) / 2) + 1 := by omega
  generalize (v - 1) / 2 = k at h1 ⊢
  generalize (w - 1) / 2 = l at h2 ⊢
  have e : v * w = 4 * (k * l) + 2 * k + 2 * l + 1 := by rw [h1, h2]; grind
  omega
theorem w_mul {v w : Int} (hv : v % 2 = 1) (hw : w % 2 = 1) : ((v * w * (v * w) - 1) / 8) % 2 = ((v * v - 1) / 8 + (w * w - 1) / 8) % 2 := by
  have s1 := odd_sq8 (w := v) (by omega)
  have s2 := odd_sq8 (w := w) (by omega)
  have h1 : v * v = 8 * ((v * v - 1) / 8) + 1 := by omega
  have h2 : w * w = 8 * ((w * w - 1) / 8) + 1 := by omega
  generalize (v * v - 1) / 8 = k at h1 ⊢
  generalize (w * w - 1) / 8 = l at h2 ⊢
  have e : v * w * (v * w) = (v * v) * (w * w) := by grind
  have e2 : v * w * (v * w) = 64 * (k * l) + 8 * k + 8 * l + 1 := by rw [e, h1, h2]; grind
  omega
theorem par2_mul {s t t' : Nat} {u v w : Int} (hv : v % 2 = 1) (hw : w % 2 = 1) : par2 s (t + t') u (v * w) % 2 = (par2 s t u v + par2 s t' u w) % 2 := by
  unfold par2
  have h1 := par_mul ((u - 1) / 2) ((v * w - 1) / 2) ((u - 1) / 2) _ rfl (e_mul hv hw)
  have h2 := par_mul (s : Int) ((v * w * (v * w) - 1) / 8) (s : Int) _ rfl (w_mul hv hw)
  rw [Int.mul_add] at h1 h2
  have h3 : ((t + t' : Nat) : Int) * ((u * u - 1) / 8) = t * ((u * u - 1) / 8) + t' * ((u * u - 1) / 8) := by rw [Int.natCast_add, Int.add_mul]
  omega
theorem sgn_mul2 {s t t' : Nat} {u v w : Int} (hv : v % 2 = 1) (hw : w % 2 = 1) : sgnAt 2 s (t + t') u (v * w) = sgnAt 2 s t u v * sgnAt 2 s t' u w := by
  rw [sgn2, sgn2, sgn2]
  have h := par2_mul (s := s) (t := t) (t' := t') (u := u) hv hw
  by_cases c1 : par2 s t u v % 2 = 1 <;> by_cases c2 : par2 s t' u w % 2 = 1
  · rw [if_pos c1, if_pos c2, if_neg (by omega)]; rfl
  · rw [if_pos c1, if_neg c2, if_pos (by omega)]; rfl
  · rw [if_neg c1, if_pos c2, if_pos (by omega)]; rfl
  · rw [if_neg c1, if_neg c2, if_neg (by omega)]; rfl
theorem sgn_mul_odd {q : Nat} (h3 : 3 ≤ q) (he : euler q = true) (hp : PrP q) {s t t' : Nat} {u v w : Int} (hu : u % (q : Int) ≠ 0) : sgnAt q s (t + t') u (v * w) = sgnAt q s t u v * sgnAt q s t' u w := by
  have n2 : ¬ (q : Int) = 2 := by omega
  have m1 : (-1 : Int) % (q : Int) ≠ 0 := fun z => prime_one hp ((Int.dvd_neg).mp (Int.dvd_of_emod_eq_zero z))
  have r1 := rest_unit m1
  have r2 := rest_unit hu
  unfold sgnAt
  rw [if_neg n2, if_neg n2, if_neg n2, sign_mul h3 he hp]
  have k1 : s * (t + t') % 2 = (s % 2) * ((t % 2 + t' % 2) % 2) % 2 := by rw [Nat.mul_mod, Nat.add_mod]
  have k2 : s * t % 2 = (s % 2) * (t % 2) % 2 := by rw [Nat.mul_mod]
  have k3 : s * t' % 2 = (s % 2) * (t' % 2) % 2 := by rw [Nat.mul_mod]
  have k4 : (t + t') % 2 = (t % 2 + t' % 2) % 2 := Nat.add_mod _ _ _
  rw [k1, k2, k3, k4]
  generalize restSign (-1) (q : Int) = A at r1 ⊢
  generalize restSign u (q : Int) = B at r2 ⊢
  generalize restSign v (q : Int) = C
  generalize restSign w (q : Int) = D
  have d1 : s % 2 = 0 ∨ s % 2 = 1 := by omega
  have d2 : t % 2 = 0 ∨ t % 2 = 1 := by omega
  have d3 : t' % 2 = 0 ∨ t' % 2 = 1 := by omega
  have g1 : A * B * C * (A * B * D) = C * D := by
    have : A * B * C * (A * B * D) = (A * A) * (B * B) * (C * D) := by clear r1 r2 k1 k2 k3 k4 d1 d2 d3; grind
    rw [this, r1, r2]; simp
  clear k1 k2 k3 k4 h3 he hp hu n2 m1
  rcases d1 with e1 | e1 <;> rcases d2 with e2 | e2 <;> rcases d3 with e3 | e3 <;> rw [e1, e2, e3] <;> simp <;> clear e1 e2 e3 <;> grind
def GoodPl (p : Int) : Prop := p = 0 ∨ (PrP p ∧ (p = 2 ∨ ∃ q : Nat, p = q ∧ 3 ≤ q ∧ euler q = true))
theorem hsign_mul {a b c p r1 r2 : Int} (hp : GoodPl p) (b0 : b ≠ 0) (c0 : c ≠ 0) (h1 : HSign a b p r1) (h2 : HSign a c p r2) : HSign a (b * c) p (r1 * r2) := by
  rcases hp with p0 | ⟨hp, he⟩
  · have f1 : r1 = if a < 0 ∧ b < 0 then -1 else 1 := by
      rcases h1 with ⟨_, e⟩ | ⟨n, _⟩
      · exact e
      · exact absurd p0 n
    have f2 : r2 = if a < 0 ∧ c < 0 then -1 else 1 := by
      rcases h2 with ⟨_, e⟩ | ⟨n, _⟩
      · exact e
      · exact absurd p0 n
    refine .inl ⟨p0, ?_⟩
    rw [f1, f2]
    rcases Int.lt_or_gt_of_ne b0 with b1 | b1 <;> rcases Int.lt_or_gt_of_ne c0 with c1 | c1
    · have : 0 < b * c := Int.mul_pos_of_neg_of_neg b1 c1
      by_cases a1 : a < 0
      · rw [if_pos ⟨a1, b1⟩, if_pos ⟨a1, c1⟩, if_neg (by omega)]; rfl
      · rw [if_neg (fun z => a1 z.1), if_neg (fun z => a1 z.1), if_neg (fun z => a1 z.1)]; rfl
    · have : b * c < 0 := Int.mul_neg_of_neg_of_pos b1 c1
      by_cases a1 : a < 0
      · rw [if_pos ⟨a1, b1⟩, if_neg (by omega), if_pos (by omega)]; rfl
      · rw [if_neg (fun z => a1 z.1), if_neg (fun z => a1 z.1), if_neg (fun z => a1 z.1)]; rfl
    · have : b * c < 0 := Int.mul_neg_of_pos_of_neg b1 c1
      by_cases a1 : a < 0
      · rw [if_pos (by omega : a < 0 ∧ c < 0), if_neg (by omega), if_pos (by omega)]; rfl
      · rw [if_neg (fun z => a1 z.1), if_neg (fun z => a1 z.1), if_neg (fun z => a1 z.1)]; rfl
    · have : 0 < b * c := Int.mul_pos b1 c1
      rw [if_neg (by omega), if_neg (by omega), if_neg (by omega)]; rfl
  · have p2 := hp.1
    obtain ⟨p0, s, t, u, v, g1, g2, e1⟩ := h1.resolve_left (fun z => by omega)
    obtain ⟨_, s', t', u', v', k1, k2, e2⟩ := h2.resolve_left (fun z => by omega)
    obtain ⟨es, eu⟩ := strip_unique hp k1 g1
    subst es eu
    refine .inr ⟨p0, s', t + t', u', v * v', k1, ?_, ?_⟩
    · constructor
      · rw [g2.1, k2.1, Int.pow_add]
        grind
      · intro z
        rcases prime_mul hp (Int.dvd_of_emod_eq_zero z) with d | d
        · exact g2.2 (Int.emod_eq_zero_of_dvd d)
        · exact k2.2 (Int.emod_eq_zero_of_dvd d)
    · rw [e1, e2]
      rcases he with e | ⟨q, e, h3, h4⟩
      · subst e
        have h5 := g2.2
        have h6 := k2.2
        exact (sgn_mul2 (by omega) (by omega)).symm
      · subst e
        exact (sgn_mul_odd h3 h4 hp k1.2).symm
theorem hsign_sq {a b p r : Int} (hp : p = 0 ∨ PrP p) (h : HSign a b p r) : r = 1 ∨ r = -1 := by
  rcases h with ⟨_, e⟩ | ⟨p0, s, t, u, v, g1, g2, e⟩
  · rw [e]; split
    · exact .inr rfl
    · exact .inl rfl
  · have hp := hp.resolve_left p0
    have pm : ∀ x : Int, x * x = 1 → x = 1 ∨ x = -1 := fun x h => by
      have : x.natAbs * x.natAbs = 1 := by rw [← Int.natAbs_mul, h]; rfl
      have := Nat.eq_one_of_mul_eq_one_left this
      omega
    apply pm
    rw [e]
    unfold sgnAt
    split
    · split <;> rfl
    · have m1 : (-1 : Int) % p ≠ 0 := fun z => prime_one hp ((Int.dvd_neg).mp (Int.dvd_of_emod_eq_zero z))
      have r1 := rest_unit m1
      have r2 := rest_unit g1.2
      have r3 := rest_unit g2.2
      have q1 : (if s * t % 2 = 1 then restSign (-1) p else 1) * (if s * t % 2 = 1 then restSign (-1) p else 1) = 1 := by split <;> simp_all
      have q2 : (if t % 2 = 1 then restSign u p else 1) * (if t % 2 = 1 then restSign u p else 1) = 1 := by split <;> simp_all
      have q3 : (if s % 2 = 1 then restSign v p else 1) * (if s % 2 = 1 then restSign v p else 1) = 1 := by split <;> simp_all
      grind
/-! ### pairs with the sign 1 everywhere -/
theorem rest_one {n p : Int} (hp : 2 < p) (h : n % p = 1) : restSign n p = 1 := by
  unfold restSign
  rw [if_neg (by omega), if_neg (by omega), ← pow_mod, h, Int.one_pow, if_pos (Int.emod_eq_of_lt (by decide) (by omega))]
theorem hs_one {b p r : Int} (hp : p = 0 ∨ PrP p) (h : HSign 1 b p r) : r = 1 := by
  rcases h with ⟨_, e⟩ | ⟨p0, s, t, u, v, g1, g2, e⟩
  · rw [e]; rfl
  · have hp := hp.resolve_left p0
    have p2 := hp.1
    have z := strip_unique hp g1 (show Strip 1 p 0 1 from ⟨by rw [Int.pow_zero]; rfl, by rw [Int.emod_eq_of_lt (by decide) (by omega)]; decide⟩)
    rw [e, z.1, z.2]
    unfold sgnAt
    by_cases c : p = 2
    · rw [if_pos c, if_neg (by simp)]
    · rw [if_neg c, rest_one (by omega) (Int.emod_eq_of_lt (by decide) (by omega))]
      simp
theorem hs_neg {a p r : Int} (hp : GoodPl p) (a0 : a ≠ 0) (h : HSign a (-a) p r) : r = 1 := by
  rcases hp with p0 | ⟨hp, he⟩
  · rcases h with ⟨_, e⟩ | ⟨n, _⟩
    · rw [e, if_neg (by omega)]
    · exact absurd p0 n
  · have p2 := hp.1
    obtain ⟨p0, s, t, u, v, g1, g2, e⟩ := h.resolve_left (fun z => by omega)
    have hn : Strip (-a) p s (-u) := ⟨by rw [g1.1, Int.mul_neg], fun z => g1.2 (Int.emod_eq_zero_of_dvd ((Int.dvd_neg).mp (Int.dvd_of_emod_eq_zero z)))⟩
    obtain ⟨e1, e2⟩ := strip_unique hp g2 hn
    rw [e, e1, e2]
    rcases he with c | ⟨q, c, h3, h4⟩
    · subst c
      rw [sgn2, if_neg ?_]
      unfold par2
      have hu := g1.2
      have h1 : u = 2 * ((u - 1) / 2) + 1 := by omega
      have h2 : (-u - 1) / 2 = -((u - 1) / 2) - 1 := by omega
      rw [h2, Int.neg_mul_neg]
      generalize (u - 1) / 2 = k
      have : (k * (-k - 1)) % 2 = 0 := by
        rcases (by omega : k % 2 = 0 ∨ k % 2 = 1) with c | c
        · have := par_mul k (-k - 1) 0 (-k - 1) (by omega) rfl
          omega
        · have := par_mul k (-k - 1) k 0 rfl (by omega)
          omega
      omega
    · subst c
      have n2 : ¬ (q : Int) = 2 := by omega
      have m1 : (-1 : Int) % (q : Int) ≠ 0 := fun z => prime_one hp ((Int.dvd_neg).mp (Int.dvd_of_emod_eq_zero z))
      have r1 := rest_unit m1
      have r2 := rest_unit g1.2
      unfold sgnAt
      rw [if_neg n2]
      have en : -u = (-1) * u := by omega
      rw [en, sign_mul h3 h4 hp]
      have k2 : s * s % 2 = (s % 2) * (s % 2) % 2 := by rw [Nat.mul_mod]
      rw [k2]
      rcases (by omega : s % 2 = 0 ∨ s % 2 = 1) with c | c
      · rw [c]; simp
      · rw [c]; simp; grind
theorem hs_even {b p r : Int} (hp : p = 0 ∨ PrP p) (b0 : b ≠ 0) (b1 : b ≠ 1) (hb : p = 2 → b % 2 = 0) (h : HSign b (1 - b) p r) : r = 1 := by
  rcases h with ⟨_, e⟩ | ⟨p0, s, t, u, v, g1, g2, e⟩
  · rw [e, if_neg (by omega)]
  · have hp := hp.resolve_left p0
    have p2 := hp.1
    by_cases c : p = 2
    · subst c
      have hb := hb rfl
      have z2 := strip_unique hp g2 (show Strip (1 - b) 2 0 (1 - b) from ⟨by rw [Int.pow_zero, Int.one_mul], by omega⟩)
      rw [e, z2.1, z2.2, sgn2, if_neg ?_]
      unfold par2
      have hu := g1.2
      have e1 := g1.1
      rcases s with _ | _ | _ | s
      · rw [Int.pow_zero, Int.one_mul] at e1
        omega
      · have eb : b = 2 * u := by rw [e1]; rfl
        rw [eb]
        have h1 : u = 2 * ((u - 1) / 2) + 1 := by omega
        generalize (u - 1) / 2 = k at h1 ⊢
        have f1 : (1 - 2 * u - 1) / 2 = -u := by omega
        have f2 : ((1 - 2 * u) * (1 - 2 * u) - 1) / 8 = 2 * (k * k) + k := by
          have : (1 - 2 * u) * (1 - 2 * u) = 8 * (2 * (k * k) + k) + 1 := by rw [h1]; grind
          omega
        rw [f1, f2, h1]
        have f3 : k * -(2 * k + 1) = -(2 * (k * k)) - k := by grind
        rw [f3]
        omega
      · have eb : b = 4 * u := by rw [e1]; rfl
        rw [eb]
        have f1 : (1 - 4 * u - 1) / 2 = 2 * (-u) := by omega
        rw [f1]
        have f2 : (u - 1) / 2 * (2 * -u) = 2 * ((u - 1) / 2 * -u) := by grind
        rw [f2]
        omega
      · have eb : b = 8 * (2 ^ s * u) := by rw [e1, Int.pow_succ, Int.pow_succ, Int.pow_succ]; grind
        generalize 2 ^ s * u = m at eb
        rw [eb]
        have f1 : (1 - 8 * m - 1) / 2 = 2 * (-(2 * m)) := by omega
        have f2 : ((1 - 8 * m) * (1 - 8 * m) - 1) / 8 = 2 * (4 * (m * m) - m) := by
          have : (1 - 8 * m) * (1 - 8 * m) = 16 * (4 * (m * m) - m) + 1 := by grind
          omega
        rw [f1, f2]
        have f3 : (u - 1) / 2 * (2 * -(2 * m)) = 2 * ((u - 1) / 2 * -(2 * m)) := by grind
        have f4 : ((s + 1 + 1 + 1 : Nat) : Int) * (2 * (4 * (m * m) - m)) = 2 * (((s + 1 + 1 + 1 : Nat) : Int) * (4 * (m * m) - m)) := by grind
        rw [f3, f4]
        omega
    · have p3 : 2 < p := by omega
      rw [e]
      unfold sgnAt
      rw [if_neg c]
      by_cases d1 : b % p = 0
      · have d2 : (1 - b) % p = 1 := by
          have := Int.dvd_of_emod_eq_zero d1
          obtain ⟨k, hk⟩ := this
          rw [hk, Int.sub_eq_add_neg, ← Int.mul_neg, Int.add_mul_emod_self_left]
          exact Int.emod_eq_of_lt (by decide) (by omega)
        have z2 := strip_unique hp g2 (show Strip (1 - b) p 0 (1 - b) from ⟨by rw [Int.pow_zero, Int.one_mul], by rw [d2]; decide⟩)
        rw [z2.1, z2.2, rest_one p3 d2]
        simp
      · have z1 := strip_unique hp g1 (show Strip b p 0 b from ⟨by rw [Int.pow_zero, Int.one_mul], d1⟩)
        rw [z1.1, z1.2]
        by_cases d2 : (1 - b) % p = 0
        · have d3 : b % p = 1 := by
            obtain ⟨k, hk⟩ := Int.dvd_of_emod_eq_zero d2
            have : b = 1 + p * (-k) := by rw [Int.mul_neg]; omega
            rw [this, Int.add_mul_emod_self_left]
            exact Int.emod_eq_of_lt (by decide) (by omega)
          rw [rest_one p3 d3]
          simp
        · have z2 := strip_unique hp g2 (show Strip (1 - b) p 0 (1 - b) from ⟨by rw [Int.pow_zero, Int.one_mul], d2⟩)
          rw [z2.1]
          simp
theorem hs_flip {b p r : Int} (hp : p = 0 ∨ PrP p) (b0 : b ≠ 0) (b1 : b ≠ 1) (h : HSign b (1 - b) p r) : r = 1 := by
  by_cases c : b % 2 = 0
  · exact hs_even hp b0 b1 (fun _ => c) h
  · have e : b = 1 - (1 - b) := by omega
    refine hs_even (b := 1 - b) hp (by omega) (by omega) (fun _ => by omega) ?_
    rw [← e]
    exact hsign_comm h
end Sf

namespace Sf
open PySem PySem.Spec PyProof.Rows L2
/-! Fermat's little theorem by the residues that a multiplication exchanges; residue signs multiply for every prime -/
theorem perm_sub : ∀ {l m : List Int}, l.Nodup → m.Nodup → (∀ x ∈ l, x ∈ m) → m.length ≤ l.length → l.Perm m
  | [], m, _, _, _, h => by
    have : m = [] := List.eq_nil_of_length_eq_zero (by simpa using h)
    rw [this]
  | x :: l, m, hl, hm, hs, h => by
    have hx := hs x List.mem_cons_self
    have p := List.perm_cons_erase hx
    have hl' := List.nodup_cons.mp hl
    refine (List.Perm.cons x (perm_sub hl'.2 (hm.erase x) (fun y hy => ?_) ?_)).trans p.symm
    · have ne : y ≠ x := fun z => hl'.1 (z ▸ hy)
      exact (List.mem_erase_of_ne ne).mpr (hs y (List.mem_cons_of_mem _ hy))
    · rw [List.length_erase_of_mem hx]
      have := h
      rw [List.length_cons] at this
      omega
def prL (l : List Int) : Int := l.foldr (· * ·) 1
theorem prL_perm {l m : List Int} (h : l.Perm m) : prL l = prL m := by
  induction h with
  | nil => rfl
  | cons x _ ih => show x * prL _ = x * prL _; rw [ih]
  | swap x y l =>
    show y * (x * prL l) = x * (y * prL l)
    rw [← Int.mul_assoc, ← Int.mul_assoc, Int.mul_comm y x]
  | trans _ _ h1 h2 => exact h1.trans h2
theorem prL_mod (a p : Int) : ∀ l : List Int, prL (l.map fun x => a * x % p) % p = a ^ l.length * prL l % p
  | [] => by
    show (1 : Int) % p = a ^ 0 * 1 % p
    rw [Int.pow_zero, Int.mul_one]
  | x :: l => by
    show (a * x % p) * prL (l.map fun x => a * x % p) % p = a ^ (l.length + 1) * (x * prL l) % p
    rw [Int.mul_emod, prL_mod a p l, Int.emod_emod, ← Int.mul_emod, Int.pow_succ]
    congr 1
    grind
theorem prL_prime {p : Int} (hp : PrP p) : ∀ {l : List Int}, (∀ x ∈ l, ¬ p ∣ x) → ¬ p ∣ prL l
  | [], _ => prime_one hp
  | x :: l, h => fun z => by
    rcases prime_mul hp (show p ∣ x * prL l from z) with y | y
    · exact h x List.mem_cons_self y
    · exact prL_prime hp (fun x hx => h x (List.mem_cons_of_mem _ hx)) y
def resL (p : Nat) : List Int := (List.range' 1 (p - 1)).map fun x : Nat => (x : Int)
theorem resL_mem {p : Nat} (hp : 1 ≤ p) {x : Int} : x ∈ resL p ↔ 1 ≤ x ∧ x < p := by
  unfold resL
  rw [List.mem_map]
  constructor
  · rintro ⟨y, hy, rfl⟩
    have := List.mem_range'_1.mp hy
    omega
  · rintro ⟨h1, h2⟩
    exact ⟨x.toNat, List.mem_range'_1.mpr (by omega), by omega⟩
theorem resL_nodup (p : Nat) : (resL p).Nodup := by
  unfold resL
  refine List.pairwise_map.mpr (List.Pairwise.imp (fun {a b : Nat} (h : a ≠ b) (e : (a : Int) = b) => h (by omega)) (List.nodup_range' (s := 1) (n := p - 1)))
theorem small_dvd {p x : Int} (h : p ∣ x) (h1 : -p < x) (h2 : x < p) : x = 0 := by
  obtain ⟨k, rfl⟩ := h
  have hp : 0 < p := by omega
  by_cases k0 : k = 0
  · rw [k0, Int.mul_zero]
  · exfalso
    by_cases kp : 0 < k
    · have : p * 1 ≤ p * k := Int.mul_le_mul_of_nonneg_left (by omega) (by omega)
      omega
    · have : p * k ≤ p * (-1) := Int.mul_le_mul_of_nonneg_left (by omega) (by omega)
      omega
theorem fermat {p : Nat} (hp : PrP (p : Int)) {a : Int} (ha : ¬ (p : Int) ∣ a) : a ^ (p - 1) % (p : Int) = 1 := by
  have p2 := hp.1
  have hf : ∀ x ∈ resL p, ¬ (p : Int) ∣ x := fun x hx z => by
    have h := (resL_mem (by omega)).mp hx
    have := small_dvd z (by omega) h.2
    omega
  have nd : ((resL p).map fun x => a * x % (p : Int)).Nodup := by
    refine List.pairwise_map.mpr (List.Pairwise.imp_of_mem (fun {x y} hx hy ne e => ne ?_) (resL_nodup p))
    have h1 := (resL_mem (by omega)).mp hx
    have h2 := (resL_mem (by omega)).mp hy
    have d : (p : Int) ∣ a * (x - y) := by
      rw [Int.mul_sub]
      exact Int.dvd_of_emod_eq_zero (Int.emod_eq_emod_iff_emod_sub_eq_zero.mp e)
    rcases prime_mul hp d with z | z
    · exact absurd z ha
    · have := small_dvd z (by omega) (by omega)
      omega
  have sub : ∀ y ∈ (resL p).map fun x => a * x % (p : Int), y ∈ resL p := fun y hy => by
    obtain ⟨x, hx, rfl⟩ := List.mem_map.mp hy
    have h3 := Int.emod_nonneg (a * x) (by omega : (p : Int) ≠ 0)
    have h4 := Int.emod_lt_of_pos (a * x) (by omega : (0 : Int) < p)
    refine (resL_mem (by omega)).mpr ⟨?_, h4⟩
    by_cases z : a * x % (p : Int) = 0
    · rcases prime_mul hp (Int.dvd_of_emod_eq_zero z) with y | y
      · exact absurd y ha
      · exact absurd y (hf x hx)
    · omega
  have pm := perm_sub nd (resL_nodup p) sub (by rw [List.length_map]; exact Nat.le_refl _)
  have e := prL_mod a p (resL p)
  rw [prL_perm pm] at e
  have len : (resL p).length = p - 1 := by unfold resL; rw [List.length_map, List.length_range']
  rw [len] at e
  have d : (p : Int) ∣ (a ^ (p - 1) - 1) * prL (resL p) := by
    rw [Int.sub_mul, Int.one_mul]
    exact Int.dvd_of_emod_eq_zero (Int.emod_eq_emod_iff_emod_sub_eq_zero.mp e.symm)
  rcases prime_mul hp d with z | z
  · have h := Int.emod_eq_emod_iff_emod_sub_eq_zero.mpr (Int.emod_eq_zero_of_dvd z)
    rw [h]
    exact Int.emod_eq_of_lt (by omega) (by omega)
  · exact absurd z (prL_prime hp hf)
/-- a power by half of p - 1 leaves 1 or p - 1 -/
theorem half_two {p : Nat} (hp : PrP (p : Int)) (h3 : p ≠ 2) {a : Int} (ha : a % (p : Int) ≠ 0) : a ^ ((p - 1) / 2) % (p : Int) = 1 ∨ a ^ ((p - 1) / 2) % (p : Int) = p - 1 := by
  have p2 := hp.1
  have odd : p % 2 = 1 := by
    have h := hp.2 2 (by omega)
    by_cases z : p % 2 = 1
    · exact z
    · exact absurd (by omega) (h (by omega))
  have f := fermat hp (fun z => ha (Int.emod_eq_zero_of_dvd z))
  have e : p - 1 = (p - 1) / 2 + (p - 1) / 2 := by omega
  rw [e, Int.pow_add] at f
  generalize a ^ ((p - 1) / 2) = c at f ⊢
  have d : (p : Int) ∣ (c - 1) * (c + 1) := by
    have h : c * c % (p : Int) = 1 % (p : Int) := by rw [f, Int.emod_eq_of_lt (by omega) (by omega)]
    have g := Int.dvd_of_emod_eq_zero (Int.emod_eq_emod_iff_emod_sub_eq_zero.mp h)
    have ee : (c - 1) * (c + 1) = c * c - 1 := by grind
    rw [ee]
    exact g
  rcases prime_mul hp d with z | z
  · left
    have h := Int.emod_eq_emod_iff_emod_sub_eq_zero.mpr (Int.emod_eq_zero_of_dvd z)
    rw [h]
    exact Int.emod_eq_of_lt (by omega) (by omega)
  · right
    have h : c % (p : Int) = (-1) % (p : Int) := Int.emod_eq_emod_iff_emod_sub_eq_zero.mpr (Int.emod_eq_zero_of_dvd (by
      have ee : c - -1 = c + 1 := by omega
      rw [ee]
      exact z))
    have m1 : (-1 : Int) % (p : Int) = p - 1 := by
      have e1 : (-1 : Int) % (p : Int) = (-1 + p * 1) % (p : Int) := (Int.add_mul_emod_self_left ..).symm
      rw [e1, Int.emod_eq_of_lt (by omega) (by omega)]
      omega
    rw [h, m1]
/-- residue signs multiply, for every prime -/
theorem sign_all {p : Int} (hq : PrP p) (a b : Int) : restSign (a * b) p = restSign a p * restSign b p := by
  by_cases h2 : p = 2
  · rw [h2]
    exact sign_mul2 a b
  obtain ⟨n, rfl⟩ : ∃ n : Nat, p = n := ⟨p.toNat, by have := hq.1; omega⟩
  have p2 := hq.1
  have n2 : n ≠ 2 := fun z => h2 (by rw [z]; rfl)
  unfold restSign
  by_cases ha : a % (n : Int) = 0
  · have hab : a * b % (n : Int) = 0 := Int.emod_eq_zero_of_dvd (Int.dvd_mul_of_dvd_left (Int.dvd_of_emod_eq_zero ha))
    rw [if_pos ha, if_pos hab, Int.zero_mul]
  by_cases hb : b % (n : Int) = 0
  · have hab : a * b % (n : Int) = 0 := Int.emod_eq_zero_of_dvd (Int.dvd_mul_of_dvd_right (Int.dvd_of_emod_eq_zero hb))
    rw [if_pos hb, if_pos hab, Int.mul_zero]
  have hab : ¬ a * b % (n : Int) = 0 := fun z => by
    rcases prime_mul hq (Int.dvd_of_emod_eq_zero z) with y | y
    · exact ha (Int.emod_eq_zero_of_dvd y)
    · exact hb (Int.emod_eq_zero_of_dvd y)
  rw [if_neg ha, if_neg hb, if_neg hab, if_neg h2, if_neg h2, if_neg h2, half_cast n (by omega)]
  have e1 := half_two hq n2 ha
  have e2 := half_two hq n2 hb
  have pm : (a * b) ^ ((n - 1) / 2) % (n : Int) = ((a ^ ((n - 1) / 2) % (n : Int)) * (b ^ ((n - 1) / 2) % (n : Int))) % (n : Int) := by rw [Int.mul_pow, Int.mul_emod]
  have q1 : ((n : Int) - 1) * ((n : Int) - 1) % (n : Int) = 1 := by
    have : ((n : Int) - 1) * ((n : Int) - 1) = 1 + n * (n - 2) := by grind
    rw [this, Int.add_mul_emod_self_left]
    exact Int.emod_eq_of_lt (by omega) (by omega)
  have q2 : ((n : Int) - 1) % (n : Int) = n - 1 := Int.emod_eq_of_lt (by omega) (by omega)
  have q3 : (1 : Int) % (n : Int) = 1 := Int.emod_eq_of_lt (by omega) (by omega)
  have n1 : ¬ ((n : Int) - 1) = 1 := by omega
  rw [pm]
  rcases e1 with e1 | e1 <;> rcases e2 with e2 | e2 <;> rw [e1, e2]
  · rw [Int.one_mul, q3]; rfl
  · rw [Int.one_mul, q2, if_neg n1]; rfl
  · rw [Int.mul_one, q2, if_neg n1]; rfl
  · rw [q1, if_neg n1]; rfl
/-- the sign of a square that the prime doesn't divide -/
theorem sign_sq {p : Int} (hq : PrP p) {a : Int} (ha : a % p ≠ 0) : restSign (a * a) p = 1 := by
  rw [sign_all hq, rest_unit ha]
end Sf

namespace Sf
open PySem PySem.Spec PyProof.Rows L2
section
variable {X : Cx}
theorem gcd_args3 (a b c : Value) : argsOk "math.gcd" ⟨[a, b, c], []⟩ := by unfold argsOk; kernel_rfl
theorem gcd_run3 (a b c : Int) (ta tb tc : Tok) : Gives (Builtin.«math.gcd» ⟨[.int a ta, .int b tb, .int c tc], []⟩) (.int ((((Nat.gcd 0 a.natAbs).gcd b.natAbs).gcd c.natAbs : Nat) : Int)) :=
  .of_wp fun M A E s Q h => by
    obtain ⟨hp, g, d, tk, os⟩ := s
    wp_walk
    exact ⟨_, rfl, h⟩
/-- gcd of three integers -/
def rGcd3 : List V → Hp → VK → Prop := fun vs H Q => ∃ a b c : Int, vs = [.int a, .int b, .int c] ∧ Q (.int (((a.natAbs.gcd b.natAbs).gcd c.natAbs : Nat) : Int)) H
theorem cr_gcd3 : CallR X (.builtin "math.gcd") rGcd3 := by
  intro pins s σ H xs us Q I r h
  obtain ⟨a, b, c, rfl, q⟩ := h
  cases r with
  | cons r1 r => cases r with
    | cons r2 r => cases r with
      | cons r3 r =>
        cases r
        obtain ⟨t1, rfl⟩ := r1
        obtain ⟨t2, rfl⟩ := r2
        obtain ⟨t3, rfl⟩ := r3
        have g := gcd_run3 a b c t1 t2 t3
        rw [Nat.gcd_zero_left] at g
        exact call_function_meets PySem.W.MGF.kind_gcd PySem.W.MGF.plain_gcd PySem.W.MGF.entry_gcd (gcd_args3 _ _ _) g.meets ⟨.int _, H, I.tok _, ⟨_, rfl⟩, q⟩
/-- the root of an integer, rounded down -/
def rIsqrt : List V → Hp → VK → Prop := fun vs H Q => ∃ n : Nat, vs = [.int n] ∧ n < 2 ^ 60 ∧ Q (.int (PySem.Float64.isqrt n : Nat)) H
theorem cr_isqrt : CallR X (.builtin "math.isqrt") rIsqrt := by
  intro pins s σ H xs us Q I r h
  obtain ⟨n, rfl, hn, q⟩ := h
  cases r with
  | cons r1 r =>
    cases r
    obtain ⟨t1, rfl⟩ := r1
    have l60 : n.log2 < 60 := by
      by_cases z : n = 0
      · rw [z]; decide
      · exact (Nat.log2_lt z).mpr hn
    have g := PySem.W.mg_run_isqrt (n : Int) t1 (by omega) (by rw [Int.toNat_natCast]; omega) (by rw [Int.toNat_natCast]; omega)
    rw [Int.toNat_natCast] at g
    exact call_function_meets PySem.W.MGF.kind_isqrt PySem.W.MGF.plain_isqrt PySem.W.MGF.entry_isqrt (PySem.W.MGF.args_isqrt _) g.meets ⟨.int _, H, I.tok _, ⟨_, rfl⟩, q⟩
end
end Sf

namespace Sf
open PySem PySem.Spec PyProof.Rows L2
/-- whether what is left of a number is a square at a prime -/
def sqU (u p : Int) : Bool := if p = 2 then decide (u % 8 = 1) else decide (restSign u p = 1)
/-- whether a number is a square at a place -/
def SqAt (n p : Int) (r : Bool) : Prop := (p = 0 ∧ r = decide (0 < n)) ∨ (p ≠ 0 ∧ ∃ (m : Nat) (u : Int), Strip n p m u ∧ r = (decide (m % 2 = 0) && sqU u p))
theorem sqAt_uni {n p : Int} (hp : p = 0 ∨ PrP p) {r r' : Bool} (h : SqAt n p r) (h' : SqAt n p r') : r = r' := by
  rcases h with ⟨h1, h2⟩ | ⟨h1, m, u, h2, h3⟩
  · rcases h' with ⟨_, g2⟩ | ⟨g1, _⟩
    · rw [h2, g2]
    · exact absurd h1 g1
  · rcases h' with ⟨g1, _⟩ | ⟨_, m', u', g2, g3⟩
    · exact absurd g1 h1
    · obtain ⟨rfl, rfl⟩ := strip_unique (hp.resolve_left h1) h2 g2
      rw [h3, g3]
section
variable {P : Program} {w : World} {K : PySem.W.Frag} {mg : Str → Option Value} {base : Heap} {f : Addr} {fd : FuncData}
def spSqU : Sp := fun vs H Q _ => ∃ u p : Int, vs = [.int u, .int p] ∧ 2 ≤ p ∧ p.natAbs < 2 ^ 1000 ∧ ∀ H', Same H H' → Q (.bl (sqU u p)) H'
theorem ok_square_unit (F : FnD K "square_unit" "square_unit" s_P_square_unit f fd) (C_P_rest_sign : Cal P w K mg base 2 "rest_sign" ["number", "prime"] spRestSign) : FnOk P w K mg base CX0 3 f fd ["unit", "prime"] spSqU := by
  refine F.ok sc_P_square_unit (fun vs H Q E h => ?_) (fun cdv A outer s H vs Q E hr h => ?_)
  · obtain ⟨u, p, rfl, _⟩ := h; rfl
  · obtain ⟨u, p, rfl, hp, hb, q⟩ := h
    refine ⟨_, PSs.nox (pss_cons (ps_if (pt_cmp (pc_eqI (pv 1) pe_int)) (pss_one (ps_ret (pe_cmp (pc_eqI (pe_op op_mod (pv 0) pe_int) pe_int) rfl))) pss_nil)
      (pss_one (ps_ret (pe_cmp (pc_eqI (pe_cal C_P_rest_sign (hr.mono (by decide)) (pa_cons (pv 0) (pa_cons (pv 1) pa_nil))) pe_int) rfl)))), ?_⟩
    unfold sqU at q
    refine ⟨_, rfl, _, _, rfl, rfl, _, rfl, ifd (fun h => ?_) (fun h => ?_)⟩
    · rw [if_pos h] at q
      exact ⟨_, rfl, _, _, rfl, rfl, (by show (0 : Int) < 8; decide), _, _, rfl, rfl, q H (Same.refl H)⟩
    · rw [if_neg h] at q
      exact ⟨_, rfl, _, rfl, u, p, rfl, hp, hb, fun H1 e1 => ⟨_, _, rfl, rfl, q H1 e1⟩⟩
def spSqAt : Sp := fun vs H Q _ => ∃ n p : Int, vs = [.int n, .int p] ∧ n ≠ 0 ∧ n.natAbs ≤ 1000000000 ∧ (p = 0 ∨ (PrP p ∧ p ≤ 1000000000)) ∧ ∀ (r : Bool) (H' : Hp), SqAt n p r → Same H H' → Q (.bl r) H'
theorem ok_is_square_at (F : FnD K "is_square_at" "is_square_at" s_P_is_square_at f fd) (C_P_check_number : Cal P w K mg base 2 "check_number" ["value"] spCheckNumber) (C_P_check_place : Cal P w K mg base 3 "check_place" ["value"] spCheckPlace) (C_P_stripped : Cal P w K mg base 1 "stripped" ["number", "prime"] spStripped) (C_P_square_unit : Cal P w K mg base 3 "square_unit" ["unit", "prime"] spSqU) : FnOk P w K mg base CX0 4 f fd ["number", "place"] spSqAt := by
  refine F.ok sc_P_is_square_at (fun vs H Q E h => ?_) (fun cdv A outer s H vs Q E hr h => ?_)
  · obtain ⟨n, p, rfl, _⟩ := h; rfl
  · obtain ⟨n, p, rfl, n0, nb, hp, q⟩ := h
    refine ⟨_, PSs.nox (pss_cons (ps_expr (pe_cal C_P_check_number (hr.mono (by decide)) (pa_cons (pv 0) pa_nil)))
      (pss_cons (ps_expr (pe_cal C_P_check_place (hr.mono (by decide)) (pa_cons (pv 1) pa_nil)))
      (pss_cons (ps_if (pt_cmp (pc_eqI (pv 1) pe_int)) (pss_one (ps_ret (pe_cmp (pc_gt (pv 0) pe_int) rfl))) pss_nil)
      (pss_cons (ps_asg (pe_cal C_P_stripped (hr.mono (by decide)) (pa_cons (pv 0) (pa_cons (pv 1) pa_nil))) (pg_tup (by rfl) (pgs_cons (pg_name (i := 2) sc_P_is_square_at.nd rfl (Or.inl rfl)) (pgs_cons (pg_name (i := 3) sc_P_is_square_at.nd rfl (Or.inl rfl)) pgs_nil))))
      (pss_one (ps_ret (pe_and (pe_cmp (pc_eqI (pe_op op_mod (pv 2) pe_int) pe_int) rfl) (pe_one (pe_cal C_P_square_unit (hr.mono (by decide)) (pa_cons (pv 3) (pa_cons (pv 1) pa_nil))))))))))), ?_⟩
    have hp2 : p ≠ 0 → 2 ≤ p ∧ p.natAbs < 2 ^ 1000 := fun h => by
      rcases hp with h' | ⟨h1, h2⟩
      · exact absurd h' h
      · exact ⟨h1.1, Nat.lt_of_le_of_lt (by have := h1.1; omega : p.natAbs ≤ 1000000000) (by decide +kernel)⟩
    refine ⟨_, rfl, ⟨n, rfl, n0, by omega, by omega, ?_⟩⟩
    refine ⟨_, rfl, ⟨p, rfl, hp, ?_⟩⟩
    refine ⟨_, rfl, _, _, rfl, rfl, _, rfl, ifd (fun h => ?_) (fun h => ?_)⟩
    · exact ⟨_, rfl, _, _, rfl, rfl, q _ H (.inl ⟨h, rfl⟩) (Same.refl H)⟩
    · obtain ⟨g1, g2⟩ := hp2 h
      refine ⟨_, rfl, _, rfl, n, p, rfl, n0, g1, Nat.lt_trans g2 (by decide +kernel), fun m u a hS ha => ?_⟩
      refine ⟨a, _, rfl, .inl (.inl upd_same), rfl, _, _, rfl, _, _, rfl, rfl, ?_⟩
      have sa := same_upd (o := .tup [.int (m : Int), .int u]) ha
      have em : decide ((m : Int) % 2 = 0) = decide (m % 2 = 0) := by rw [decide_eq_decide]; omega
      refine ⟨_, rfl, _, _, rfl, rfl, (by show (0 : Int) < 2; decide), _, _, rfl, rfl, _, rfl, ?_⟩
      by_cases c : m % 2 = 0
      · refine (if_pos (by show decide ((m : Int) % 2 = 0) = true; rw [em]; exact decide_eq_true c)).mpr ?_
        refine ⟨_, rfl, _, rfl, u, p, rfl, g1, g2, fun H1 e1 => ?_⟩
        refine q _ H1 (.inr ⟨h, m, u, hS, ?_⟩) (sa.trans e1)
        rw [decide_eq_true c]
        rfl
      · refine (if_neg (by show ¬ decide ((m : Int) % 2 = 0) = true; rw [em, decide_eq_false c]; decide)).mpr ?_
        have z := q false _ (.inr ⟨h, m, u, hS, by rw [decide_eq_false c]; rfl⟩) sa
        rw [show (decide ((m : Int) % 2 = 0)) = false by rw [em]; exact decide_eq_false c] at *
        exact z
end
end Sf

namespace Sf
open PySem PySem.Spec PyProof.Rows L2
section
variable {P : Program} {w : World} {K : PySem.W.Frag} {mg : Str → Option Value} {base : Heap} {f : Addr} {fd : FuncData}
def spBare : Sp := fun vs H Q _ => ∃ n p : Int, vs = [.int n, .int p] ∧ n ≠ 0 ∧ 2 ≤ p ∧ p.natAbs < 2 ^ 3000 ∧
  ∀ (m : Nat) (u : Int) (a : Addr), Strip n p m u → H a = none → Q (.ref a) (upd H a (.tup [.int m, .int u]))
theorem ok_bare (F : FnD K "_law_bare" "_law_bare" s_L_bare f fd) (T : Glob mg) : FnOk P w K mg base CX0 1 f fd ["_law_number", "_law_prime"] spBare := by
  refine F.ok sc_L_bare (fun vs H Q E h => ?_) (fun cdv A outer s H vs Q E hr h => ?_)
  · obtain ⟨n, p, rfl, _⟩ := h; rfl
  · obtain ⟨n, p, rfl, hn, hp, hb, q⟩ := h
    refine ⟨_, PSs.nox (pss_cons (ps_set (i := 2) sc_L_bare.nd rfl (Or.inl rfl) pe_int)
      (pss_cons (ps_while PassesOwn.never (pt_cmp (pc_eqI (pe_op op_mod (pe_callTy call_int1 (by rfl) T.m_int (by decide +kernel) (pa_cons (pv 0) pa_nil)) (pv 1)) pe_int)) (pss_one (ps_par (i := 0) (j := 2) (by rfl) sc_L_bare.nd rfl rfl (by decide) rfl rfl (pa_cons (pe_op op_fdivW (pv 0) (pv 1)) (pa_cons (pe_op op_add (pv 2) pe_int) pa_nil)) (by rfl))))
      (pss_one (ps_ret (pe_tup (pa_cons (pv 2) (pa_cons (pv 0) pa_nil))))))), ?_⟩
    refine ⟨fun c σ H' => H' = H ∧ ∃ (m : Nat) (u : Int), σ = [some (.int u), some (.int p), some (.int m)] ∧ n = p ^ m * u ∧ u ≠ 0 ∧ c = u.natAbs, ⟨_, rfl, 0, n, rfl, by simp, hn, rfl⟩, ?_⟩
    rintro c σ _ ⟨rfl, m, u, rfl, e, hu, rfl⟩
    refine ⟨_, rfl, .inl ⟨_, rfl, _, rfl, _, _, rfl, rfl, (by omega), _, _, rfl, rfl, _, rfl, ifd (fun h => ⟨_, fun _ _ z => z, ?_⟩) (fun h => ?_)⟩⟩
    · have hl := strip_less hu hp h
      refine ⟨_, rfl, _, rfl, _, _, rfl, rfl, CDivW.of (by omega) hb, _, rfl, _, _, rfl, rfl, _, _, rfl, ?_⟩
      refine ⟨_, hl.1, rfl, m + 1, u / p, rfl, ?_, hl.2.1, rfl⟩
      rw [e, Int.pow_succ, Int.mul_assoc, ← hl.2.2]
    · refine ⟨_, rfl, _, rfl, (by show 2 ≤ sizeLine; decide), fun a ha => ?_⟩
      exact q m u a ⟨e, h⟩ ha
def spResidue : Sp := fun vs H Q _ => ∃ n p : Int, vs = [.int n, .int p] ∧ 3 ≤ p ∧ p.natAbs < 2 ^ 1000 ∧ Q (.int (restSign n p)) H
theorem ok_residue (F : FnD K "_law_residue" "_law_residue" s_L_residue f fd) (T : Glob mg) : FnOk P w K mg base CX0 1 f fd ["_law_number", "_law_prime"] spResidue := by
  refine F.ok sc_L_residue (fun vs H Q E h => ?_) (fun cdv A outer s H vs Q E hr h => ?_)
  · obtain ⟨n, p, rfl, _⟩ := h; rfl
  · obtain ⟨n, p, rfl, hp, hb, q⟩ := h
    have hm0 : (0 : Int) < p := by omega
    refine ⟨_, PSs.nox (pss_cons (ps_par3 (i := 2) (j := 3) (l := 4) (by rfl) sc_L_residue.nd rfl rfl rfl (by decide) (by decide) (by decide) rfl rfl rfl (pa_cons pe_int (pa_cons (pe_op op_mod (pe_callTy call_int1 (by rfl) T.m_int (by decide +kernel) (pa_cons (pv 0) pa_nil)) (pv 1)) (pa_cons (pe_op op_fdivW (pe_op op_sub (pv 1) pe_int) pe_int) pa_nil))) (by rfl))
      (pss_cons (ps_if (pt_cmp (pc_eqI (pv 3) pe_int)) (pss_one (ps_ret pe_int)) pss_nil)
      (pss_cons (ps_while PassesOwn.never (pt_cmp (pc_gt (pv 4) pe_int)) (pss_cons (ps_if (pt_cmp (pc_eqI (pe_op op_mod (pv 4) pe_int) pe_int)) (pss_one (ps_set (i := 2) sc_L_residue.nd rfl (Or.inl rfl) (pe_op op_mod (pe_callTy call_int1 (by rfl) T.m_int (by decide +kernel) (pa_cons (pe_op op_mulW (pv 2) (pv 3)) pa_nil)) (pv 1)))) pss_nil)
      (pss_one (ps_par (i := 3) (j := 4) (by rfl) sc_L_residue.nd rfl rfl (by decide) rfl rfl (pa_cons (pe_op op_mod (pe_callTy call_int1 (by rfl) T.m_int (by decide +kernel) (pa_cons (pe_op op_mulW (pv 3) (pv 3)) pa_nil)) (pv 1)) (pa_cons (pe_op op_fdivW (pv 4) pe_int) pa_nil)) (by rfl)))))
      (pss_one (ps_ret (pe_ifExp (pt_cmp (pc_eqI (pv 2) pe_int)) pe_int (pe_un un_neg pe_int))))))), ?_⟩
    refine ⟨_, rfl, .inl ⟨_, rfl, _, rfl, _, _, rfl, rfl, hm0, _, rfl, _, _, rfl, rfl, _, _, rfl, rfl, CDivW.of (by decide) (by decide +kernel), _, _, _, rfl, ?_⟩⟩
    refine ⟨_, rfl, _, _, rfl, rfl, _, rfl, ifd (fun h => ?_) (fun h => ?_)⟩
    · unfold restSign at q
      rw [if_pos h] at q
      exact q
    have hr : restSign n p = if n ^ ((p - 1) / 2).toNat % p = 1 then 1 else -1 := by
      unfold restSign
      rw [if_neg h, if_neg (by omega)]
    rw [hr] at q
    refine ⟨fun c σ H' => H = H' ∧ ∃ (k' made sq : Int), σ = [some (.int n), some (.int p), some (.int made), some (.int sq), some (.int k')] ∧ 0 ≤ k' ∧ c = k'.toNat ∧ (made * sq ^ k'.toNat) % p = n ^ ((p - 1) / 2).toNat % p ∧ made % p = made ∧ made.natAbs < 2 ^ 3000 ∧ sq.natAbs < 2 ^ 3000, ⟨_, rfl, (p - 1) / 2, 1, n % p, rfl, by omega, rfl, ?_, Int.emod_eq_of_lt (by decide) (by omega), by decide +kernel, mod_lt3000 (by omega) hb⟩, ?_⟩
    · rw [Int.one_mul]
      exact pow_mod _ _ _
    rintro c σ _ ⟨rfl, k', made, sq, rfl, hk', rfl, e, em, b1, b2⟩
    have sq2 : ∀ made' : Int, (made' * (sq * sq % p) ^ (k' / 2).toNat) % p = (made' * (sq * sq) ^ (k' / 2).toNat) % p := fun made' => by
      rw [Int.mul_emod, pow_mod, ← Int.mul_emod]
    refine ⟨_, rfl, _, _, rfl, rfl, _, rfl, ifd (fun h1 => ⟨fun σ' H' => ∃ m', m' < k'.toNat ∧ H = H' ∧ ∃ (k' made sq : Int), σ' = [some (.int n), some (.int p), some (.int made), some (.int sq), some (.int k')] ∧ 0 ≤ k' ∧ m' = k'.toNat ∧ (made * sq ^ k'.toNat) % p = n ^ ((p - 1) / 2).toNat % p ∧ made % p = made ∧ made.natAbs < 2 ^ 3000 ∧ sq.natAbs < 2 ^ 3000, fun _ _ z => z, ?_⟩) (fun h1 => ?_)⟩
    · have hh := pow_half sq k' h1
      refine ⟨_, rfl, _, _, rfl, rfl, (by show (0 : Int) < 2; decide), _, _, rfl, rfl, _, rfl, ifd (fun c2 => ?_) (fun c2 => ?_)⟩
      · refine ⟨_, rfl, _, rfl, _, _, rfl, rfl, CMulW.of b1 b2, .inl ⟨_, rfl, _, rfl, _, _, rfl, rfl, hm0, ?_⟩⟩
        refine ⟨_, rfl, _, rfl, _, _, rfl, rfl, CMulW.of b2 b2, .inl ⟨_, rfl, _, rfl, _, _, rfl, rfl, hm0, _, rfl, _, _, rfl, rfl, CDivW.of (by decide) (by decide +kernel), _, _, rfl, ?_⟩⟩
        refine ⟨_, (by omega : (k' / 2).toNat < k'.toNat), rfl, k' / 2, _, _, rfl, by omega, rfl, ?_, Int.emod_emod_of_dvd _ (Int.dvd_refl _), mod_lt3000 (by omega) hb, mod_lt3000 (by omega) hb⟩
        rw [sq2, ← e, hh, c2, Int.mul_emod, Int.emod_emod_of_dvd _ (Int.dvd_refl _), ← Int.mul_emod]
        congr 1
        simp
        grind
      · refine ⟨_, rfl, _, rfl, _, _, rfl, rfl, CMulW.of b2 b2, .inl ⟨_, rfl, _, rfl, _, _, rfl, rfl, hm0, _, rfl, _, _, rfl, rfl, CDivW.of (by decide) (by decide +kernel), _, _, rfl, ?_⟩⟩
        refine ⟨_, (by omega : (k' / 2).toNat < k'.toNat), rfl, k' / 2, _, _, rfl, by omega, rfl, ?_, em, b1, mod_lt3000 (by omega) hb⟩
        rw [sq2, ← e, hh, show k' % 2 = 0 by omega]
        simp
    · have z : k' = 0 := by omega
      subst z
      have em2 : made = n ^ ((p - 1) / 2).toNat % p := by
        rw [← e, ← em]
        simp
      rw [← em2] at q
      refine ⟨_, rfl, _, _, rfl, rfl, _, rfl, ifd (fun h2 => ?_) (fun h2 => ?_)⟩
      · rw [if_pos h2] at q
        exact q
      · rw [if_neg h2] at q
        exact ⟨_, rfl, q⟩
end
end Sf

namespace Sf
open PySem PySem.Spec PyProof.Rows L2
section
variable {P : Program} {w : World} {K : PySem.W.Frag} {mg : Str → Option Value} {base : Heap} {f : Addr} {fd : FuncData}
theorem ok_is_local_square (F : FnD K "_law_is_local_square" "_law_is_local_square" s_L_is_local_square f fd) (T : Glob mg) (C_L_bare : Cal P w K mg base 1 "_law_bare" ["_law_number", "_law_prime"] spBare) (C_L_residue : Cal P w K mg base 1 "_law_residue" ["_law_number", "_law_prime"] spResidue) : FnOk P w K mg base CX0 2 f fd ["_law_number", "_law_place"] spSqAt := by
  refine F.ok sc_L_is_local_square (fun vs H Q E h => ?_) (fun cdv A outer s H vs Q E hr h => ?_)
  · obtain ⟨n, p, rfl, _⟩ := h; rfl
  · obtain ⟨n, p, rfl, n0, nb, hp, q⟩ := h
    refine ⟨_, PSs.nox (pss_cons (ps_if (pt_cmp (pc_eqI (pv 1) pe_int)) (pss_one (ps_ret (pe_cmp (pc_gt (pv 0) pe_int) rfl))) pss_nil)
      (pss_cons (ps_asg (pe_cal C_L_bare (hr.mono (by decide)) (pa_cons (pv 0) (pa_cons (pv 1) pa_nil))) (pg_tup (by rfl) (pgs_cons (pg_name (i := 2) sc_L_is_local_square.nd rfl (Or.inl rfl)) (pgs_cons (pg_name (i := 3) sc_L_is_local_square.nd rfl (Or.inl rfl)) pgs_nil))))
      (pss_cons (ps_if (pt_cmp (pc_eqI (pe_op op_mod (pv 2) pe_int) pe_int)) (pss_one (ps_ret pe_bl)) pss_nil)
      (pss_one (ps_ret (pe_ifExp (pt_cmp (pc_eqI (pv 1) pe_int)) (pe_cmp (pc_eqI (pe_op op_mod (pe_callTy call_int1 (by rfl) T.m_int (by decide +kernel) (pa_cons (pv 3) pa_nil)) pe_int) pe_int) rfl) (pe_cmpR op_eq (pe_cal C_L_residue (hr.mono (by decide)) (pa_cons (pv 3) (pa_cons (pv 1) pa_nil))) pe_int (nomark _)))))))), ?_⟩
    refine ⟨_, rfl, _, _, rfl, rfl, _, rfl, ifd (fun h => ?_) (fun h => ?_)⟩
    · exact ⟨_, rfl, _, _, rfl, rfl, q _ H (.inl ⟨h, rfl⟩) (Same.refl H)⟩
    · obtain ⟨hP, hp9⟩ := hp.resolve_left h
      have p2 := hP.1
      have pb : p.natAbs < 2 ^ 1000 := Nat.lt_of_le_of_lt (by omega : p.natAbs ≤ 1000000000) (by decide +kernel)
      refine ⟨_, rfl, _, rfl, n, p, rfl, n0, p2, Nat.lt_trans pb (by decide +kernel), fun m u a hS ha => ?_⟩
      refine ⟨a, _, rfl, .inl (.inl upd_same), rfl, _, _, rfl, _, _, rfl, rfl, ?_⟩
      have sa := same_upd (o := .tup [.int (m : Int), .int u]) ha
      have z := fun r e => q r _ (.inr ⟨h, m, u, hS, e⟩) sa
      refine ⟨_, rfl, _, _, rfl, rfl, (by show (0 : Int) < 2; decide), _, _, rfl, rfl, _, rfl, ifd (fun c => ?_) (fun c => ?_)⟩
      · exact z false (by rw [decide_eq_false (by omega)]; rfl)
      · have em : decide (m % 2 = 0) = true := decide_eq_true (by omega)
        refine ⟨_, rfl, _, _, rfl, rfl, _, rfl, ifd (fun h2 => ?_) (fun h2 => ?_)⟩
        · refine ⟨_, rfl, .inl ⟨_, rfl, _, _, rfl, rfl, (by show (0 : Int) < 8; decide), _, _, rfl, rfl, ?_⟩⟩
          refine z _ ?_
          rw [em]
          unfold sqU
          rw [if_pos h2]
          rfl
        · refine ⟨_, rfl, _, rfl, u, p, rfl, by omega, pb, ?_⟩
          refine ⟨rfl, ?_⟩
          refine z _ ?_
          rw [em]
          unfold sqU
          rw [if_neg h2, Bool.true_and, decide_eq_decide]
          exact ⟨fun e => V.int.inj e, fun e => congrArg V.int e⟩
end
end Sf

namespace Sf
open PySem PySem.Spec PyProof.Rows L2
/-- the sign by the rests: at 2 by the units modulo 8, else by one power -/
theorem sgn2_rest {s t : Nat} {u v : Int} (hu : u % 2 = 1) (hv : v % 2 = 1) : sgnAt 2 s t u v = if (u % 8 / 2 * (v % 8 / 2) + s * (if v % 8 = 3 ∨ v % 8 = 5 then 1 else 0) + t * (if u % 8 = 3 ∨ u % 8 = 5 then 1 else 0)) % 2 = 0 then 1 else -1 := by
  rw [sgn2]
  unfold par2
  have h1 := par_mul ((u - 1) / 2) ((v - 1) / 2) (u % 8 / 2) (v % 8 / 2) (by omega) (by omega)
  have sq : ∀ {w : Int}, w % 2 = 1 → ((w * w - 1) / 8) % 2 = (if w % 8 = 3 ∨ w % 8 = 5 then (1 : Int) else 0) % 2 := fun {w} h => by
    have e : w = 8 * (w / 8) + w % 8 := by omega
    have c : w % 8 = 1 ∨ w % 8 = 3 ∨ w % 8 = 5 ∨ w % 8 = 7 := by omega
    generalize w / 8 = k at e
    rcases c with c | c | c | c <;> rw [c] at e ⊢
    · have : w * w = 16 * (4 * (k * k) + k) + 1 := by rw [e]; grind
      have e2 : (w * w - 1) / 8 = 2 * (4 * (k * k) + k) := by omega
      rw [e2, if_neg (by decide)]
      omega
    · have : w * w = 16 * (4 * (k * k) + 3 * k) + 9 := by rw [e]; grind
      have e2 : (w * w - 1) / 8 = 2 * (4 * (k * k) + 3 * k) + 1 := by omega
      rw [e2, if_pos (by decide)]
      omega
    · have : w * w = 16 * (4 * (k * k) + 5 * k + 1) + 9 := by rw [e]; grind
      have e2 : (w * w - 1) / 8 = 2 * (4 * (k * k) + 5 * k + 1) + 1 := by omega
      rw [e2, if_pos (by decide)]
      omega
    · have : w * w = 16 * (4 * (k * k) + 7 * k + 3) + 1 := by rw [e]; grind
      have e2 : (w * w - 1) / 8 = 2 * (4 * (k * k) + 7 * k + 3) := by omega
      rw [e2, if_neg (by decide)]
      omega
  have h2 := par_mul (s : Int) ((v * v - 1) / 8) (s : Int) (if v % 8 = 3 ∨ v % 8 = 5 then 1 else 0) rfl (sq hv)
  have h3 := par_mul (t : Int) ((u * u - 1) / 8) (t : Int) (if u % 8 = 3 ∨ u % 8 = 5 then 1 else 0) rfl (sq hu)
  by_cases c : ((u - 1) / 2 * ((v - 1) / 2) + s * ((v * v - 1) / 8) + t * ((u * u - 1) / 8)) % 2 = 1
  · rw [if_pos c, if_neg (by omega)]
  · rw [if_neg c, if_pos (by omega)]
theorem sgn2_law {s t : Nat} {u v : Int} (hu : u % 2 = 1) (hv : v % 2 = 1) : sgnAt 2 s t u v = if ((if u % 4 = 3 ∧ v % 4 = 3 then 1 else 0) + s * (if v % 8 = 3 ∨ v % 8 = 5 then 1 else 0) + t * (if u % 8 = 3 ∨ u % 8 = 5 then 1 else 0) : Int) % 2 = 0 then 1 else -1 := by
  rw [sgn2_rest hu hv]
  have e : (u % 8 / 2 * (v % 8 / 2)) % 2 = (if u % 4 = 3 ∧ v % 4 = 3 then (1 : Int) else 0) % 2 := by
    have c1 : u % 8 = 1 ∨ u % 8 = 3 ∨ u % 8 = 5 ∨ u % 8 = 7 := by omega
    have c2 : v % 8 = 1 ∨ v % 8 = 3 ∨ v % 8 = 5 ∨ v % 8 = 7 := by omega
    have f1 : u % 4 = u % 8 % 4 := by omega
    have f2 : v % 4 = v % 8 % 4 := by omega
    rw [f1, f2]
    rcases c1 with c1 | c1 | c1 | c1 <;> rcases c2 with c2 | c2 | c2 | c2 <;> rw [c1, c2] <;> decide
  generalize (s : Int) * (if v % 8 = 3 ∨ v % 8 = 5 then 1 else 0) = x
  generalize (t : Int) * (if u % 8 = 3 ∨ u % 8 = 5 then 1 else 0) = y
  generalize u % 8 / 2 * (v % 8 / 2) = z at e ⊢
  generalize (if u % 4 = 3 ∧ v % 4 = 3 then (1 : Int) else 0) = w at e ⊢
  by_cases c : (z + x + y) % 2 = 0
  · rw [if_pos c, if_pos (by omega)]
  · rw [if_neg c, if_neg (by omega)]
section
variable {P : Program} {w : World} {K : PySem.W.Frag} {mg : Str → Option Value} {base : Heap} {f : Addr} {fd : FuncData}
def spLSign : Sp := fun vs H Q _ => ∃ a b p : Int, vs = [.int a, .int b, .int p] ∧ a ≠ 0 ∧ b ≠ 0 ∧ a.natAbs ≤ 1000000000 ∧ b.natAbs ≤ 1000000000 ∧ (p = 0 ∨ (PrP p ∧ p ≤ 1000000000)) ∧ ∀ (r : Int) (H' : Hp), HSign a b p r → Same H H' → Q (.int r) H'
set_option maxHeartbeats 8000000 in
theorem ok_lsign (F : FnD K "_law_sign" "_law_sign" s_L_sign f fd) (T : Glob mg) (C_L_bare : Cal P w K mg base 1 "_law_bare" ["_law_number", "_law_prime"] spBare) (C_L_residue : Cal P w K mg base 1 "_law_residue" ["_law_number", "_law_prime"] spResidue) : FnOk P w K mg base CX0 2 f fd ["_law_a", "_law_b", "_law_place"] spLSign := by
  refine F.ok sc_L_sign (fun vs H Q E h => ?_) (fun cdv A outer s H vs Q E hr h => ?_)
  · obtain ⟨a, b, p, rfl, _⟩ := h; rfl
  · obtain ⟨a, b, p, rfl, a0, b0, ab, bb, hp, q⟩ := h
    refine ⟨_, PSs.nox (pss_cons (ps_if (pt_cmp (pc_eqI (pv 2) pe_int)) (pss_one (ps_ret (pe_ifExp (PW.pt (pw_and (pt_cmp (pc_lt (pv 0) pe_int)) (pw_and1 (pt_cmp (pc_lt (pv 1) pe_int))))) (pe_un un_neg pe_int) pe_int))) pss_nil)
      (pss_cons (ps_asg (pe_cal C_L_bare (hr.mono (by decide)) (pa_cons (pv 0) (pa_cons (pv 2) pa_nil))) (pg_tup (by rfl) (pgs_cons (pg_name (i := 3) sc_L_sign.nd rfl (Or.inl rfl)) (pgs_cons (pg_name (i := 4) sc_L_sign.nd rfl (Or.inl rfl)) pgs_nil))))
      (pss_cons (ps_asg (pe_cal C_L_bare (hr.mono (by decide)) (pa_cons (pv 1) (pa_cons (pv 2) pa_nil))) (pg_tup (by rfl) (pgs_cons (pg_name (i := 5) sc_L_sign.nd rfl (Or.inl rfl)) (pgs_cons (pg_name (i := 6) sc_L_sign.nd rfl (Or.inl rfl)) pgs_nil))))
      (pss_cons (ps_if (pt_cmp (pc_eqI (pv 2) pe_int)) (pss_cons (ps_set (i := 7) sc_L_sign.nd rfl (Or.inl rfl) (pe_cut (pe_and (pe_cmp (pc_eqI (pe_op op_mod (pe_callTy call_int1 (by rfl) T.m_int (by decide +kernel) (pa_cons (pv 4) pa_nil)) pe_int) pe_int) rfl) (pe_one (pe_cmp (pc_eqI (pe_op op_mod (pe_callTy call_int1 (by rfl) T.m_int (by decide +kernel) (pa_cons (pv 6) pa_nil)) pe_int) pe_int) rfl)))))
      (pss_cons (ps_set (i := 8) sc_L_sign.nd rfl (Or.inl rfl) (pe_op op_add (pe_op op_add (pe_callTy call_int1 (by rfl) T.m_int (by decide +kernel) (pa_cons (pv 7) pa_nil)) (pe_op op_mulW (pv 3) (pe_callTy call_int1 (by rfl) T.m_int (by decide +kernel) (pa_cons (pe_cmpR op_in_seq (pe_op op_mod (pe_callTy call_int1 (by rfl) T.m_int (by decide +kernel) (pa_cons (pv 6) pa_nil)) pe_int) (pe_tup (pa_cons pe_int (pa_cons pe_int pa_nil))) (by rfl)) pa_nil)))) (pe_op op_mulW (pv 5) (pe_callTy call_int1 (by rfl) T.m_int (by decide +kernel) (pa_cons (pe_cmpR op_in_seq (pe_op op_mod (pe_callTy call_int1 (by rfl) T.m_int (by decide +kernel) (pa_cons (pv 4) pa_nil)) pe_int) (pe_tup (pa_cons pe_int (pa_cons pe_int pa_nil))) (by rfl)) pa_nil)))))
      (pss_one (ps_ret (pe_ifExp (pt_cmp (pc_eqI (pe_op op_mod (pe_callTy call_int1 (by rfl) T.m_int (by decide +kernel) (pa_cons (pv 8) pa_nil)) pe_int) pe_int)) pe_int (pe_un un_neg pe_int)))))) pss_nil)
      (pss_cons (ps_set (i := 9) sc_L_sign.nd rfl (Or.inl rfl) (pe_cut (pe_ifExp (pt_cmp (pc_eqI (pe_op op_mod (pe_callTy call_int1 (by rfl) T.m_int (by decide +kernel) (pa_cons (pe_op op_mulW (pv 3) (pv 5)) pa_nil)) pe_int) pe_int)) (pe_cal C_L_residue (hr.mono (by decide)) (pa_cons (pe_un un_neg pe_int) (pa_cons (pv 2) pa_nil))) pe_int)))
      (pss_cons (ps_set (i := 9) sc_L_sign.nd rfl (Or.inl rfl) (pe_op op_mulW (pv 9) (pe_cut (pe_ifExp (pt_cmp (pc_eqI (pe_op op_mod (pv 5) pe_int) pe_int)) (pe_cal C_L_residue (hr.mono (by decide)) (pa_cons (pv 4) (pa_cons (pv 2) pa_nil))) pe_int))))
      (pss_one (ps_ret (pe_op op_mulW (pv 9) (pe_cut (pe_ifExp (pt_cmp (pc_eqI (pe_op op_mod (pv 3) pe_int) pe_int)) (pe_cal C_L_residue (hr.mono (by decide)) (pa_cons (pv 6) (pa_cons (pv 2) pa_nil))) pe_int))))))))))), ?_⟩
    refine ⟨_, rfl, _, _, rfl, rfl, _, rfl, ifd (fun h => ?_) (fun h => ?_)⟩
    · have z := q _ H (.inl ⟨h, rfl⟩) (Same.refl H)
      refine ⟨_, rfl, _, _, rfl, rfl, _, rfl, ifd (fun h1 => ?_) (fun h1 => ?_)⟩
      · refine ⟨_, rfl, _, _, rfl, rfl, _, rfl, ifd (fun h2 => ?_) (fun h2 => ?_)⟩
        · rw [if_pos ⟨h1, h2⟩] at z
          exact ⟨_, rfl, z⟩
        · rw [if_neg (fun k => h2 k.2)] at z
          exact z
      · rw [if_neg (fun k => h1 k.1)] at z
        exact (if_neg (by decide)).mpr z
    · obtain ⟨hP, hp9⟩ := hp.resolve_left h
      have p2 := hP.1
      have pb : p.natAbs < 2 ^ 1000 := Nat.lt_of_le_of_lt (by omega : p.natAbs ≤ 1000000000) (by decide +kernel)
      have pb3 : p.natAbs < 2 ^ 3000 := Nat.lt_trans pb (by decide +kernel)
      refine ⟨_, rfl, _, rfl, a, p, rfl, a0, p2, pb3, fun m u x1 hS ha => ?_⟩
      refine ⟨x1, _, rfl, .inl (.inl upd_same), rfl, _, _, rfl, _, _, rfl, rfl, ?_⟩
      have e1 := same_upd (o := .tup [.int (m : Int), .int u]) ha
      generalize upd H x1 _ = H1 at e1 ⊢
      refine ⟨_, rfl, _, rfl, b, p, rfl, b0, p2, pb3, fun n v x2 hS2 hb => ?_⟩
      refine ⟨x2, _, rfl, .inl (.inl upd_same), rfl, _, _, rfl, _, _, rfl, rfl, ?_⟩
      have e2 := e1.trans (same_upd (o := .tup [.int (n : Int), .int v]) hb)
      generalize upd H1 x2 _ = H2 at e2 ⊢
      have z0 : ∀ J, Same H2 J → Q (.int (sgnAt p m n u v)) J := fun J e => q _ J (.inr ⟨h, m, n, u, v, hS, hS2, rfl⟩) (e2.trans e)
      have z := z0 H2 (Same.refl _)
      obtain ⟨s1, s2⟩ := strip_le p2 hS
      obtain ⟨s3, s4⟩ := strip_le p2 hS2
      clear q e1 e2 ha hb
      have wm : (m : Int).natAbs < 2 ^ 3000 := lt3000s (by omega) (by omega)
      have wn : (n : Int).natAbs < 2 ^ 3000 := lt3000s (by omega) (by omega)
      have r1 := rest_small (-1) p
      have r2 := rest_small u p
      have r3 := rest_small v p
      refine ⟨_, rfl, _, _, rfl, rfl, _, rfl, ifd (fun h2 => ?_) (fun h2 => ?_)⟩
      · subst h2
        have hu : u % 2 = 1 := by
          have := hS.2
          omega
        have hv : v % 2 = 1 := by
          have := hS2.2
          omega
        rw [sgn2_law hu hv] at z0
        clear z
        refine ⟨fun x H' => x = .bl (decide (u % 4 = 3 ∧ v % 4 = 3)) ∧ H2 = H', ?_, fun x H' hx => ?_⟩
        · refine ⟨_, rfl, .inl ⟨_, rfl, _, _, rfl, rfl, (by show (0 : Int) < 4; decide), _, _, rfl, rfl, _, rfl, ifd (fun c => ?_) (fun c => ?_)⟩⟩
          · refine ⟨_, rfl, .inl ⟨_, rfl, _, _, rfl, rfl, (by show (0 : Int) < 4; decide), _, _, rfl, rfl, ?_, rfl⟩⟩
            refine congrArg V.bl ?_
            show decide (v % 4 = 3) = _
            rw [decide_eq_decide]
            exact ⟨fun k => ⟨c, k⟩, fun k => k.2⟩
          · refine ⟨?_, rfl⟩
            refine congrArg V.bl ?_
            rw [decide_eq_false (fun k => c k.1)]
        obtain ⟨rfl, rfl⟩ := hx
        refine ⟨_, rfl, .inr ⟨_, rfl, ?_⟩⟩
        refine ⟨_, rfl, _, rfl, .inl ⟨_, rfl, _, _, rfl, rfl, (by show (0 : Int) < 8; decide), (by show 2 ≤ sizeLine; decide), fun y1 hy1 => ?_⟩⟩
        refine ⟨y1, _, rfl, .inr (.inl (.inl upd_same)), rfl, rfl, ?_⟩
        have wb : ∀ k : Prop, [Decidable k] → ((if k then (1 : Int) else 0)).natAbs < 2 ^ 3000 := fun k _ => lt3000s (by split <;> decide) (by split <;> decide)
        have ebl : ∀ (x : Int), (if inV (.int x) [.int 3, .int 5] = true then (1 : Int) else 0) = if x = 3 ∨ x = 5 then 1 else 0 := fun x => by
          rw [inV_two]
          by_cases c : x = 3 ∨ x = 5
          · rw [if_pos c, if_pos (decide_eq_true c)]
          · rw [if_neg c, if_neg (by rw [decide_eq_false c]; decide)]
        refine .inr ⟨_, rfl, _, _, rfl, rfl, CMulW.of wm ?_, _, _, rfl, rfl, ?_⟩
        · show (if inV (.int (v % 8)) [.int 3, .int 5] = true then (1 : Int) else 0).natAbs < _
          rw [ebl]
          exact wb _
        refine ⟨_, rfl, _, rfl, .inl ⟨_, rfl, _, _, rfl, rfl, (by show (0 : Int) < 8; decide), (by show 2 ≤ sizeLine; decide), fun y2 hy2 => ?_⟩⟩
        refine ⟨y2, _, rfl, .inr (.inl (.inl upd_same)), rfl, rfl, ?_⟩
        refine .inr ⟨_, rfl, _, _, rfl, rfl, CMulW.of wn ?_, _, _, rfl, rfl, ?_⟩
        · show (if inV (.int (u % 8)) [.int 3, .int 5] = true then (1 : Int) else 0).natAbs < _
          rw [ebl]
          exact wb _
        replace z0 := z0 _ ((same_upd (o := .tup [.int 3, .int 5]) hy1).trans (same_upd (o := .tup [.int 3, .int 5]) hy2))
        have eM : ((if decide (u % 4 = 3 ∧ v % 4 = 3) = true then (1 : Int) else 0) + (m : Int) * (if inV (.int (v % 8)) [.int 3, .int 5] = true then (1 : Int) else 0) + (n : Int) * (if inV (.int (u % 8)) [.int 3, .int 5] = true then (1 : Int) else 0)) = ((if u % 4 = 3 ∧ v % 4 = 3 then 1 else 0) + (m : Int) * (if v % 8 = 3 ∨ v % 8 = 5 then 1 else 0) + (n : Int) * (if u % 8 = 3 ∨ u % 8 = 5 then 1 else 0)) := by
          rw [ebl, ebl]
          congr 2
          by_cases c : u % 4 = 3 ∧ v % 4 = 3
          · rw [if_pos c, if_pos (decide_eq_true c)]
          · rw [if_neg c, if_neg (by rw [decide_eq_false c]; decide)]
        refine ⟨_, rfl, .inl ⟨_, rfl, _, _, rfl, rfl, (by show (0 : Int) < 2; decide), _, _, rfl, rfl, _, rfl, ifd (fun c => ?_) (fun c => ?_)⟩⟩
        · replace c : (((if decide (u % 4 = 3 ∧ v % 4 = 3) = true then (1 : Int) else 0) + (m : Int) * (if inV (.int (v % 8)) [.int 3, .int 5] = true then (1 : Int) else 0) + (n : Int) * (if inV (.int (u % 8)) [.int 3, .int 5] = true then (1 : Int) else 0))) % 2 = 0 := c
          rw [eM] at c
          rw [if_pos c] at z0
          exact z0
        · replace c : ¬ (((if decide (u % 4 = 3 ∧ v % 4 = 3) = true then (1 : Int) else 0) + (m : Int) * (if inV (.int (v % 8)) [.int 3, .int 5] = true then (1 : Int) else 0) + (n : Int) * (if inV (.int (u % 8)) [.int 3, .int 5] = true then (1 : Int) else 0))) % 2 = 0 := c
          rw [eM] at c
          rw [if_neg c] at z0
          exact ⟨_, rfl, z0⟩
      · have F1 : (if m * n % 2 = 1 then restSign (-1) p else 1).natAbs ≤ 1 := by split <;> omega
        have F2 : (if n % 2 = 1 then restSign u p else 1).natAbs ≤ 1 := by split <;> omega
        have F3 : (if m % 2 = 1 then restSign v p else 1).natAbs ≤ 1 := by split <;> omega
        have emn : (m : Int) * n = ((m * n : Nat) : Int) := (Int.natCast_mul _ _).symm
        have eS : sgnAt p m n u v = (if m * n % 2 = 1 then restSign (-1) p else 1) * (if n % 2 = 1 then restSign u p else 1) * (if m % 2 = 1 then restSign v p else 1) := by
          unfold sgnAt
          rw [if_neg h2]
        rw [eS] at z
        refine ⟨fun x H' => x = .int (if m * n % 2 = 1 then restSign (-1) p else 1) ∧ H2 = H', ?_, fun x H' hx => ?_⟩
        · refine ⟨_, rfl, _, rfl, _, _, rfl, rfl, CMulW.of wm wn, .inl ⟨_, rfl, _, _, rfl, rfl, (by show (0 : Int) < 2; decide), _, _, rfl, rfl, _, rfl, ifd (fun c => ?_) (fun c => ?_)⟩⟩
          · refine ⟨_, rfl, _, rfl, -1, p, rfl, by omega, pb, ?_, rfl⟩
            rw [if_pos (by rw [emn] at c; omega)]
          · refine ⟨?_, rfl⟩
            rw [if_neg (by rw [emn] at c; omega)]
        obtain ⟨rfl, rfl⟩ := hx
        generalize (if m * n % 2 = 1 then restSign (-1) p else 1) = f1 at F1 z ⊢
        refine ⟨_, rfl, fun x H' => x = .int (if n % 2 = 1 then restSign u p else 1) ∧ H2 = H', ?_, fun x H' hx => ?_⟩
        · refine ⟨_, rfl, _, _, rfl, rfl, (by show (0 : Int) < 2; decide), _, _, rfl, rfl, _, rfl, ifd (fun c => ?_) (fun c => ?_)⟩
          · refine ⟨_, rfl, _, rfl, u, p, rfl, by omega, pb, ?_, rfl⟩
            rw [if_pos (by omega)]
          · refine ⟨?_, rfl⟩
            rw [if_neg (by omega)]
        obtain ⟨rfl, rfl⟩ := hx
        generalize (if n % 2 = 1 then restSign u p else 1) = f2 at F2 z ⊢
        have F12 : (f1 * f2).natAbs ≤ 1 := by
          rw [Int.natAbs_mul]
          exact Nat.mul_le_mul F1 F2
        refine ⟨_, _, rfl, rfl, CMulW.of (lt3000s (by omega) (by omega)) (lt3000s (by omega) (by omega)), ?_⟩
        refine ⟨_, rfl, fun x H' => x = .int (if m % 2 = 1 then restSign v p else 1) ∧ H2 = H', ?_, fun x H' hx => ?_⟩
        · refine ⟨_, rfl, _, _, rfl, rfl, (by show (0 : Int) < 2; decide), _, _, rfl, rfl, _, rfl, ifd (fun c => ?_) (fun c => ?_)⟩
          · refine ⟨_, rfl, _, rfl, v, p, rfl, by omega, pb, ?_, rfl⟩
            rw [if_pos (by omega)]
          · refine ⟨?_, rfl⟩
            rw [if_neg (by omega)]
        obtain ⟨rfl, rfl⟩ := hx
        exact ⟨_, _, rfl, rfl, CMulW.of (lt3000s (by omega) (by omega)) (lt3000s (by omega) (by omega)), z⟩
end
end Sf

namespace Sf
open PySem PySem.Spec PyProof.Rows L2
open Classical in
/-- whether a number is a square at a place, as a truth value -/
noncomputable def sqB (n p : Int) : Bool := decide (SqAt n p true)
open Classical in
theorem sqB_is {n p : Int} (hp : p = 0 ∨ PrP p) {r : Bool} (h : SqAt n p r) : r = sqB n p := by
  unfold sqB
  cases r with
  | true => exact (decide_eq_true h).symm
  | false => exact (decide_eq_false fun z => Bool.noConfusion (sqAt_uni hp h z)).symm
/-- the places at which a number is a square -/
noncomputable def sqL (n : Int) (l : List Int) : List Int := l.filter (sqB n)
theorem sqL_step {n : Int} {l : List Int} {i : Nat} {p : Int} (h : l[i]? = some p) : sqL n (l.take (i + 1)) = sqL n (l.take i) ++ cond (sqB n p) [p] [] := by
  unfold sqL
  rw [List.take_add_one, h, List.filter_append]
  cases e : sqB n p <;> simp [e]
theorem sqL_len (n : Int) (l : List Int) : (sqL n l).length ≤ l.length := List.length_filter_le _ _
/-- the places of small numbers are small -/
theorem place_le4 {a b p : Int} {l : List Int} (h : PlacesOf a b l) (a0 : a ≠ 0) (b0 : b ≠ 0) (a1 : a.natAbs ≤ 10000) (b1 : b.natAbs ≤ 10000) (hp : p ∈ l) : 0 ≤ p ∧ p ≤ 10000 := by
  obtain ⟨g, n⟩ := (h.2 p).mp hp
  rcases g with e | g
  · omega
  · refine ⟨by have := g.1; omega, ?_⟩
    by_cases c : p = 2
    · omega
    · have dv : ∀ {n : Int}, n ≠ 0 → n % p = 0 → p ≤ n.natAbs := fun {n} n0 d => by
        obtain ⟨k, hk⟩ := Int.dvd_of_emod_eq_zero d
        have k0 : k ≠ 0 := fun z => n0 (by rw [hk, z, Int.mul_zero])
        have p2 := g.1
        have e : n.natAbs = p.natAbs * k.natAbs := by rw [hk]; exact Int.natAbs_mul _ _
        have : p.natAbs * 1 ≤ p.natAbs * k.natAbs := Nat.mul_le_mul_left _ (by omega)
        omega
      by_cases ca : a % p = 0
      · have := dv a0 ca
        omega
      · by_cases cb : b % p = 0
        · have := dv b0 cb
          omega
        · exact absurd (sign_far g c ca cb n) (by decide)
theorem asc_few : ∀ {l : List Int} {lo hi : Int}, l.Pairwise (· < ·) → (∀ x ∈ l, lo ≤ x ∧ x ≤ hi) → (l.length : Int) ≤ max 0 (hi - lo + 1)
  | [], _, _, _, _ => by
    show ((0 : Nat) : Int) ≤ _
    omega
  | x :: l, lo, hi, h, g => by
    have hx := g x (by simp)
    have ih := asc_few (l := l) (lo := x + 1) (hi := hi) (List.Pairwise.of_cons h) fun y hy => ⟨by have := List.rel_of_pairwise_cons h hy; omega, (g y (List.mem_cons_of_mem _ hy)).2⟩
    rw [List.length_cons]
    push_cast
    omega
theorem places_few {a b : Int} {l : List Int} (h : PlacesOf a b l) (a0 : a ≠ 0) (b0 : b ≠ 0) (a1 : a.natAbs ≤ 10000) (b1 : b.natAbs ≤ 10000) : l.length ≤ 10001 := by
  have := asc_few (lo := 0) (hi := 10000) h.1 fun x hx => place_le4 h a0 b0 a1 b1 hx
  omega
section
variable {P : Program} {w : World} {K : PySem.W.Frag} {mg : Str → Option Value} {base : Heap} {f : Addr} {fd : FuncData} {CR CA CF : Addr}
/-- an integer that is no square, of a size of at most 10000 -/
def NoSq (n : Int) : Prop := n ≠ 0 ∧ n.natAbs ≤ 10000 ∧ ∀ k : Nat, n ≠ (k : Int) * k
def spIsSq : Sp := fun vs H Q _ => ∃ n : Int, vs = [.int n] ∧ NoSq n ∧ Q (.bl false) H
theorem ok_is_square (F : FnD K "is_square" "is_square" s_P_is_square f fd) (T : Glob mg) : FnOk P w K mg base CX0 1 f fd ["number"] spIsSq := by
  refine F.ok sc_P_is_square (fun vs H Q E h => ?_) (fun cdv A outer s H vs Q E hr h => ?_)
  · obtain ⟨n, rfl, _⟩ := h; rfl
  · obtain ⟨n, rfl, ⟨n0, n1, hn⟩, q⟩ := h
    refine ⟨_, PSs.nox (pss_one (ps_ret (pe_and (pe_cmp (pc_ge (pv 0) pe_int) rfl) (pe_one (pe_cmp (pc_eqI (pe_op op_mulW (pe_callGB cr_isqrt (by rfl) T.m_isqrt (pa_cons (pv 0) pa_nil)) (pe_callGB cr_isqrt (by rfl) T.m_isqrt (pa_cons (pv 0) pa_nil))) (pv 0)) rfl))))), ?_⟩
    refine ⟨_, rfl, _, _, rfl, rfl, _, rfl, ifd (fun h => ?_) (fun h => q)⟩
    have hN : n = ((n.toNat : Nat) : Int) := by omega
    have h1 : PySem.Float64.isqrt n.toNat * PySem.Float64.isqrt n.toNat ≠ n.toNat := fun z => hn (PySem.Float64.isqrt n.toNat) (by
      have := congrArg (fun x : Nat => (x : Int)) z
      rw [Int.natCast_mul] at this
      omega)
    have sp := (PySem.Float64.isqrt_spec n.toNat).1
    have i1 : PySem.Float64.isqrt n.toNat ≤ 10000 := by
      rcases Nat.lt_or_ge 10000 (PySem.Float64.isqrt n.toNat) with z | z
      · have := Nat.mul_le_mul z z
        omega
      · exact z
    have w1 : ((PySem.Float64.isqrt n.toNat : Nat) : Int).natAbs < 2 ^ 3000 := lt3000s (by omega) (by omega)
    refine ⟨_, rfl, n.toNat, congrArg (fun z : Int => [V.int z]) hN, Nat.lt_of_le_of_lt (by omega : n.toNat ≤ 10000) (by decide), ?_⟩
    refine ⟨_, rfl, n.toNat, congrArg (fun z : Int => [V.int z]) hN, Nat.lt_of_le_of_lt (by omega : n.toNat ≤ 10000) (by decide), _, _, rfl, rfl, CMulW.of w1 w1, _, rfl, _, _, rfl, rfl, ?_⟩
    show Q (.bl (decide (((PySem.Float64.isqrt n.toNat : Nat) : Int) * ((PySem.Float64.isqrt n.toNat : Nat) : Int) = n))) H
    rw [decide_eq_false (fun z => hn _ z.symm)]
    exact q
structure ChkRP (CA : Addr) (vs : List V) (H : Hp) (Q : VK) : Prop where
  ex : ∃ (al : Addr) (a b n : Int), vs = [.ref al, .int n] ∧ AlgAt CA H al a b ∧ a.natAbs ≤ 10000 ∧ b.natAbs ≤ 10000 ∧ NoSq n ∧ Q .non H
def spChkR (CA : Addr) : Sp := fun vs H Q _ => ChkRP CA vs H Q
theorem ok_check_root (F : FnD K "check_root" "check_root" s_P_check_root f fd) (T : Glob mg) (C_P_check_algebra : Cal P w K mg base 1 "check_algebra" ["value"] (spIsAlg CA)) (C_P_is_integer : Cal P w K mg base 1 "is_integer" ["value"] (spIsInt K)) (C_P_is_square : Cal P w K mg base 1 "is_square" ["number"] spIsSq) (C_P_check_side : Cal P w K mg base 1 "check_side" ["algebra"] (spSide CA)) : FnOk P w K mg base CX0 2 f fd ["algebra", "number"] (spChkR CA) := by
  refine F.ok sc_P_check_root (fun vs H Q E h => ?_) (fun cdv A outer s H vs Q E hr h => ?_)
  · obtain ⟨al, a, b, n, rfl, _⟩ := h.ex; rfl
  · obtain ⟨al, a, b, n, rfl, hA, a1, b1, hn, q⟩ := h.ex
    obtain ⟨tM, hc_MAX_SIDE⟩ := T.m_MAX_SIDE
    refine ⟨_, PSs.nox (pss_cons (ps_expr (pe_cal C_P_check_algebra (hr.mono (by decide)) (pa_cons (pv 0) pa_nil)))
      (pss_cons (ps_if (PW.pt (pw_or (pt_not (pt_val (pe_cal C_P_is_integer (hr.mono (by decide)) (pa_cons (pv 1) pa_nil)))) (pw_or (pt_cmp (pc_eqI (pv 1) pe_int)) (pw_or (pt_cmp (pc_gt (pe_callB call_abs (by rfl) T.m_abs (by decide +kernel) (pa_cons (pv 1) pa_nil)) (pe_glob (v := .int 10000) rfl hc_MAX_SIDE ⟨_, rfl⟩))) (pw_or1 (pt_val (pe_cal C_P_is_square (hr.mono (by decide)) (pa_cons (pv 1) pa_nil)))))))) (pss_one ps_never) pss_nil)
      (pss_one (ps_expr (pe_cal C_P_check_side (hr.mono (by decide)) (pa_cons (pv 0) pa_nil)))))), ?_⟩
    refine ⟨_, rfl, al, a, b, rfl, hA, ?_⟩
    refine ⟨_, rfl, .int n, true, rfl, .int n, ?_⟩
    refine ⟨_, rfl, (if_neg (by decide)).mpr ?_⟩
    have ha : (if n < 0 then -n else n) ≤ 10000 := by
      have := hn.2.1
      split <;> omega
    refine ⟨_, rfl, _, _, rfl, rfl, _, rfl, ifd (fun h => absurd h hn.1) (fun _ => ?_)⟩
    refine ⟨_, rfl, n, rfl, _, _, rfl, rfl, _, rfl, ifd (fun h => absurd h (by omega)) (fun _ => ?_)⟩
    refine ⟨_, rfl, n, rfl, hn, _, rfl, (if_neg (by decide)).mpr ?_⟩
    exact ⟨_, rfl, al, a, b, rfl, hA, a1, b1, q⟩
structure SqPlP (vs : List V) (H : Hp) (Q : VK) : Prop where
  ex : ∃ (t : Addr) (l : List Int) (n : Int), vs = [.ref t, .int n] ∧ H t = some (.tup (l.map V.int)) ∧ l.length ≤ 20000 ∧ n ≠ 0 ∧ n.natAbs ≤ 1000000000 ∧ (∀ p ∈ l, p = 0 ∨ (PrP p ∧ p ≤ 1000000000)) ∧ ∀ (D : Addr) (H' : Hp), Same H H' → H' D = some (.lst ((sqL n l).map V.int)) → Q (.ref D) H'
def spSqPl : Sp := fun vs H Q _ => SqPlP vs H Q
theorem ok_square_places (F : FnD K "square_places" "square_places" s_P_square_places f fd) (T : Glob mg) (C_P_is_square_at : Cal P w K mg base 4 "is_square_at" ["number", "place"] spSqAt) : FnOk P w K mg base CX0 5 f fd ["places", "number"] spSqPl := by
  refine F.ok sc_P_square_places (fun vs H Q E h => ?_) (fun cdv A outer s H vs Q E hr h => ?_)
  · obtain ⟨t, l, n, rfl, _⟩ := h.ex; rfl
  · obtain ⟨t, l, n, rfl, ht, hl, n0, nb, hp, q⟩ := h.ex
    refine ⟨_, PSs.nox (pss_one (ps_ret (pe_lc rfl sc_P_square_places.nd (own := [("place", 2)]) (pi_tup (pv 0)) (blkOk_by (N := ["places", "number", "place"]) (sc := defScope s_P_square_places) (by decide +kernel)) (fun _ _ _ _ _ => pg_name (i := 2) sc_P_square_places.nd rfl (Or.inl rfl)) (fun _ _ _ _ _ => pts_one (pt_val (pe_cal C_P_is_square_at (hr.mono (by decide)) (pa_cons (pv 1) (pa_cons (pv 2) pa_nil))))) (fun _ _ _ _ _ => (pv 2))))), ?_⟩
    refine ⟨_, rfl, t, rfl, ⟨_, SqT.of ht⟩, fun D hD => lc_tup (K := K) (a := t) (xs := l.map V.int) (fun i H' => Same H H' ∧ H' D = some (.lst ((sqL n (l.take i)).map V.int))) ⟨same_upd hD, upd_same⟩ (fun i H' _ hp => SqT.of (hp.1 _ _ ht)) (fun i v H' hv hP => ?_) (fun H' hP => ?_)⟩
    · obtain ⟨e1, hd⟩ := hP
      rw [List.getElem?_map] at hv
      obtain ⟨p, hpi, rfl⟩ := Option.map_eq_some_iff.mp hv
      have hpp := hp p (List.mem_of_getElem? hpi)
      have st := sqL_step (n := n) hpi
      have hp' : p = 0 ∨ PrP p := hpp.imp id (·.1)
      refine ⟨rfl, ?_⟩
      refine ⟨_, rfl, _, rfl, n, p, rfl, n0, nb, hpp, fun r H2 hr e2 => ⟨_, rfl, ?_⟩⟩
      rw [← sqB_is hp' hr] at st
      cases r with
      | true =>
        rw [cond_true] at st
        refine (if_pos rfl).mpr ⟨_, rfl, _, e2 _ _ hd, ?_, ?_, ?_⟩
        · rw [List.length_map]
          have k1 := sqL_len n (l.take i)
          have k2 := List.length_take_le' i l
          exact Nat.lt_of_le_of_lt (by omega : (sqL n (l.take i)).length ≤ 20000) (by decide)
        · intro b o eb
          rw [upd_ne (ne_of_none eb hD)]
          exact e2 _ _ (e1 _ _ eb)
        · rw [upd_same, st, List.map_append]
          rfl
      | false =>
        rw [cond_false, List.append_nil] at st
        exact (if_neg (by decide)).mpr ⟨e1.trans e2, by rw [st]; exact e2 _ _ hd⟩
    · obtain ⟨e1, hd⟩ := hP
      rw [List.length_map, List.take_length] at hd
      exact q D H' e1 hd
structure HasRP (CA : Addr) (vs : List V) (H : Hp) (Q : VK) : Prop where
  ex : ∃ (al : Addr) (a b n : Int), vs = [.ref al, .int n] ∧ AlgAt CA H al a b ∧ a.natAbs ≤ 10000 ∧ b.natAbs ≤ 10000 ∧ NoSq n ∧ ∀ (l : List Int) (H' : Hp), PlacesOf a b l → Same H H' → Q (.bl (decide ((sqL n l).length = 0))) H'
def spHasR (CA : Addr) : Sp := fun vs H Q _ => HasRP CA vs H Q
theorem ok_has_root (F : FnD K "has_root" "has_root" s_P_has_root f fd) (T : Glob mg) (RA : AlgK K CA) (C_P_check_root : Cal P w K mg base 2 "check_root" ["algebra", "number"] (spChkR CA)) (C_P_square_places : Cal P w K mg base 5 "square_places" ["places", "number"] spSqPl) : FnOk P w K mg base CX0 6 f fd ["algebra", "number"] (spHasR CA) := by
  refine F.ok sc_P_has_root (fun vs H Q E h => ?_) (fun cdv A outer s H vs Q E hr h => ?_)
  · obtain ⟨al, a, b, n, rfl, _⟩ := h.ex; rfl
  · obtain ⟨al, a, b, n, rfl, hA, a1, b1, hn, q⟩ := h.ex
    refine ⟨_, PSs.nox (pss_cons (ps_expr (pe_cal C_P_check_root (hr.mono (by decide)) (pa_cons (pv 0) (pa_cons (pv 1) pa_nil))))
      (pss_one (ps_ret (pe_notT (pe_cal C_P_square_places (hr.mono (by decide)) (pa_cons (pe_fld (pv 0) rfl) (pa_cons (pv 1) pa_nil))))))), ?_⟩
    refine ⟨_, rfl, _, rfl, al, a, b, n, rfl, hA, a1, b1, hn, ?_⟩
    obtain ⟨dA, pl, l, g1, g2, hP, a0, b0, _⟩ := hA.ex
    have few := places_few hP a0 b0 a1 b1
    refine ⟨_, rfl, al, CA, dA, _, .ref pl, rfl, g1, RA.own.cls, RA.n1, rfl, _, rfl, pl, l, n, rfl, g2, by omega, hn.1, by have := hn.2.1; omega, fun p hp => ?_, fun D H' e1 hD => ?_⟩
    · have hle := place_le4 hP a0 b0 a1 b1 hp
      obtain ⟨k1, _⟩ := (hP.2 p).mp hp
      exact k1.imp id fun k => ⟨k, by omega⟩
    · have z := q l H' hP e1
      refine ⟨_, .inl ⟨_, SqL.of hD, rfl⟩, ?_⟩
      rw [show (!(!((sqL n l).map V.int).isEmpty)) = decide ((sqL n l).length = 0) by cases sqL n l <;> rfl]
      exact z
end
end Sf

namespace Sf
open PySem PySem.Spec PyProof.Rows L2
/-- no divisor from 2 on below t -/
def NoDv (n t : Int) : Prop := 2 ≤ t ∧ ∀ k : Int, 2 ≤ k → k < t → n % k ≠ 0
theorem nodv_prime {n t : Int} (h : NoDv n t) (d : n % t = 0) : PrP t := ⟨h.1, fun k k2 hk hz => h.2 k k2 hk (mod_of_dvd d hz)⟩
/-- what is known of the primes of N while they are taken out one by one -/
structure PartJ (N : Int) (ks : List Int) (left t : Int) : Prop where
  nod : NoDv left t
  pos : 1 ≤ left
  pr : ∀ k ∈ ks, PrP k ∧ N % k = 0
  dv : ∀ p, PrP p → N % p = 0 → p ∈ ks ∨ left % p = 0
  ld : ∀ p : Int, left % p = 0 → N % p = 0
  le : left ≤ N
  len : (ks.length : Int) ≤ t - 2
  pw : 2 ^ ks.length * left ≤ N
theorem partj_start {N : Int} (h : 1 ≤ N) : PartJ N [] N 2 := ⟨⟨by decide, fun k h1 h2 => by omega⟩, h, fun k hk => (by cases hk), fun p _ d => .inr d, fun _ d => d, Int.le_refl _, (by decide), (by rw [List.length_nil, Int.pow_zero, Int.one_mul]; exact Int.le_refl _)⟩
theorem dvd_mod {a b : Int} : a % b = 0 ↔ b ∣ a := ⟨Int.dvd_of_emod_eq_zero, Int.emod_eq_zero_of_dvd⟩
theorem partj_step {N left left' t : Int} {ks : List Int} {m : Nat} (h : PartJ N ks left t) (hS : left = t ^ m * left') (hn : left' % t ≠ 0) (hp : 1 ≤ left') :
    (m = 0 → PartJ N ks left' (t + 1)) ∧ (0 < m → PrP t ∧ PartJ N (ks ++ [t]) left' (t + 1)) := by
  have dv' : left' ∣ left := ⟨t ^ m, by rw [hS, Int.mul_comm]⟩
  have t2 := h.nod.1
  have ldv : ∀ p : Int, left' % p = 0 → left % p = 0 := fun p d => dvd_mod.mpr (Int.dvd_trans (dvd_mod.mp d) dv')
  have nod : NoDv left' (t + 1) := by
    refine ⟨by omega, fun k k2 hk hz => ?_⟩
    by_cases c : k = t
    · rw [c] at hz
      exact hn hz
    · exact h.nod.2 k k2 (by omega) (ldv k hz)
  have le' : left' ≤ left := Int.le_of_dvd (by have := h.pos; omega) dv'
  constructor
  · intro m0
    rw [m0, Int.pow_zero, Int.one_mul] at hS
    subst hS
    exact ⟨nod, hp, h.pr, h.dv, h.ld, h.le, by have := h.len; omega, h.pw⟩
  · intro m0
    have td : left % t = 0 := by
      rw [dvd_mod, hS]
      obtain ⟨j, rfl⟩ : ∃ j, m = j + 1 := ⟨m - 1, by omega⟩
      rw [Int.pow_succ]
      exact ⟨t ^ j * left', by rw [Int.mul_comm (t ^ j) t, Int.mul_assoc]⟩
    have pt : PrP t := nodv_prime h.nod td
    refine ⟨pt, nod, hp, fun k hk => ?_, fun p hP d => ?_, fun p d => h.ld p (ldv p d), Int.le_trans le' h.le, ?_, ?_⟩
    · rcases List.mem_append.mp hk with hk | hk
      · exact h.pr k hk
      · rw [List.mem_singleton.mp hk]
        exact ⟨pt, h.ld t td⟩
    · rcases h.dv p hP d with c | c
      · exact .inl (List.mem_append_left _ c)
      · by_cases e : p = t
        · exact .inl (List.mem_append_right _ (by rw [e]; exact List.mem_singleton.mpr rfl))
        · right
          rw [dvd_mod] at c ⊢
          rw [hS] at c
          rcases prime_mul hP c with c | c
          · exact absurd (prime_dvd_prime hP pt (prime_pow hP c)) e
          · exact c
    · rw [List.length_append]
      have := h.len
      show ((ks.length + 1 : Nat) : Int) ≤ _
      omega
    · rw [List.length_append, show [t].length = 1 from rfl, Int.pow_succ, Int.mul_assoc]
      refine Int.le_trans (Int.mul_le_mul_of_nonneg_left ?_ (Int.le_of_lt (Int.pow_pos (by decide)))) h.pw
      rw [hS]
      refine Int.mul_le_mul_of_nonneg_right ?_ (by omega)
      obtain ⟨j, rfl⟩ : ∃ j, m = j + 1 := ⟨m - 1, by omega⟩
      have h1 : (1 : Int) ≤ t ^ j := Int.pow_pos (by omega)
      have h2 : (1 : Int) * t ≤ t ^ j * t := Int.mul_le_mul_of_nonneg_right h1 (by omega)
      rw [Int.pow_succ]
      omega
theorem partj_few {N left t : Int} {ks : List Int} (h : PartJ N ks left t) (hN : N ≤ 1000000000) : ks.length ≤ 29 := by
  rcases Nat.lt_or_ge 29 ks.length with c | c
  · exfalso
    have h1 := h.pw
    have h2 : (2 : Int) ^ ks.length * 1 ≤ 2 ^ ks.length * left := Int.mul_le_mul_of_nonneg_left h.pos (Int.le_of_lt (Int.pow_pos (by decide)))
    have h3 : (2 : Int) ^ 30 ≤ 2 ^ ks.length := by
      rw [show ks.length = 30 + (ks.length - 30) by omega, Int.pow_add]
      have h4 : (1 : Int) ≤ 2 ^ (ks.length - 30) := Int.pow_pos (by decide)
      have : (2 : Int) ^ 30 * 1 ≤ 2 ^ 30 * 2 ^ (ks.length - 30) := Int.mul_le_mul_of_nonneg_left h4 (by decide)
      omega
    have h5 : (2 : Int) ^ 30 = 1073741824 := by decide
    omega
  · exact c
section
variable {P : Program} {w : World} {K : PySem.W.Frag} {mg : Str → Option Value} {base : Heap} {f : Addr} {fd : FuncData}
abbrev Ent := Addr × Int × Int
/-- pairs of integers that stand in a list -/
def EntAt (H : Hp) (D : Addr) (es : List Ent) : Prop := H D = some (.lst (es.map fun e => V.ref e.1)) ∧ ∀ e ∈ es, H e.1 = some (.tup [.int e.2.1, .int e.2.2])
structure LPartP (vs : List V) (H : Hp) (Q : VK) : Prop where
  ex : ∃ n : Int, vs = [.int n] ∧ n ≠ 0 ∧ n.natAbs ≤ 1000000000 ∧ ∀ (L : Addr) (es : List Ent) (H' : Hp), Same H H' → EntAt H' L es → es.length ≤ 30 → (∀ e ∈ es, PrP e.2.1 ∧ n % e.2.1 = 0) → (∀ p, PrP p → n % p = 0 → p ∈ es.map (·.2.1)) → Q (.ref L) H'
def spLPart : Sp := fun vs H Q _ => LPartP vs H Q
set_option maxHeartbeats 8000000 in
theorem ok_lparts (F : FnD K "_law_parts" "_law_parts" s_L_parts f fd) (T : Glob mg) : FnOk P w K mg base CX0 1 f fd ["_law_number"] spLPart := by
  refine F.ok sc_L_parts (fun vs H Q E h => ?_) (fun cdv A outer s H vs Q E hr h => ?_)
  · obtain ⟨n, rfl, _⟩ := h.ex; rfl
  · obtain ⟨n, rfl, n0, nb, q⟩ := h.ex
    refine ⟨_, PSs.nox (pss_cons (ps_par3 (i := 1) (j := 2) (l := 3) (by rfl) sc_L_parts.nd rfl rfl rfl (by decide) (by decide) (by decide) rfl rfl rfl (pa_cons (pe_lst pa_nil) (pa_cons (pe_callB call_abs (by rfl) T.m_abs (by decide +kernel) (pa_cons (pv 0) pa_nil)) (pa_cons pe_int pa_nil))) (by rfl))
      (pss_cons (ps_while PassesOwn.never (pt_cmp (pc_le (pe_op op_mulW (pv 3) (pv 3)) (pv 2))) (pss_cons (ps_set (i := 4) sc_L_parts.nd rfl (Or.inl rfl) pe_int)
      (pss_cons (ps_while PassesOwn.never (pt_cmp (pc_eqI (pe_op op_mod (pe_callTy call_int1 (by rfl) T.m_int (by decide +kernel) (pa_cons (pv 2) pa_nil)) (pv 3)) pe_int)) (pss_one (ps_par (i := 2) (j := 4) (by rfl) sc_L_parts.nd rfl rfl (by decide) rfl rfl (pa_cons (pe_op op_fdivW (pv 2) (pv 3)) (pa_cons (pe_op op_add (pv 4) pe_int) pa_nil)) (by rfl))))
      (pss_cons (ps_if (pt_cmp (pc_gt (pv 4) pe_int)) (pss_one (ps_expr (pe_bm PySem.F.plainAttrs_list PySem.F.slot_list_append PySem.F.type_list_append mt_append (pv 1) (pa_cons (pe_tup (pa_cons (pv 3) (pa_cons (pv 4) pa_nil))) pa_nil)))) pss_nil)
      (pss_one (ps_set (i := 3) sc_L_parts.nd rfl (Or.inl rfl) (pe_op op_add (pv 3) pe_int)))))))
      (pss_one (ps_ret (pe_op op_cat (pv 1) (pe_cut (pe_ifExp (pt_cmp (pc_gt (pv 2) pe_int)) (pe_lst (pa_cons (pe_tup (pa_cons (pv 2) (pa_cons pe_int pa_nil))) pa_nil)) (pe_lst pa_nil)))))))), ?_⟩
    obtain ⟨N, eN, hN1, hN2⟩ : ∃ N : Int, (if n < 0 then -n else n) = N ∧ 1 ≤ N ∧ N ≤ 1000000000 := ⟨_, rfl, by split <;> omega, by split <;> omega⟩
    have nN : ∀ p : Int, n % p = 0 ↔ N % p = 0 := fun p => by
      rw [dvd_mod, dvd_mod, ← eN]
      split
      · exact Int.dvd_neg.symm
      · exact Iff.rfl
    refine ⟨(by show 0 ≤ sizeLine; decide), fun D hD => ⟨_, rfl, n, rfl, _, _, _, rfl, ?_⟩⟩
    rw [eN]
    refine ⟨fun c σ H' => ∃ (es : List Ent) (left t : Int) (v4 : Option V), σ = [some (.int n), some (.ref D), some (.int left), some (.int t), v4] ∧ Same H H' ∧ EntAt H' D es ∧ PartJ N (es.map (·.2.1)) left t ∧ t ≤ 31625 ∧ c = (31626 - t).toNat, ⟨_, [], N, 2, none, rfl, same_upd hD, ⟨upd_same, fun e h => by cases h⟩, partj_start hN1, by decide, rfl⟩, ?_⟩
    rintro c σ H1 ⟨es, left, t, v4, rfl, e1, hE, hJ, t5, rfl⟩
    have t2 := hJ.nod.1
    have l1 := hJ.pos
    have lN := hJ.le
    have wt : t.natAbs < 2 ^ 3000 := lt3000s (by omega) (by omega)
    refine ⟨_, rfl, _, rfl, _, _, rfl, rfl, CMulW.of wt wt, _, rfl, t * t, left, rfl, rfl, _, rfl, ifd (fun h => ⟨fun σ' H' => ∃ m', m' < (31626 - t).toNat ∧ ∃ (es : List Ent) (left t : Int) (v4 : Option V), σ' = [some (.int n), some (.ref D), some (.int left), some (.int t), v4] ∧ Same H H' ∧ EntAt H' D es ∧ PartJ N (es.map (·.2.1)) left t ∧ t ≤ 31625 ∧ m' = (31626 - t).toNat, fun _ _ z => z, ?_⟩) (fun h => ?_)⟩
    · have tb : t ≤ 31622 := by
        by_cases c : t ≤ 31622
        · exact c
        · have : 31623 * 31623 ≤ t * t := Int.mul_le_mul (by omega) (by omega) (by decide) (by omega)
          omega
      refine ⟨fun c2 σ H' => H1 = H' ∧ ∃ (m : Nat) (u : Int), σ = [some (.int n), some (.ref D), some (.int u), some (.int t), some (.int (m : Int))] ∧ left = t ^ m * u ∧ 1 ≤ u ∧ c2 = u.natAbs, ⟨_, rfl, 0, left, rfl, by rw [Int.pow_zero, Int.one_mul], l1, rfl⟩, ?_⟩
      rintro c2 σ _ ⟨rfl, m, u, rfl, eu, u1, rfl⟩
      refine ⟨_, rfl, .inl ⟨_, rfl, _, rfl, _, _, rfl, rfl, (by omega), _, _, rfl, rfl, _, rfl, ifd (fun hd => ⟨fun σ' H' => ∃ m', m' < u.natAbs ∧ H1 = H' ∧ ∃ (m : Nat) (u : Int), σ' = [some (.int n), some (.ref D), some (.int u), some (.int t), some (.int (m : Int))] ∧ left = t ^ m * u ∧ 1 ≤ u ∧ m' = u.natAbs, fun _ _ z => z, ?_⟩) (fun hd => ?_)⟩⟩
      · have hl := strip_less (by omega : u ≠ 0) t2 hd
        have up1 : 1 ≤ u / t := by
          have := Int.ediv_nonneg (by omega : 0 ≤ u) (by omega : 0 ≤ t)
          have := hl.2.1
          omega
        refine ⟨_, rfl, _, rfl, _, _, rfl, rfl, CDivW.of (by omega) wt, _, rfl, _, _, rfl, rfl, _, _, rfl, ?_⟩
        refine ⟨_, hl.1, rfl, m + 1, u / t, rfl, ?_, up1, rfl⟩
        rw [eu, Int.pow_succ, Int.mul_assoc, ← hl.2.2]
      · obtain ⟨J1, J2⟩ := partj_step (m := m) hJ eu hd u1
        refine ⟨_, rfl, _, _, rfl, rfl, _, rfl, ifd (fun hm => ?_) (fun hm => ?_)⟩
        · obtain ⟨pt, J3⟩ := J2 (by omega)
          refine ⟨_, rfl, .inl ⟨rfl, _, SqL.of hE.1⟩, _, rfl, _, rfl, (by show 2 ≤ sizeLine; decide), fun tt htt => ?_⟩
          have e2 := same_upd (o := .tup [.int t, .int (m : Int)]) htt
          have hu : upd H1 tt (.tup [.int t, .int (m : Int)]) tt = some (.tup [.int t, .int (m : Int)]) := upd_same
          have hD2 := e2 _ _ hE.1
          have hes : ∀ e ∈ es, upd H1 tt (.tup [.int t, .int (m : Int)]) e.1 = some (.tup [.int e.2.1, .int e.2.2]) := fun e he => e2 _ _ (hE.2 e he)
          generalize upd H1 tt (.tup [.int t, .int (m : Int)]) = H2 at e2 hu hD2 hes ⊢
          have neD : ∀ x o, H2 x = some (.tup o) → x ≠ D := fun x o hx z => by
            rw [z, hD2] at hx
            cases hx
          have lk := hJ.len
          rw [List.length_map] at lk
          refine ⟨D, _, _, rfl, rfl, hD2, ?_, ?_⟩
          · rw [List.length_map]
            exact Nat.lt_of_lt_of_le (by omega : es.length < 100000) (by decide)
          refine ⟨_, rfl, _, _, rfl, rfl, ?_⟩
          refine ⟨_, (by omega : (31626 - (t + 1)).toNat < (31626 - t).toNat), es ++ [(tt, t, (m : Int))], u, t + 1, _, rfl, ?_, ⟨?_, ?_⟩, ?_, by omega, rfl⟩
          · intro b o eb
            rw [upd_ne (ne_of_none eb hD)]
            exact e2 _ _ (e1 _ _ eb)
          · rw [upd_same, List.map_append]
            rfl
          · intro e he
            rcases List.mem_append.mp he with he | he
            · rw [upd_ne (neD _ _ (hes e he))]
              exact hes e he
            · rw [List.mem_singleton.mp he, upd_ne (neD _ _ hu)]
              exact hu
          · rw [List.map_append]
            exact J3
        · refine ⟨_, rfl, _, _, rfl, rfl, ?_⟩
          exact ⟨_, (by omega : (31626 - (t + 1)).toNat < (31626 - t).toNat), es, u, t + 1, _, rfl, e1, hE, J1 (by omega), by omega, rfl⟩
    · have hlast : 1 < left → PrP left := fun hl => prp_of_trial (by omega) t2 hJ.nod.2 (by omega)
      refine ⟨_, rfl, fun x H' => ∃ (M : Addr) (es2 : List Ent), x = .ref M ∧ Same H1 H' ∧ EntAt H' M es2 ∧ ((es2 = [] ∧ left = 1) ∨ ∃ a, es2 = [(a, left, 1)] ∧ 1 < left), ?_, fun x H' hx => ?_⟩
      · refine ⟨_, rfl, _, _, rfl, rfl, _, rfl, ifd (fun hl => ?_) (fun hl => ?_)⟩
        · refine ⟨_, rfl, (by show 2 ≤ sizeLine; decide), fun a ha => ⟨(by show 1 ≤ sizeLine; decide), fun M hM => ?_⟩⟩
          have g1 := same_upd (o := .tup [.int left, .int 1]) ha
          have g2 := same_upd (o := .lst [.ref a]) hM
          refine ⟨M, [(a, left, 1)], rfl, g1.trans g2, ⟨upd_same, fun e he => ?_⟩, .inr ⟨a, rfl, hl⟩⟩
          rw [List.mem_singleton.mp he]
          exact g2 _ _ upd_same
        · refine ⟨(by show 0 ≤ sizeLine; decide), fun M hM => ⟨M, [], rfl, same_upd hM, ⟨upd_same, fun e he => by cases he⟩, .inl ⟨rfl, by omega⟩⟩⟩
      · obtain ⟨M, es2, rfl, g, hE2, hc⟩ := hx
        have lk := partj_few hJ hN2
        rw [List.length_map] at lk
        have l2 : es2.length ≤ 1 := by
          rcases hc with ⟨rfl, _⟩ | ⟨a, rfl, _⟩
          · exact Nat.zero_le _
          · exact Nat.le_refl _
        refine ⟨D, M, _, _, rfl, rfl, g _ _ hE.1, hE2.1, ?_, fun L hL => ?_⟩
        · rw [List.length_map, List.length_map]
          exact Nat.le_trans (by omega : es.length + es2.length ≤ 100000) (by decide)
        have g3 := same_upd (o := .lst (es.map (fun e => V.ref e.1) ++ es2.map fun e => V.ref e.1)) hL
        refine q L (es ++ es2) _ (e1.trans (g.trans g3)) ⟨by rw [upd_same, List.map_append], fun e he => ?_⟩ (by rw [List.length_append]; omega) (fun e he => ?_) (fun p hp hd => ?_)
        · rcases List.mem_append.mp he with he | he
          · exact g3 _ _ (g _ _ (hE.2 e he))
          · exact g3 _ _ (hE2.2 e he)
        · rcases List.mem_append.mp he with he | he
          · obtain ⟨k1, k2⟩ := hJ.pr e.2.1 (List.mem_map.mpr ⟨e, he, rfl⟩)
            exact ⟨k1, (nN _).mpr k2⟩
          · rcases hc with ⟨rfl, _⟩ | ⟨a, rfl, hl⟩
            · cases he
            · rw [List.mem_singleton.mp he]
              exact ⟨hlast hl, (nN _).mpr (hJ.ld left Int.emod_self)⟩
        · rw [List.map_append]
          rcases hJ.dv p hp ((nN p).mp hd) with c | c
          · exact List.mem_append_left _ c
          · rcases hc with ⟨rfl, hl⟩ | ⟨a, rfl, hl⟩
            · rw [hl, dvd_mod] at c
              exact absurd c (prime_one hp)
            · rw [dvd_mod] at c
              rw [prime_dvd_prime hp (hlast hl) c]
              exact List.mem_append_right _ (List.mem_singleton.mpr rfl)
end
end Sf

namespace Sf
open PySem PySem.Spec PyProof.Rows L2
theorem neg_placeA {a b p : Int} (hp : p = 0 ∨ PrP p) (h : HSign a b p (-1)) : p = 0 ∨ p = 2 ∨ (PrP p ∧ (a % p = 0 ∨ b % p = 0)) := by
  rcases hp with e | hp
  · exact .inl e
  · by_cases c : p = 2
    · exact .inr (.inl c)
    · by_cases c1 : a % p = 0
      · exact .inr (.inr ⟨hp, .inl c1⟩)
      · by_cases c2 : b % p = 0
        · exact .inr (.inr ⟨hp, .inr c2⟩)
        · exact absurd (sign_far hp c c1 c2 h) (by decide)
theorem prime2 : PrP 2 := ⟨by decide, fun k h1 h2 => by omega⟩
/-- what is sorted: 0, 2, and the primes of both numbers -/
structure NearL (a b : Int) (D : List Int) : Prop where
  asc : D.Pairwise (· < ·)
  ok : ∀ p ∈ D, p = 0 ∨ (PrP p ∧ p ≤ 1000000000)
  all : ∀ p, p = 0 ∨ p = 2 ∨ (PrP p ∧ (a % p = 0 ∨ b % p = 0)) → p ∈ D
theorem nearL_places {a b : Int} {D m : List Int} (h : NearL a b D) (hs : m.Sublist D) (hm : ∀ k, k ∈ m ↔ k ∈ D ∧ HSign a b k (-1)) : PlacesOf a b m := by
  refine ⟨h.asc.sublist hs, fun p => ?_⟩
  rw [hm]
  constructor
  · rintro ⟨h1, h2⟩
    exact ⟨(h.ok p h1).imp id (·.1), h2⟩
  · rintro ⟨h1, h2⟩
    exact ⟨h.all p (neg_placeA h1 h2), h2⟩
theorem dv_le {n p : Int} (n0 : n ≠ 0) (nb : n.natAbs ≤ 1000000000) (p2 : 2 ≤ p) (d : n % p = 0) : p ≤ 1000000000 := by
  obtain ⟨k, hk⟩ := Int.dvd_of_emod_eq_zero d
  have k0 : k ≠ 0 := fun z => n0 (by rw [hk, z, Int.mul_zero])
  have e : n.natAbs = p.natAbs * k.natAbs := by rw [hk]; exact Int.natAbs_mul _ _
  have : p.natAbs * 1 ≤ p.natAbs * k.natAbs := Nat.mul_le_mul_left _ (by omega)
  omega
section
variable {P : Program} {w : World} {K : PySem.W.Frag} {mg : Str → Option Value} {base : Heap} {f : Addr} {fd : FuncData}
structure LPlP (vs : List V) (H : Hp) (Q : VK) : Prop where
  ex : ∃ a b : Int, vs = [.int a, .int b] ∧ a ≠ 0 ∧ b ≠ 0 ∧ a.natAbs ≤ 1000000000 ∧ b.natAbs ≤ 1000000000 ∧ ∀ (l : List Int) (t : Addr) (H' : Hp), PlacesOf a b l → l.length ≤ 70 → Same H H' → H' t = some (.tup (l.map V.int)) → Q (.ref t) H'
def spLPl : Sp := fun vs H Q _ => LPlP vs H Q
set_option maxHeartbeats 8000000 in
theorem ok_lplaces (F : FnD K "_law_places" "_law_places" s_L_places f fd) (T : Glob mg) (C_L_parts : Cal P w K mg base 1 "_law_parts" ["_law_number"] spLPart) (C_L_sign : Cal P w K mg base 2 "_law_sign" ["_law_a", "_law_b", "_law_place"] spLSign) : FnOk P w K mg base CX0 3 f fd ["_law_a", "_law_b"] spLPl := by
  refine F.ok sc_L_places (fun vs H Q E h => ?_) (fun cdv A outer s H vs Q E hr h => ?_)
  · obtain ⟨a, b, rfl, _⟩ := h.ex; rfl
  · obtain ⟨a, b, rfl, a0, b0, ab, bb, q⟩ := h.ex
    have hu := hu_of hr
    refine ⟨_, PSs.nox (pss_cons (ps_set (i := 2) sc_L_places.nd rfl (Or.inl rfl) (pe_callB (cr_sortedSet rfl) (by rfl) T.m_sorted (by decide +kernel) (pa_cons (pe_callTy (cr_setL rfl) (by rfl) T.m_set (by decide +kernel) (pa_cons (pe_op op_cat (pe_op op_cat (pe_lst (pa_cons pe_int (pa_cons pe_int pa_nil))) (pe_lc rfl sc_L_places.nd (own := [("_law_part", 3)]) (pi_list (pe_cal C_L_parts (hr.mono (by decide)) (pa_cons (pv 0) pa_nil))) (blkOk_by (N := ["_law_a", "_law_b", "_law_near_here", "_law_part", "_law_place"]) (sc := defScope s_L_places) (by decide +kernel)) (fun _ _ _ _ _ => pg_name (i := 3) sc_L_places.nd rfl (Or.inl rfl)) (fun _ _ _ _ _ => pts_nil) (fun _ _ _ _ _ => (pe_ix (r := rIxT K) ix_tup (pv 3) pe_int (fun _ _ => rfl))))) (pe_lc rfl sc_L_places.nd (own := [("_law_part", 3)]) (pi_list (pe_cal C_L_parts (hr.mono (by decide)) (pa_cons (pv 1) pa_nil))) (blkOk_by (N := ["_law_a", "_law_b", "_law_near_here", "_law_part", "_law_place"]) (sc := defScope s_L_places) (by decide +kernel)) (fun _ _ _ _ _ => pg_name (i := 3) sc_L_places.nd rfl (Or.inl rfl)) (fun _ _ _ _ _ => pts_nil) (fun _ _ _ _ _ => (pe_ix (r := rIxT K) ix_tup (pv 3) pe_int (fun _ _ => rfl))))) pa_nil)) pa_nil)))
      (pss_one (ps_ret (pe_callTy call_tuple_of (by rfl) T.m_tuple (by decide +kernel) (pa_cons (pe_lc rfl sc_L_places.nd (own := [("_law_place", 4)]) (pi_list (pv 2)) (blkOk_by (N := ["_law_a", "_law_b", "_law_near_here", "_law_part", "_law_place"]) (sc := defScope s_L_places) (by decide +kernel)) (fun _ _ _ _ _ => pg_name (i := 4) sc_L_places.nd rfl (Or.inl rfl)) (fun _ _ _ _ _ => pts_one (pt_cmp (pc_eqI (pe_cal C_L_sign (hr.mono (by decide)) (pa_cons (pv 0) (pa_cons (pv 1) (pa_cons (pv 4) pa_nil)))) (pe_un un_neg pe_int)))) (fun _ _ _ _ _ => (pv 4))) pa_nil))))), ?_⟩
    refine ⟨(by show 2 ≤ sizeLine; decide), fun L1 h1 => ?_⟩
    have g1 := same_upd (o := .lst [.int 0, .int 2]) h1
    have k1 : upd H L1 (.lst [.int 0, .int 2]) L1 = some (.lst (([0, 2] : List Int).map V.int)) := upd_same
    generalize upd H L1 _ = H1 at g1 k1 ⊢
    refine ⟨_, rfl, ⟨a, rfl, a0, ab, fun La es H2 e2 hE hl hpr hall => ?_⟩⟩
    refine ⟨La, rfl, ⟨_, SqL.of hE.1⟩, fun D hD => lc_list (K := K) (a := La) (xs := es.map fun e => V.ref e.1) (fun i H' => Same H2 H' ∧ H' D = some (.lst (((es.map (·.2.1)).take i).map V.int))) ⟨same_upd hD, upd_same⟩ (fun i H' _ hp => SqL.of (hp.1 _ _ hE.1)) (fun i v H' hv hp => ?_) (fun H3 hp => ?_)⟩
    · obtain ⟨e3, hd⟩ := hp
      rw [List.getElem?_map] at hv
      obtain ⟨e, he, rfl⟩ := Option.map_eq_some_iff.mp hv
      have hz := e3 _ _ (hE.2 e (List.mem_of_getElem? he))
      refine ⟨rfl, ?_⟩
      refine ⟨_, rfl, e.1, _, 0, .int e.2.1, rfl, rfl, SqT.of hz, rfl, ?_⟩
      refine ⟨_, hd, ?_, ?_, ?_⟩
      · rw [List.length_map]
        have := List.length_take_le' i (es.map (·.2.1))
        rw [List.length_map] at this
        exact Nat.lt_of_le_of_lt (by omega : ((es.map (·.2.1)).take i).length ≤ 100) (by decide)
      · intro b' o eb
        rw [upd_ne (ne_of_none eb hD)]
        exact e3 _ _ eb
      · rw [upd_same, List.take_add_one, List.getElem?_map, he, List.map_append]
        rfl
    obtain ⟨e3, hd⟩ := hp
    rw [List.length_map, List.take_of_length_le (by rw [List.length_map]; exact Nat.le_refl _)] at hd
    have k1' := e3 _ _ (e2 _ _ k1)
    refine ⟨L1, D, _, _, rfl, rfl, k1', hd, ?_, fun L2 h2 => ?_⟩
    · rw [List.length_map, List.length_map, List.length_map]
      exact Nat.le_trans (show 2 + es.length ≤ 100 by omega) (by decide)
    have g2 := same_upd (o := .lst (([0, 2] : List Int).map V.int ++ (es.map (·.2.1)).map V.int)) h2
    have k2 : upd H3 L2 (.lst (([0, 2] : List Int).map V.int ++ (es.map (·.2.1)).map V.int)) L2 = some (.lst (([0, 2] ++ es.map (·.2.1) : List Int).map V.int)) := by rw [upd_same, List.map_append]
    generalize upd H3 L2 _ = H4 at g2 k2 ⊢
    refine ⟨_, rfl, ⟨b, rfl, b0, bb, fun Lb fs H5 e5 hE' hl' hpr' hall' => ?_⟩⟩
    refine ⟨Lb, rfl, ⟨_, SqL.of hE'.1⟩, fun D2 hD2 => lc_list (K := K) (a := Lb) (xs := fs.map fun e => V.ref e.1) (fun i H' => Same H5 H' ∧ H' D2 = some (.lst (((fs.map (·.2.1)).take i).map V.int))) ⟨same_upd hD2, upd_same⟩ (fun i H' _ hp => SqL.of (hp.1 _ _ hE'.1)) (fun i v H' hv hp => ?_) (fun H6 hp => ?_)⟩
    · obtain ⟨e3, hd⟩ := hp
      rw [List.getElem?_map] at hv
      obtain ⟨e, he, rfl⟩ := Option.map_eq_some_iff.mp hv
      have hz := e3 _ _ (hE'.2 e (List.mem_of_getElem? he))
      refine ⟨rfl, ?_⟩
      refine ⟨_, rfl, e.1, _, 0, .int e.2.1, rfl, rfl, SqT.of hz, rfl, ?_⟩
      refine ⟨_, hd, ?_, ?_, ?_⟩
      · rw [List.length_map]
        have := List.length_take_le' i (fs.map (·.2.1))
        rw [List.length_map] at this
        exact Nat.lt_of_le_of_lt (by omega : ((fs.map (·.2.1)).take i).length ≤ 100) (by decide)
      · intro b' o eb
        rw [upd_ne (ne_of_none eb hD2)]
        exact e3 _ _ eb
      · rw [upd_same, List.take_add_one, List.getElem?_map, he, List.map_append]
        rfl
    obtain ⟨e6, hd2⟩ := hp
    rw [List.length_map, List.take_of_length_le (by rw [List.length_map]; exact Nat.le_refl _)] at hd2
    have k2' := e6 _ _ (e5 _ _ k2)
    refine ⟨L2, D2, _, _, rfl, rfl, k2', hd2, ?_, fun L3 h3 => ?_⟩
    · rw [List.length_map, List.length_append, List.length_map, List.length_map, List.length_map]
      exact Nat.le_trans (show 2 + es.length + fs.length ≤ 100 by omega) (by decide)
    generalize hns : ([0, 2] ++ es.map (·.2.1)) ++ fs.map (·.2.1) = ns at *
    have hlen : ns.length ≤ 62 := by
      rw [← hns, List.length_append, List.length_append, List.length_map, List.length_map]
      show 2 + es.length + fs.length ≤ 62
      omega
    have g3 := same_upd (o := .lst (([0, 2] ++ es.map (·.2.1) : List Int).map V.int ++ (fs.map (·.2.1)).map V.int)) h3
    have k3 : upd H6 L3 (.lst (([0, 2] ++ es.map (·.2.1) : List Int).map V.int ++ (fs.map (·.2.1)).map V.int)) L3 = some (.lst (ns.map V.int)) := by rw [upd_same, ← hns, ← List.map_append]
    have eH := g1.trans (e2.trans (e3.trans (g2.trans (e5.trans (e6.trans g3)))))
    generalize upd H6 L3 _ = H7 at g3 k3 eH ⊢
    refine ⟨L3, ns, rfl, SqL.of k3, by omega, fun y n hn hy => ?_⟩
    refine ⟨y, _, n, rfl, upd_same, by omega, fun D3 z hD3 hm hDl hz => ?_⟩
    have hN : NearL a b D3 := by
      have mem : ∀ k, k ∈ D3 ↔ k ∈ ns := fun k => (hm k).trans decide_eq_true_iff
      refine ⟨hD3, fun p hp => ?_, fun p hp => ?_⟩
      · have hp' := (mem p).mp hp
        rw [← hns] at hp'
        rcases List.mem_append.mp hp' with hp' | hp'
        · rcases List.mem_append.mp hp' with hp' | hp'
          · rcases List.mem_cons.mp hp' with e | hp'
            · exact .inl e
            · rw [List.mem_singleton.mp hp']
              exact .inr ⟨prime2, by decide⟩
          · obtain ⟨e, he, rfl⟩ := List.mem_map.mp hp'
            obtain ⟨q1, q2⟩ := hpr e he
            exact .inr ⟨q1, dv_le a0 ab q1.1 q2⟩
        · obtain ⟨e, he, rfl⟩ := List.mem_map.mp hp'
          obtain ⟨q1, q2⟩ := hpr' e he
          exact .inr ⟨q1, dv_le b0 bb q1.1 q2⟩
      · rw [mem, ← hns]
        rcases hp with rfl | rfl | ⟨hP, hd | hd⟩
        · exact List.mem_append_left _ (List.mem_append_left _ (by decide))
        · exact List.mem_append_left _ (List.mem_append_left _ (by decide))
        · exact List.mem_append_left _ (List.mem_append_right _ (hall p hP hd))
        · exact List.mem_append_right _ (hall' p hP hd)
    have eZ := (eH.trans (same_upd (o := SetO w y (fun j => decide (j ∈ ns)) n) hy)).trans (same_upd (o := .lst (D3.map V.int)) hz)
    have kz : upd (upd H7 y (SetO w y (fun j => decide (j ∈ ns)) n)) z (.lst (D3.map V.int)) z = some (.lst (D3.map V.int)) := upd_same
    change gName 2 (V.ref z) _ (upd (upd H7 y (SetO w y (fun j => decide (j ∈ ns)) n)) z (.lst (D3.map V.int))) _
    generalize upd (upd H7 y (SetO w y (fun j => decide (j ∈ ns)) n)) z (.lst (D3.map V.int)) = H8 at eZ kz ⊢
    refine ⟨_, rfl, z, rfl, ⟨_, SqL.of kz⟩, fun D4 hD4 => lc_list (K := K) (a := z) (xs := D3.map V.int) (fun i H' => Same H8 H' ∧ ∃ m : List Int, H' D4 = some (.lst (m.map V.int)) ∧ m.Sublist (D3.take i) ∧ ∀ k, k ∈ m ↔ k ∈ D3.take i ∧ HSign a b k (-1)) ⟨same_upd hD4, [], upd_same, List.Sublist.refl _, fun k => ⟨fun z => (by cases z), fun z => absurd z.1 (by simp)⟩⟩ (fun i H' _ hp => SqL.of (hp.1 _ _ kz)) (fun i v H' hv hp => ?_) (fun H9 hp => ?_)⟩
    · obtain ⟨e9, m, hmd, msub, hmm⟩ := hp
      rw [List.getElem?_map] at hv
      obtain ⟨k, hk, rfl⟩ := Option.map_eq_some_iff.mp hv
      have kP := hN.ok k (List.mem_of_getElem? hk)
      have et : D3.take (i + 1) = D3.take i ++ [k] := by rw [List.take_add_one, hk]; rfl
      refine ⟨rfl, ?_⟩
      refine ⟨_, rfl, _, rfl, _, rfl, a, b, k, rfl, a0, b0, ab, bb, kP, fun r H6 hr e6 => ?_⟩
      refine ⟨_, rfl, _, _, rfl, rfl, _, rfl, ifd (fun h => ?_) (fun h => ?_)⟩
      · have h : r = -1 := h
        subst h
        refine ⟨_, rfl, m.map V.int, e6 _ _ hmd, ?_, ?_, m ++ [k], ?_, ?_, fun j => ?_⟩
        · rw [List.length_map]
          have k1 := msub.length_le
          have k2 := List.length_take_le' i D3
          exact Nat.lt_of_le_of_lt (by omega : m.length ≤ 70) (by decide)
        · intro b' o e
          rw [upd_ne (ne_of_none e hD4)]
          exact e6 _ _ (e9 _ _ e)
        · rw [upd_same, List.map_append]; rfl
        · rw [et]
          exact msub.append (List.Sublist.refl _)
        · rw [et, List.mem_append, List.mem_append, hmm, List.mem_singleton]
          constructor
          · rintro (h | h)
            · exact ⟨.inl h.1, h.2⟩
            · exact ⟨.inr h, h ▸ hr⟩
          · rintro ⟨h | h, h2⟩
            · exact .inl ⟨h, h2⟩
            · exact .inr h
      · refine ⟨e9.trans e6, m, e6 _ _ hmd, ?_, fun j => ?_⟩
        · rw [et]
          exact msub.trans (List.sublist_append_left _ _)
        · rw [et, List.mem_append, hmm, List.mem_singleton]
          constructor
          · rintro h
            exact ⟨.inl h.1, h.2⟩
          · rintro ⟨h1 | h1, h2⟩
            · exact ⟨h1, h2⟩
            · subst h1
              exact absurd (hsign_unique (kP.imp id (·.1)) hr h2) h
    · obtain ⟨e9, m, hmd, msub, hmm⟩ := hp
      rw [List.length_map, List.take_length] at msub hmm
      refine ⟨D4, m.map V.int, rfl, .inl ⟨SqL.of hmd, fun t ht => ?_⟩⟩
      have hl := nearL_places hN msub hmm
      have ml := msub.length_le
      exact q m t _ hl (by omega) (eZ.trans (e9.trans (same_upd ht))) upd_same
end
end Sf

namespace Sf
open PySem PySem.Spec PyProof.Rows L2
/-- a class whose objects are no integers, truth values, texts and tuples -/
structure OwnT (K : PySem.W.Frag) (C : Addr) : Prop where
  int : PySem.W.kitOne K (.ref C) (.type "int") = some false
  bool : PySem.W.kitOne K (.ref C) (.type "bool") = some false
  str : PySem.W.kitOne K (.ref C) (.type "str") = some false
  tup : PySem.W.kitOne K (.ref C) (.type "tuple") = some false
theorem ownTB_ok {K : PySem.W.Frag} {x : Str} (h : ownTB K x = true) : OwnT K (He.ga K x) := by
  obtain ⟨h1, h⟩ := He.ba h
  obtain ⟨h2, h⟩ := He.ba h
  obtain ⟨h3, h4⟩ := He.ba h
  exact ⟨of_decide_eq_true h1, of_decide_eq_true h2, of_decide_eq_true h3, of_decide_eq_true h4⟩
end Sf

namespace Sf
open PySem PySem.Spec PyProof.Rows L2
theorem sq_low {a b n : Int} {e r : Q5} (h : Low5 e r) (d0 : e.d ≠ 0) : [(prodQ a b r r).w, (prodQ a b r r).x, (prodQ a b r r).y, (prodQ a b r r).z] = [n * r.d * r.d, 0, 0, 0] ↔ Cross (prodQ a b e e) (sclQ n 1 uQ) := by
  have rd : r.d ≠ 0 := by have := h.1; omega
  have pd : (prodQ a b r r).d ≠ 0 := Int.mul_ne_zero rd rd
  have pe : (prodQ a b e e).d ≠ 0 := Int.mul_ne_zero d0 d0
  have c : Cross (prodQ a b e e) (prodQ a b r r) := (cross_prod h.cross).trans (cross_prod1 h.cross) (Int.mul_ne_zero rd d0)
  have k : Cross (prodQ a b e e) (sclQ n 1 uQ) ↔ Cross (prodQ a b r r) (sclQ n 1 uQ) := ⟨fun g => c.symm.trans g pe, fun g => c.trans g pd⟩
  rw [k]
  have e1 : (sclQ n 1 uQ).w = n ∧ (sclQ n 1 uQ).x = 0 ∧ (sclQ n 1 uQ).y = 0 ∧ (sclQ n 1 uQ).z = 0 ∧ (sclQ n 1 uQ).d = 1 := by
    unfold sclQ uQ
    refine ⟨?_, ?_, ?_, ?_, ?_⟩ <;> dsimp only <;> omega
  obtain ⟨e1, e2, e3, e4, e5⟩ := e1
  unfold Cross
  rw [e1, e2, e3, e4, e5]
  have e6 : (prodQ a b r r).d = r.d * r.d := rfl
  rw [e6]
  simp only [Int.mul_one, Int.zero_mul, List.cons.injEq, and_true, Int.mul_assoc]
section
variable {P : Program} {w : World} {K : PySem.W.Frag} {mg : Str → Option Value} {base : Heap} {f : Addr} {fd : FuncData} {CR CA CF : Addr}
structure SqP (CF CR CA : Addr) (vs : List V) (H : Hp) (Q : VK) : Prop where
  ex : ∃ (be x al : Addr) (a b n : Int) (e : Q5) (m : Nat), vs = [.ref be, .ref x, .int n] ∧ AlgAt CA H be a b ∧ a.natAbs < 2 ^ 10 ∧ b.natAbs < 2 ^ 10 ∧ n.natAbs < 2 ^ 20 ∧ Wo CF CR H x al a b e m ∧ m ≤ 1400 ∧
    ∀ (r : Bool) (H' : Hp), Same H H' → (r = true ↔ Cross (prodQ a b e e) (sclQ n 1 uQ)) → Q (.bl r) H'
def spSq (CF CR CA : Addr) : Sp := fun vs H Q _ => SqP CF CR CA vs H Q
theorem ok_squares_to (F : FnD K "_law_squares_to" "_law_squares_to" s_L_squares_to f fd) (R : FourK K CF) (RA : AlgK K CA) (C_L_times : Cal P w K mg base 1 "_law_times" ["_law_a", "_law_b", "_law_one", "_law_other"] spLTimes) : FnOk P w K mg base CX0 2 f fd ["_law_algebra", "_law_four", "_law_number"] (spSq CF CR CA) := by
  refine F.ok sc_L_squares_to (fun vs H Q E h => ?_) (fun cdv A outer s H vs Q E hr h => ?_)
  · obtain ⟨be, x, al, a, b, n, e, m, rfl, _⟩ := h.ex; rfl
  · obtain ⟨be, x, al, a, b, n, e, m, rfl, hB, ba, bb, bn, hx, hm, q⟩ := h.ex
    refine ⟨_, PSs.nox (pss_cons (ps_set (i := 3) sc_L_squares_to.nd rfl (Or.inl rfl) (pe_fld (pv 1) rfl))
      (pss_one (ps_ret (pe_cmpR (op_eqD hr.units) (pe_cal C_L_times (hr.mono (by decide)) (pa_cons (pe_fld (pv 0) rfl) (pa_cons (pe_fld (pv 0) rfl) (pa_cons (pv 3) (pa_cons (pv 3) pa_nil))))) (pe_tup (pa_cons (pe_op op_mulW (pe_op op_mulW (pv 2) (pe_fld (pv 1) rfl)) (pe_fld (pv 1) rfl)) (pa_cons pe_int (pa_cons pe_int (pa_cons pe_int pa_nil))))) (nomark _))))), ?_⟩
    obtain ⟨r, hF, hl, hb⟩ := id hx.ex
    obtain ⟨dB, pl, l, gB, _⟩ := hB.ex
    obtain ⟨dx, ex, tr, nm, t1, t2, n1, n2, gx, ux, _⟩ := hF.ex
    refine ⟨_, rfl, x, CF, dx, _, .ref ex, rfl, gx, R.own.cls, R.n2, rfl, ?_⟩
    refine ⟨_, rfl, be, CA, dB, _, .int a, rfl, gB, RA.own.cls, RA.n2, rfl, _, rfl, be, CA, dB, _, .int b, rfl, gB, RA.own.cls, RA.n3, rfl, _, rfl, _, rfl, ⟨ex, ex, a, b, r, r, rfl, ux, ux, lt_mono ba (by decide), lt_mono bb (by decide), bd_mono hb hm, bd_mono hb hm, fun t ht => ?_⟩⟩
    have s1 := same_upd (o := .tup (ents (prodQ a b r r))) ht
    have bd := lt_mono hb.2.2.2.2 hm
    refine ⟨_, rfl, _, rfl, x, CF, dx, _, .int r.d, rfl, s1 _ _ gx, R.own.cls, R.n3, rfl, _, _, rfl, rfl, wmul bn bd (by decide) (by decide) (by decide), _, rfl, x, CF, dx, _, .int r.d, rfl, s1 _ _ gx, R.own.cls, R.n3, rfl, _, _, rfl, rfl, wmul (wide_lt bn bd) bd (by decide) (by decide) (by decide), (by show 4 ≤ sizeLine; decide), fun t2 ht2 => ?_⟩
    have s2 := same_upd (o := .tup [.int (n * r.d * r.d), .int 0, .int 0, .int 0]) ht2
    refine ⟨.tuple ([(prodQ a b r r).w, (prodQ a b r r).x, (prodQ a b r r).y, (prodQ a b r r).z].map PyData.int), .tuple ([n * r.d * r.d, 0, 0, 0].map PyData.int), dp_tup (ns := [(prodQ a b r r).w, (prodQ a b r r).x, (prodQ a b r r).y, (prodQ a b r r).z]) (SqT.of (s2 _ _ upd_same)), dp_tup (ns := [n * r.d * r.d, 0, 0, 0]) (SqT.of upd_same), shp_tup _, shp_tup _, ?_⟩
    rw [eqv_tups']
    exact q _ _ (s1.trans s2) (by rw [decide_eq_true_iff]; exact sq_low hl hx.d0)
end
end Sf

namespace Sf
open PySem PySem.Spec PyProof.Rows L2
/-- a value that is judged to be a root paper of n in the algebra of a and b, and when it is one -/
inductive PapB (K : PySem.W.Frag) (CF CR CA : Addr) (a b n : Int) (H : Hp) : V → Prop → Prop
  | out {v : V} (h : NoTup H v) : PapB K CF CR CA a b n H v False
  | len {t : Addr} {ys : List V} (h : H t = some (.tup ys)) (l : ys.length ≠ 2) : PapB K CF CR CA a b n H (.ref t) False
  | noword {t : Addr} {x y : V} {T : Value} (h : H t = some (.tup [x, y])) (ty : TyX K H x T) (k : PySem.W.kitOne K T (.type "str") = some false) : PapB K CF CR CA a b n H (.ref t) False
  | other {t : Addr} {s : Str} {y : V} (h : H t = some (.tup [.str s, y])) (n1 : s ≠ (("root" : String) : Str)) (n2 : s ≠ (("place" : String) : Str)) : PapB K CF CR CA a b n H (.ref t) False
  | root {t x al : Addr} {e : Q5} {m : Nat} (h : H t = some (.tup [.str "root", .ref x])) (w : Wo CF CR H x al a b e m) (hA : AlgAt CA H al a b) (hm : m ≤ 1400) : PapB K CF CR CA a b n H (.ref t) (Cross (prodQ a b e e) (sclQ n 1 uQ))
  | noroot {t : Addr} {y : V} (h : H t = some (.tup [.str "root", y])) (f : FourB CF CR CA a b H y false) : PapB K CF CR CA a b n H (.ref t) False
  | place {t : Addr} {p : Int} (h : H t = some (.tup [.str "place", .int p])) : PapB K CF CR CA a b n H (.ref t) (((p = 0 ∨ PrP p) ∧ HSign a b p (-1)) ∧ SqAt n p true)
  | noplace {t : Addr} {y : V} (h : H t = some (.tup [.str "place", y])) (i : IntB K H y false) : PapB K CF CR CA a b n H (.ref t) False
theorem str_ne : (("place" : String) : Str) ≠ (("root" : String) : Str) := by decide +kernel
theorem kit_str : kitB "str" "str" = some true := by decide +kernel
theorem kit_tup2 : kitB "tuple" "tuple" = some true := by decide +kernel
theorem flat_ints (l : List Int) : (l.map V.int).all flatV = true := by
  rw [List.all_map, List.all_eq_true]
  intro x _
  rfl
theorem sqL_mem {n p : Int} {l : List Int} : p ∈ sqL n l ↔ p ∈ l ∧ SqAt n p true := by
  classical
  unfold sqL sqB
  rw [List.mem_filter, decide_eq_true_iff]
section
variable {P : Program} {w : World} {K : PySem.W.Frag} {mg : Str → Option Value} {base : Heap} {f : Addr} {fd : FuncData} {CR CA CF : Addr}
structure PapP (K : PySem.W.Frag) (CF CR CA : Addr) (vs : List V) (H : Hp) (Q : VK) : Prop where
  ex : ∃ (al : Addr) (a b n : Int) (v : V) (R : Prop), vs = [.ref al, .int n, v] ∧ AlgAt CA H al a b ∧ a.natAbs < 2 ^ 10 ∧ b.natAbs < 2 ^ 10 ∧ NoSq n ∧ PapB K CF CR CA a b n H v R ∧ ∀ (r : Bool) (H' : Hp), Same H H' → (r = true ↔ R) → Q (.bl r) H'
def spPap (K : PySem.W.Frag) (CF CR CA : Addr) : Sp := fun vs H Q _ => PapP K CF CR CA vs H Q
set_option maxHeartbeats 8000000 in
theorem ok_is_root_paper (F : FnD K "is_root_paper" "is_root_paper" s_P_is_root_paper f fd) (T : Glob mg) (RA : AlgK K CA) (C_P_check_root : Cal P w K mg base 2 "check_root" ["algebra", "number"] (spChkR CA)) (C_P_is_four_of : Cal P w K mg base 2 "is_four_of" ["algebra", "value"] (spIsFourOf CF CR CA)) (C_P_is_root : Cal P w K mg base 11 "is_root" ["four", "number"] (spRoot CF CR CA)) (C_P_is_integer : Cal P w K mg base 1 "is_integer" ["value"] (spIsInt K)) (C_P_square_places : Cal P w K mg base 5 "square_places" ["places", "number"] spSqPl) :
    FnOk P w K mg base CX0 12 f fd ["algebra", "number", "value"] (spPap K CF CR CA) := by
  refine F.ok sc_P_is_root_paper (fun vs H Q E h => ?_) (fun cdv A outer s H vs Q E hr h => ?_)
  · obtain ⟨al, a, b, n, v, R, rfl, _⟩ := h.ex; rfl
  · obtain ⟨al, a, b, n, v, R, rfl, hA, ba, bb, hn, hv, q⟩ := h.ex
    refine ⟨_, PSs.nox (pss_cons (ps_expr (pe_cal C_P_check_root (hr.mono (by decide)) (pa_cons (pv 0) (pa_cons (pv 1) pa_nil))))
      (pss_cons (ps_if (PW.pt (pw_or (pt_not (pt_val (pe_callB call_isi (by rfl) T.m_isinstance (by decide +kernel) (pa_cons (pv 2) (pa_cons (pe_bltn (v := .ty "tuple") (u := .type "tuple") (by rfl) T.m_tuple (by decide +kernel) rfl) pa_nil))))) (pw_or1 (pt_cmp (pc_neI (pe_callB call_len_seq (by rfl) T.m_len (by decide +kernel) (pa_cons (pv 2) pa_nil)) pe_int))))) (pss_one (ps_ret pe_bl)) pss_nil)
      (pss_cons (ps_asg (pv 2) (pg_tup (by rfl) (pgs_cons (pg_name (i := 3) sc_P_is_root_paper.nd rfl (Or.inl rfl)) (pgs_cons (pg_name (i := 4) sc_P_is_root_paper.nd rfl (Or.inl rfl)) pgs_nil))))
      (pss_cons (ps_if (pt_not (pt_val (pe_callB call_isi (by rfl) T.m_isinstance (by decide +kernel) (pa_cons (pv 3) (pa_cons (pe_bltn (v := .ty "str") (u := .type "str") (by rfl) T.m_str (by decide +kernel) rfl) pa_nil))))) (pss_one (ps_ret pe_bl)) pss_nil)
      (pss_cons (ps_if (pt_cmpR op_eq (pv 3) pe_str (nomark _)) (pss_one (ps_ret (pe_and (pe_cal C_P_is_four_of (hr.mono (by decide)) (pa_cons (pv 0) (pa_cons (pv 4) pa_nil))) (pe_one (pe_cal C_P_is_root (hr.mono (by decide)) (pa_cons (pv 4) (pa_cons (pv 1) pa_nil))))))) pss_nil)
      (pss_one (ps_ret (pe_and (pe_cmpR op_eq (pv 3) pe_str (nomark _)) (pe_and (pe_cal C_P_is_integer (hr.mono (by decide)) (pa_cons (pv 4) pa_nil)) (pe_one (pe_cmpR op_in_seq (pv 4) (pe_cal C_P_square_places (hr.mono (by decide)) (pa_cons (pe_fld (pv 0) rfl) (pa_cons (pv 1) pa_nil))) (by rfl)))))))))))), ?_⟩
    have no : ¬ R → ∀ H', Same H H' → Q (.bl false) H' := fun h H' s => q false H' s ⟨fun z => Bool.noConfusion z, fun z => absurd z h⟩
    have a4 : a.natAbs ≤ 10000 := by omega
    have b4 : b.natAbs ≤ 10000 := by omega
    refine ⟨_, rfl, _, rfl, al, a, b, n, rfl, hA, a4, b4, hn, ?_⟩
    have open2 : ∀ {t : Addr} {x y : V}, v = .ref t → H t = some (.tup [x, y]) → True := fun _ _ => trivial
    cases hv with
    | out g =>
      obtain ⟨t, h1, h2⟩ := g.kit (K := K)
      exact ⟨_, rfl, _, .ty "tuple", _, _, false, rfl, .ty "tuple", h1, h2, _, rfl, no id _ (Same.refl _)⟩
    | @len t ys g l =>
      refine ⟨_, rfl, _, .ty "tuple", _, _, true, rfl, .ty "tuple", .base (.tup g), kit_tup2, _, rfl, ?_⟩
      refine ⟨_, rfl, t, _, rfl, .inr (SqT.of g), _, _, rfl, rfl, _, rfl, ?_⟩
      exact ifn (fun _ => no id _ (Same.refl _)) (fun z => absurd z (by omega))
    | @noword t x y U g ty k =>
      refine ⟨_, rfl, _, .ty "tuple", _, _, true, rfl, .ty "tuple", .base (.tup g), kit_tup2, _, rfl, ?_⟩
      refine ⟨_, rfl, t, _, rfl, .inr (SqT.of g), _, _, rfl, rfl, _, rfl, ifn (fun z => absurd rfl z) (fun _ => ?_)⟩
      refine ⟨_, rfl, t, _, rfl, .inl (.inl g), rfl, _, _, rfl, _, _, rfl, rfl, ?_⟩
      refine ⟨_, rfl, _, .ty "str", _, _, false, rfl, .ty "str", ty, k, ?_⟩
      exact ⟨_, rfl, no id _ (Same.refl _)⟩
    | @other t s y g n1 n2 =>
      refine ⟨_, rfl, _, .ty "tuple", _, _, true, rfl, .ty "tuple", .base (.tup g), kit_tup2, _, rfl, ?_⟩
      refine ⟨_, rfl, t, _, rfl, .inr (SqT.of g), _, _, rfl, rfl, _, rfl, ifn (fun z => absurd rfl z) (fun _ => ?_)⟩
      refine ⟨_, rfl, t, _, rfl, .inl (.inl g), rfl, _, _, rfl, _, _, rfl, rfl, ?_⟩
      refine ⟨_, rfl, _, .ty "str", _, _, true, rfl, .ty "str", .base (.str _), kit_str, _, rfl, (if_neg (by decide)).mpr ?_⟩
      refine ⟨_, rfl, rfl, _, rfl, (if_neg (by rw [decide_eq_false (fun z => n1 (V.str.inj z))]; decide)).mpr ?_⟩
      refine ⟨_, rfl, rfl, _, rfl, (if_neg (by rw [decide_eq_false (fun z => n2 (V.str.inj z))]; decide)).mpr ?_⟩
      exact no id _ (Same.refl _)
    | @root t x al2 e m g wx hA2 hm =>
      refine ⟨_, rfl, _, .ty "tuple", _, _, true, rfl, .ty "tuple", .base (.tup g), kit_tup2, _, rfl, ?_⟩
      refine ⟨_, rfl, t, _, rfl, .inr (SqT.of g), _, _, rfl, rfl, _, rfl, ifn (fun z => absurd rfl z) (fun _ => ?_)⟩
      refine ⟨_, rfl, t, _, rfl, .inl (.inl g), rfl, _, _, rfl, _, _, rfl, rfl, ?_⟩
      refine ⟨_, rfl, _, .ty "str", _, _, true, rfl, .ty "str", .base (.str _), kit_str, _, rfl, (if_neg (by decide)).mpr ?_⟩
      refine ⟨_, rfl, rfl, _, rfl, (if_pos (decide_eq_true rfl)).mpr ?_⟩
      refine ⟨_, rfl, _, rfl, al, a, b, .ref x, true, rfl, hA, .yes wx hA2, fun H1 e1 => ⟨_, rfl, (if_pos rfl).mpr ?_⟩⟩
      have hn2 := hn.2.1
      exact ⟨_, rfl, _, rfl, x, al2, a, b, n, e, m, rfl, hA2.same e1, ba, bb, by omega, wx.same e1, hm, fun r H2 e2 hr => q r H2 (e1.trans e2) hr⟩
    | @noroot t y g hf =>
      refine ⟨_, rfl, _, .ty "tuple", _, _, true, rfl, .ty "tuple", .base (.tup g), kit_tup2, _, rfl, ?_⟩
      refine ⟨_, rfl, t, _, rfl, .inr (SqT.of g), _, _, rfl, rfl, _, rfl, ifn (fun z => absurd rfl z) (fun _ => ?_)⟩
      refine ⟨_, rfl, t, _, rfl, .inl (.inl g), rfl, _, _, rfl, _, _, rfl, rfl, ?_⟩
      refine ⟨_, rfl, _, .ty "str", _, _, true, rfl, .ty "str", .base (.str _), kit_str, _, rfl, (if_neg (by decide)).mpr ?_⟩
      refine ⟨_, rfl, rfl, _, rfl, (if_pos (decide_eq_true rfl)).mpr ?_⟩
      exact ⟨_, rfl, _, rfl, al, a, b, y, false, rfl, hA, hf, fun H1 e1 => ⟨_, rfl, (if_neg (by decide)).mpr (no id _ e1)⟩⟩
    | @place t p g =>
      refine ⟨_, rfl, _, .ty "tuple", _, _, true, rfl, .ty "tuple", .base (.tup g), kit_tup2, _, rfl, ?_⟩
      refine ⟨_, rfl, t, _, rfl, .inr (SqT.of g), _, _, rfl, rfl, _, rfl, ifn (fun z => absurd rfl z) (fun _ => ?_)⟩
      refine ⟨_, rfl, t, _, rfl, .inl (.inl g), rfl, _, _, rfl, _, _, rfl, rfl, ?_⟩
      refine ⟨_, rfl, _, .ty "str", _, _, true, rfl, .ty "str", .base (.str _), kit_str, _, rfl, (if_neg (by decide)).mpr ?_⟩
      refine ⟨_, rfl, rfl, _, rfl, (if_neg (by rw [decide_eq_false (fun z => str_ne (V.str.inj z))]; decide)).mpr ?_⟩
      refine ⟨_, rfl, rfl, _, rfl, (if_pos (decide_eq_true rfl)).mpr ?_⟩
      refine ⟨_, rfl, .int p, true, rfl, .int p, _, rfl, (if_pos rfl).mpr ?_⟩
      obtain ⟨dA, pl, l, g1, g2, hP, a0, b0, _⟩ := hA.ex
      have few := places_few hP a0 b0 a4 b4
      have hn2 := hn.2.1
      refine ⟨_, rfl, _, rfl, al, CA, dA, _, .ref pl, rfl, g1, RA.own.cls, RA.n1, rfl, _, rfl, pl, l, n, rfl, g2, by omega, hn.1, by omega, fun k hk => ?_, fun D H' e1 hD => ?_⟩
      · have hle := place_le4 hP a0 b0 a4 b4 hk
        obtain ⟨k1, _⟩ := (hP.2 k).mp hk
        exact k1.imp id fun k => ⟨k, by omega⟩
      · refine ⟨D, _, rfl, .inl (SqL.of hD), rfl, flat_ints _, ?_⟩
        have z := q (decide (p ∈ sqL n l)) H' e1 (by rw [decide_eq_true_iff, sqL_mem, hP.2 p])
        rw [← inV_ints] at z
        exact z
    | @noplace t y g hi =>
      refine ⟨_, rfl, _, .ty "tuple", _, _, true, rfl, .ty "tuple", .base (.tup g), kit_tup2, _, rfl, ?_⟩
      refine ⟨_, rfl, t, _, rfl, .inr (SqT.of g), _, _, rfl, rfl, _, rfl, ifn (fun z => absurd rfl z) (fun _ => ?_)⟩
      refine ⟨_, rfl, t, _, rfl, .inl (.inl g), rfl, _, _, rfl, _, _, rfl, rfl, ?_⟩
      refine ⟨_, rfl, _, .ty "str", _, _, true, rfl, .ty "str", .base (.str _), kit_str, _, rfl, (if_neg (by decide)).mpr ?_⟩
      refine ⟨_, rfl, rfl, _, rfl, (if_neg (by rw [decide_eq_false (fun z => str_ne (V.str.inj z))]; decide)).mpr ?_⟩
      refine ⟨_, rfl, rfl, _, rfl, (if_pos (decide_eq_true rfl)).mpr ?_⟩
      exact ⟨_, rfl, y, false, rfl, hi, _, rfl, (if_neg (by decide)).mpr (no id _ (Same.refl _))⟩
end
end Sf

namespace Sf
open PySem PySem.Spec PyProof.Rows L2
section
variable {P : Program} {w : World} {K : PySem.W.Frag} {mg : Str → Option Value} {base : Heap} {f : Addr} {fd : FuncData} {CR CA CF : Addr}
set_option maxHeartbeats 8000000 in
theorem ok_is_due (F : FnD K "_law_is_due" "_law_is_due" s_L_is_due f fd) (T : Glob mg) (R : FourK K CF) (RA : AlgK K CA) (G_Four : mg "Four" = some (.ref CF)) (O_Algebra : OwnK K CA) (M_Algebra_eq : CalM P w K mg base 1 "__eq__" CA ["self", "value"] (spAlgEq CA)) (C_L_squares_to : Cal P w K mg base 2 "_law_squares_to" ["_law_algebra", "_law_four", "_law_number"] (spSq CF CR CA)) (C_L_places : Cal P w K mg base 3 "_law_places" ["_law_a", "_law_b"] spLPl) (C_L_is_local_square : Cal P w K mg base 2 "_law_is_local_square" ["_law_number", "_law_place"] spSqAt) :
    FnOk P w K mg base CX0 4 f fd ["_law_algebra", "_law_number", "_law_value"] (spPap K CF CR CA) := by
  refine F.ok sc_L_is_due (fun vs H Q E h => ?_) (fun cdv A outer s H vs Q E hr h => ?_)
  · obtain ⟨al, a, b, n, v, R, rfl, _⟩ := h.ex; rfl
  · obtain ⟨al, a, b, n, v, R', rfl, hA, ba, bb, hn, hv, q⟩ := h.ex
    refine ⟨_, PSs.nox (pss_cons (ps_if (PW.pt (pw_or (pt_not (pt_val (pe_callB call_isi (by rfl) T.m_isinstance (by decide +kernel) (pa_cons (pv 2) (pa_cons (pe_bltn (v := .ty "tuple") (u := .type "tuple") (by rfl) T.m_tuple (by decide +kernel) rfl) pa_nil))))) (pw_or (pt_cmp (pc_neI (pe_callB call_len_seq (by rfl) T.m_len (by decide +kernel) (pa_cons (pv 2) pa_nil)) pe_int)) (pw_or1 (pt_not (pt_val (pe_callB call_isi (by rfl) T.m_isinstance (by decide +kernel) (pa_cons (pe_ix ix_tup (pv 2) pe_int (fun _ _ => rfl)) (pa_cons (pe_bltn (v := .ty "str") (u := .type "str") (by rfl) T.m_str (by decide +kernel) rfl) pa_nil))))))))) (pss_one (ps_ret pe_bl)) pss_nil)
      (pss_cons (ps_if (pt_cmpR op_eq (pe_ix ix_tup (pv 2) pe_int (fun _ _ => rfl)) pe_str (nomark _)) (pss_cons (ps_if (PW.pt (pw_or (pt_not (pt_val (pe_callB call_isi (by rfl) T.m_isinstance (by decide +kernel) (pa_cons (pe_ix ix_tup (pv 2) pe_int (fun _ _ => rfl)) (pa_cons (pe_glob (v := .ref _) rfl G_Four rfl) pa_nil))))) (pw_or1 (pt_cmpR (ne_own M_Algebra_eq.me M_Algebra_eq.ok (hr.mono (by decide)) M_Algebra_eq.b pass0 O_Algebra.ne O_Algebra.mo) (pe_fld (pe_ix ix_tup (pv 2) pe_int (fun _ _ => rfl)) rfl) (pv 0) (nomark _))))) (pss_one (ps_ret pe_bl)) pss_nil)
      (pss_one (ps_ret (pe_cal C_L_squares_to (hr.mono (by decide)) (pa_cons (pv 0) (pa_cons (pe_ix ix_tup (pv 2) pe_int (fun _ _ => rfl)) (pa_cons (pv 1) pa_nil))))))) pss_nil)
      (pss_cons (ps_if (PW.pt (pw_or (pt_cmpR op_ne (pe_ix ix_tup (pv 2) pe_int (fun _ _ => rfl)) pe_str (nomark _)) (pw_or (pt_not (pt_val (pe_callB call_isi (by rfl) T.m_isinstance (by decide +kernel) (pa_cons (pe_ix ix_tup (pv 2) pe_int (fun _ _ => rfl)) (pa_cons (pe_bltn (v := .ty "int") (u := .type "int") (by rfl) T.m_int (by decide +kernel) rfl) pa_nil))))) (pw_or1 (pt_val (pe_callB call_isi (by rfl) T.m_isinstance (by decide +kernel) (pa_cons (pe_ix ix_tup (pv 2) pe_int (fun _ _ => rfl)) (pa_cons (pe_bltn (v := .ty "bool") (u := .type "bool") (by rfl) T.m_bool (by decide +kernel) rfl) pa_nil)))))))) (pss_one (ps_ret pe_bl)) pss_nil)
      (pss_one (ps_ret (pe_and (pe_cmpR op_in_seq (pe_ix ix_tup (pv 2) pe_int (fun _ _ => rfl)) (pe_cal C_L_places (hr.mono (by decide)) (pa_cons (pe_fld (pv 0) rfl) (pa_cons (pe_fld (pv 0) rfl) pa_nil))) (by rfl)) (pe_one (pe_cal C_L_is_local_square (hr.mono (by decide)) (pa_cons (pv 1) (pa_cons (pe_ix ix_tup (pv 2) pe_int (fun _ _ => rfl)) pa_nil)))))))))), ?_⟩
    have no : ¬ R' → ∀ H', Same H H' → Q (.bl false) H' := fun h H' s => q false H' s ⟨fun z => Bool.noConfusion z, fun z => absurd z h⟩
    cases hv with
    | out g =>
      obtain ⟨t, h1, h2⟩ := g.kit (K := K)
      exact ⟨_, rfl, _, .ty "tuple", _, _, false, rfl, .ty "tuple", h1, h2, _, rfl, no id _ (Same.refl _)⟩
    | @len t ys g l =>
      refine ⟨_, rfl, _, .ty "tuple", _, _, true, rfl, .ty "tuple", .base (.tup g), kit_tup2, _, rfl, ?_⟩
      refine ⟨_, rfl, t, _, rfl, .inr (SqT.of g), _, _, rfl, rfl, _, rfl, ?_⟩
      exact ifn (fun _ => no id _ (Same.refl _)) (fun z => absurd z (by omega))
    | @noword t x y U g ty k =>
      refine ⟨_, rfl, _, .ty "tuple", _, _, true, rfl, .ty "tuple", .base (.tup g), kit_tup2, _, rfl, ?_⟩
      refine ⟨_, rfl, t, _, rfl, .inr (SqT.of g), _, _, rfl, rfl, _, rfl, ifn (fun z => absurd rfl z) (fun _ => ?_)⟩
      refine ⟨_, rfl, t, _, 0, x, rfl, rfl, SqT.of g, rfl, _, .ty "str", _, _, false, rfl, .ty "str", ty, k, ?_⟩
      exact ⟨_, rfl, no id _ (Same.refl _)⟩
    | @other t s y g n1 n2 =>
      refine ⟨_, rfl, _, .ty "tuple", _, _, true, rfl, .ty "tuple", .base (.tup g), kit_tup2, _, rfl, ?_⟩
      refine ⟨_, rfl, t, _, rfl, .inr (SqT.of g), _, _, rfl, rfl, _, rfl, ifn (fun z => absurd rfl z) (fun _ => ?_)⟩
      refine ⟨_, rfl, t, _, 0, .str s, rfl, rfl, SqT.of g, rfl, _, .ty "str", _, _, true, rfl, .ty "str", .base (.str _), kit_str, _, rfl, (if_neg (by decide)).mpr ?_⟩
      refine ⟨_, rfl, t, _, 0, .str s, rfl, rfl, SqT.of g, rfl, ?_⟩
      refine ⟨rfl, _, rfl, (if_neg (by rw [decide_eq_false (fun z => n1 (V.str.inj z))]; decide)).mpr ?_⟩
      refine ⟨_, rfl, t, _, 0, .str s, rfl, rfl, SqT.of g, rfl, ?_⟩
      refine ⟨rfl, _, rfl, (if_pos (by rw [decide_eq_false (fun z => n2 (V.str.inj z))]; rfl)).mpr ?_⟩
      exact no id _ (Same.refl _)
    | @root t x al2 e m g wx hA2 hm =>
      refine ⟨_, rfl, _, .ty "tuple", _, _, true, rfl, .ty "tuple", .base (.tup g), kit_tup2, _, rfl, ?_⟩
      refine ⟨_, rfl, t, _, rfl, .inr (SqT.of g), _, _, rfl, rfl, _, rfl, ifn (fun z => absurd rfl z) (fun _ => ?_)⟩
      refine ⟨_, rfl, t, _, 0, .str "root", rfl, rfl, SqT.of g, rfl, _, .ty "str", _, _, true, rfl, .ty "str", .base (.str _), kit_str, _, rfl, (if_neg (by decide)).mpr ?_⟩
      refine ⟨_, rfl, t, _, 0, .str "root", rfl, rfl, SqT.of g, rfl, ?_⟩
      refine ⟨rfl, _, rfl, (if_pos (decide_eq_true rfl)).mpr ?_⟩
      obtain ⟨dz, ez, trz, nmz, rz, gz, _⟩ := wx.fld
      have hn2 := hn.2.1
      refine ⟨_, rfl, t, _, 1, .ref x, rfl, rfl, SqT.of g, rfl, _, .ref CF, _, _, true, rfl, .own CF, R.own.ty wx.ins, R.own.kk, _, rfl, (if_neg (by decide)).mpr ?_⟩
      refine ⟨_, rfl, t, _, 1, .ref x, rfl, rfl, SqT.of g, rfl, x, CF, dz, _, .ref al2, rfl, gz, R.own.cls, R.n1, rfl, _, rfl, al2, al, rfl, rfl, hA2.ins, hA.ins, ⟨al2, al, a, b, a, b, rfl, hA2, hA, true, by simp, true, rfl, _, rfl, (if_neg (by decide)).mpr ?_⟩⟩
      exact ⟨_, rfl, _, rfl, t, _, 1, .ref x, rfl, rfl, SqT.of g, rfl, _, rfl, al, x, al2, a, b, n, e, m, rfl, hA, ba, bb, by omega, wx, hm, fun r H2 e2 hr => q r H2 e2 hr⟩
    | @noroot t y g hf =>
      refine ⟨_, rfl, _, .ty "tuple", _, _, true, rfl, .ty "tuple", .base (.tup g), kit_tup2, _, rfl, ?_⟩
      refine ⟨_, rfl, t, _, rfl, .inr (SqT.of g), _, _, rfl, rfl, _, rfl, ifn (fun z => absurd rfl z) (fun _ => ?_)⟩
      refine ⟨_, rfl, t, _, 0, .str "root", rfl, rfl, SqT.of g, rfl, _, .ty "str", _, _, true, rfl, .ty "str", .base (.str _), kit_str, _, rfl, (if_neg (by decide)).mpr ?_⟩
      refine ⟨_, rfl, t, _, 0, .str "root", rfl, rfl, SqT.of g, rfl, ?_⟩
      refine ⟨rfl, _, rfl, (if_pos (decide_eq_true rfl)).mpr ?_⟩
      cases hf with
      | @strange x be c d q2 m wx hB ne =>
        obtain ⟨dz, ez, trz, nmz, rz, gz, _⟩ := wx.fld
        refine ⟨_, rfl, t, _, 1, .ref x, rfl, rfl, SqT.of g, rfl, _, .ref CF, _, _, true, rfl, .own CF, R.own.ty wx.ins, R.own.kk, _, rfl, (if_neg (by decide)).mpr ?_⟩
        refine ⟨_, rfl, t, _, 1, .ref x, rfl, rfl, SqT.of g, rfl, x, CF, dz, _, .ref be, rfl, gz, R.own.cls, R.n1, rfl, _, rfl, be, al, rfl, rfl, hB.ins, hA.ins, ⟨be, al, c, d, a, b, rfl, hB, hA, false, by simpa using ne, false, rfl, _, rfl, (if_pos (by decide)).mpr ?_⟩⟩
        exact no id _ (Same.refl _)
      | out hv =>
        refine ⟨_, rfl, t, _, 1, y, rfl, rfl, SqT.of g, rfl, _, .ref CF, _, _, false, rfl, .own CF, hv.tyx, hv.kit R.own.ki, _, rfl, (if_pos (by decide)).mpr ?_⟩
        exact no id _ (Same.refl _)
    | @place t p g =>
      refine ⟨_, rfl, _, .ty "tuple", _, _, true, rfl, .ty "tuple", .base (.tup g), kit_tup2, _, rfl, ?_⟩
      refine ⟨_, rfl, t, _, rfl, .inr (SqT.of g), _, _, rfl, rfl, _, rfl, ifn (fun z => absurd rfl z) (fun _ => ?_)⟩
      refine ⟨_, rfl, t, _, 0, .str "place", rfl, rfl, SqT.of g, rfl, _, .ty "str", _, _, true, rfl, .ty "str", .base (.str _), kit_str, _, rfl, (if_neg (by decide)).mpr ?_⟩
      refine ⟨_, rfl, t, _, 0, .str "place", rfl, rfl, SqT.of g, rfl, ?_⟩
      refine ⟨rfl, _, rfl, (if_neg (by rw [decide_eq_false (fun z => str_ne (V.str.inj z))]; decide)).mpr ?_⟩
      refine ⟨_, rfl, t, _, 0, .str "place", rfl, rfl, SqT.of g, rfl, rfl, _, rfl, (if_neg (by simp)).mpr ?_⟩
      refine ⟨_, rfl, t, _, 1, .int p, rfl, rfl, SqT.of g, rfl, _, .ty "int", _, _, true, rfl, .ty "int", .base (.int p), kit_ty (by decide +kernel), _, rfl, (if_neg (by decide)).mpr ?_⟩
      refine ⟨_, rfl, t, _, 1, .int p, rfl, rfl, SqT.of g, rfl, _, .ty "bool", _, _, false, rfl, .ty "bool", .base (.int p), kit_ty (by decide +kernel), _, rfl, (if_neg (by decide)).mpr ?_⟩
      obtain ⟨dA, pl, l0, g1, g2, hP, a0, b0, _⟩ := hA.ex
      refine ⟨_, rfl, t, _, 1, .int p, rfl, rfl, SqT.of g, rfl, _, rfl, al, CA, dA, _, .int a, rfl, g1, RA.own.cls, RA.n2, rfl, _, rfl, al, CA, dA, _, .int b, rfl, g1, RA.own.cls, RA.n3, rfl, ⟨a, b, rfl, a0, b0, by omega, by omega, fun l t2 H' hP hl e1 ht2 => ⟨t2, _, rfl, .inr (SqT.of ht2), rfl, flat_ints _, _, rfl, ?_⟩⟩⟩
      have hn2 := hn.2.1
      by_cases hm : p ∈ l
      · refine (if_pos (by rw [inV_ints]; simp [hm])).mpr ?_
        have hh := (hP.2 p).mp hm
        have hle := place_le4 hP a0 b0 (by omega) (by omega) hm
        refine ⟨_, rfl, _, rfl, t, _, 1, .int p, rfl, rfl, SqT.of (e1 _ _ g), rfl, n, p, rfl, hn.1, by omega, hh.1.imp id fun k => ⟨k, by omega⟩, fun r H2 hr e2 => q r H2 (e1.trans e2) ?_⟩
        constructor
        · intro z
          exact ⟨hh, z ▸ hr⟩
        · rintro ⟨_, z⟩
          exact sqAt_uni hh.1 hr z
      · refine (if_neg (by rw [inV_ints]; simp [hm])).mpr ?_
        exact no (fun z => hm ((hP.2 p).mpr z.1)) _ e1
    | @noplace t y g hi =>
      refine ⟨_, rfl, _, .ty "tuple", _, _, true, rfl, .ty "tuple", .base (.tup g), kit_tup2, _, rfl, ?_⟩
      refine ⟨_, rfl, t, _, rfl, .inr (SqT.of g), _, _, rfl, rfl, _, rfl, ifn (fun z => absurd rfl z) (fun _ => ?_)⟩
      refine ⟨_, rfl, t, _, 0, .str "place", rfl, rfl, SqT.of g, rfl, _, .ty "str", _, _, true, rfl, .ty "str", .base (.str _), kit_str, _, rfl, (if_neg (by decide)).mpr ?_⟩
      refine ⟨_, rfl, t, _, 0, .str "place", rfl, rfl, SqT.of g, rfl, ?_⟩
      refine ⟨rfl, _, rfl, (if_neg (by rw [decide_eq_false (fun z => str_ne (V.str.inj z))]; decide)).mpr ?_⟩
      refine ⟨_, rfl, t, _, 0, .str "place", rfl, rfl, SqT.of g, rfl, rfl, _, rfl, (if_neg (by simp)).mpr ?_⟩
      obtain ⟨U, bi, bb', ty, k1, k2, k3⟩ := hi
      refine ⟨_, rfl, t, _, 1, y, rfl, rfl, SqT.of g, rfl, _, .ty "int", _, _, bi, rfl, .ty "int", ty, k1, _, rfl, ?_⟩
      cases bi with
      | false => exact (if_pos (by decide)).mpr (no id _ (Same.refl _))
      | true =>
        refine (if_neg (by decide)).mpr ?_
        refine ⟨_, rfl, t, _, 1, y, rfl, rfl, SqT.of g, rfl, _, .ty "bool", _, _, bb', rfl, .ty "bool", ty, k2, _, rfl, ?_⟩
        cases bb' with
        | true => exact (if_pos rfl).mpr (no id _ (Same.refl _))
        | false => cases k3
end
end Sf

namespace Sf
open PySem PySem.Spec PyProof.Rows L2
theorem tup_new {H : Hp} {xs : List V} {Q : VK} (q : ∀ (t : Addr) (H' : Hp), Same H H' → H' t = some (.tup xs) → Q (.ref t) H') : ∀ p, H p = none → Q (.ref p) (upd H p (.tup xs)) := fun p hp => q p _ (same_upd hp) upd_same
theorem Wo.obj {CF CR x al : Addr} {H : Hp} {a b : Int} {e : Q5} {n : Nat} (h : Wo CF CR H x al a b e n) : ∃ (dx e1 tr nm : Addr) (bo : Int) (ir : Bool), H x = some (.ins CF dx [("algebra", .ref al), ("entries", .ref e1), ("bottom", .int bo), ("trace", .ref tr), ("norm", .ref nm), ("is_ratio", .bl ir)]) := let ⟨dx, e1, tr, nm, r, g, _⟩ := h.fld; ⟨dx, e1, tr, nm, r.d, _, g⟩
/-- things stay, but lists may change -/
def Kp (H H' : Hp) : Prop := ∀ c o, H c = some o → H' c = some o ∨ ((∃ xs, o = .lst xs) ∧ ∃ ys, H' c = some (.lst ys))
theorem Kp.same {H H' : Hp} (s : Same H H') : Kp H H' := fun c o h => .inl (s c o h)
theorem Kp.trans {H H1 H2 : Hp} (a : Kp H H1) (b : Kp H1 H2) : Kp H H2 := fun c o h => by
  rcases a c o h with g | ⟨l, ys, g⟩
  · exact b c o g
  · rcases b c _ g with g' | ⟨_, zs, g'⟩
    · exact .inr ⟨l, ys, g'⟩
    · exact .inr ⟨l, zs, g'⟩
theorem Kp.upd {H : Hp} {p : Addr} {xs ys : List V} (h : H p = some (.lst xs)) : Kp H (L2.upd H p (.lst ys)) := fun c o g => by
  by_cases e : c = p
  · subst e
    rw [h] at g
    cases g
    exact .inr ⟨⟨xs, rfl⟩, ys, upd_same⟩
  · exact .inl (by rw [upd_ne e]; exact g)
theorem Kp.keepL {p : Addr} {H H' : Hp} {xs ys : List V} (h : H p = some (.lst xs)) (h' : H' p = some (.lst ys)) (k : Keep p H H') : Kp H H' := fun c o g => by
  by_cases e : c = p
  · subst e
    rw [h] at g
    cases g
    exact .inr ⟨⟨xs, rfl⟩, ys, h'⟩
  · exact .inl (k c o g e)
theorem Kp.keep {p : Addr} {n m : Nat} {H H' : Hp} (s : Sk p n H) (s' : Sk p m H') (k : Keep p H H') : Kp H H' := fun c o g => by
  by_cases e : c = p
  · subst e
    obtain ⟨xs, h, _⟩ := s
    obtain ⟨ys, h', _⟩ := s'
    rw [h] at g
    cases g
    exact .inr ⟨⟨xs, rfl⟩, ys, h'⟩
  · exact .inl (k c o g e)
theorem Kp.at {H H' : Hp} {c : Addr} {o : HO} (k : Kp H H') (h : H c = some o) (n : ∀ xs, o ≠ .lst xs) : H' c = some o := by
  rcases k c o h with g | ⟨⟨xs, e⟩, _⟩
  · exact g
  · exact absurd e (n xs)
theorem Kp.lst {H H' : Hp} {c : Addr} {xs : List V} (k : Kp H H') (h : H c = some (.lst xs)) : ∃ ys, H' c = some (.lst ys) := by
  rcases k c _ h with g | ⟨_, ys, g⟩
  · exact ⟨xs, g⟩
  · exact ⟨ys, g⟩
section
variable {K : PySem.W.Frag} {CR CA CF p : Addr} {a b : Int} {H H' : Hp} {v : V} {n m : Nat}
theorem RatioAt.kp {x : Addr} {t b : Int} (h : RatioAt CR H x t b) (k : Kp H H') : RatioAt CR H' x t b := let ⟨dx, e⟩ := h; ⟨dx, k.at e (fun _ => HO.noConfusion)⟩
theorem AlgAt.kp {x : Addr} {a b : Int} (h : AlgAt CA H x a b) (k : Kp H H') : AlgAt CA H' x a b := by
  obtain ⟨dx, pl, l, h1, h2, h3⟩ := h.ex
  exact ⟨dx, pl, l, k.at h1 (fun _ => HO.noConfusion), k.at h2 (fun _ => HO.noConfusion), h3⟩
theorem FourAt.kp {x al : Addr} {a b : Int} {q : Q5} (h : FourAt CF CR H x al a b q) (k : Kp H H') : FourAt CF CR H' x al a b q := by
  obtain ⟨dx, e, tr, nm, t1, t2, n1, n2, h1, h2, h3, h4, h5, h6⟩ := h.ex
  exact ⟨⟨dx, e, tr, nm, t1, t2, n1, n2, k.at h1 (fun _ => HO.noConfusion), k.at h2 (fun _ => HO.noConfusion), h3.kp k, h4, h5.kp k, h6⟩, h.pos, h.low⟩
theorem Wo.kp {x al : Addr} {e : Q5} {n : Nat} (h : Wo CF CR H x al a b e n) (k : Kp H H') : Wo CF CR H' x al a b e n := let ⟨r, h1, h2, h3⟩ := h.ex; ⟨⟨r, h1.kp k, h2, h3⟩, h.d0⟩
theorem VB.kp {t : String} (h : VB H v t) (k : Kp H H') : VB H' v t := by
  cases h with
  | non => exact .non
  | int i => exact .int i
  | str x => exact .str x
  | tup h => exact .tup (k.at h (fun _ => HO.noConfusion))
  | lst h => exact .lst (k.lst h).choose_spec
theorem NoTup.kp (h : NoTup H v) (k : Kp H H') : NoTup H' v := by
  rcases h with h | h | h | ⟨c, e, ⟨xs, h⟩ | ⟨xs, h⟩⟩
  · exact .inl h
  · exact .inr (.inl h)
  · exact .inr (.inr (.inl h))
  · exact .inr (.inr (.inr ⟨c, e, .inl (k.lst h)⟩))
  · exact .inr (.inr (.inr ⟨c, e, .inr ⟨xs, k.at h (fun _ => HO.noConfusion)⟩⟩))
theorem FourB.kp {r : Bool} (h : FourB CF CR CA a b H v r) (k : Kp H H') : FourB CF CR CA a b H' v r := by
  cases h with
  | yes w hA => exact .yes (w.kp k) (hA.kp k)
  | strange w hB ne => exact .strange (w.kp k) (hB.kp k) ne
  | out h => exact .out (h.kp k)
/-- what is put in a place's place and is no integer -/
inductive NoI (CF CR : Addr) (a b : Int) (H : Hp) : V → Prop
  | four {x al : Addr} {e : Q5} {m : Nat} (w : Wo CF CR H x al a b e m) : NoI CF CR a b H (.ref x)
  | bl (i : Bool) : NoI CF CR a b H (.bl i)
  | str (s : Str) : NoI CF CR a b H (.str s)
  | non : NoI CF CR a b H .non
theorem NoI.kp (h : NoI CF CR a b H v) (k : Kp H H') : NoI CF CR a b H' v := by
  cases h with
  | four w => exact .four (w.kp k)
  | bl i => exact .bl i
  | str s => exact .str s
  | non => exact .non
theorem NoI.intB (h : NoI CF CR a b H v) (R : OwnK K CF) (O : OwnT K CF) : IntB K H v false := by
  cases h with
  | four w => exact ⟨.ref CF, false, false, R.ty w.ins, O.int, O.bool, rfl⟩
  | bl i => exact .bl i
  | str s => exact .str s
  | non => exact .non
/-- a value near a root paper in the algebra told by a and b -/
inductive NearR (CF CR CA : Addr) (a b : Int) (H : Hp) : V → Prop
  | out {v : V} (h : NoTup H v) : NearR CF CR CA a b H v
  | len {t : Addr} {ys : List V} (h : H t = some (.tup ys)) (l : ys.length ≠ 2) : NearR CF CR CA a b H (.ref t)
  | noword {t x al : Addr} {y : V} {e : Q5} {m : Nat} (h : H t = some (.tup [.ref x, y])) (w : Wo CF CR H x al a b e m) : NearR CF CR CA a b H (.ref t)
  | other {t : Addr} {s : Str} {y : V} (h : H t = some (.tup [.str s, y])) (n1 : s ≠ (("root" : String) : Str)) (n2 : s ≠ (("place" : String) : Str)) : NearR CF CR CA a b H (.ref t)
  | root {t x al : Addr} {e : Q5} {m : Nat} (h : H t = some (.tup [.str "root", .ref x])) (w : Wo CF CR H x al a b e m) (hA : AlgAt CA H al a b) (hm : m ≤ 1400) : NearR CF CR CA a b H (.ref t)
  | noroot {t : Addr} {y : V} (h : H t = some (.tup [.str "root", y])) (f : FourB CF CR CA a b H y false) : NearR CF CR CA a b H (.ref t)
  | place {t : Addr} {p : Int} (h : H t = some (.tup [.str "place", .int p])) : NearR CF CR CA a b H (.ref t)
  | noplace {t : Addr} {y : V} (h : H t = some (.tup [.str "place", y])) (i : NoI CF CR a b H y) : NearR CF CR CA a b H (.ref t)
theorem NearR.kp (h : NearR CF CR CA a b H v) (k : Kp H H') : NearR CF CR CA a b H' v := by
  cases h with
  | out h => exact .out (h.kp k)
  | len h l => exact .len (k.at h (fun _ => HO.noConfusion)) l
  | noword h w => exact .noword (k.at h (fun _ => HO.noConfusion)) (w.kp k)
  | other h n1 n2 => exact .other (k.at h (fun _ => HO.noConfusion)) n1 n2
  | root h w hA hm => exact .root (k.at h (fun _ => HO.noConfusion)) (w.kp k) (hA.kp k) hm
  | noroot h f => exact .noroot (k.at h (fun _ => HO.noConfusion)) (f.kp k)
  | place h => exact .place (k.at h (fun _ => HO.noConfusion))
  | noplace h i => exact .noplace (k.at h (fun _ => HO.noConfusion)) (i.kp k)
theorem NearR.papA (h : NearR CF CR CA a b H v) (R : OwnK K CF) (O : OwnT K CF) (n : Int) : ∃ J, ∀ H', Kp H H' → PapB K CF CR CA a b n H' v J := by
  cases h with
  | out h => exact ⟨_, fun H' k => .out (h.kp k)⟩
  | len h l => exact ⟨_, fun H' k => .len (k.at h (fun _ => HO.noConfusion)) l⟩
  | noword h w => exact ⟨_, fun H' k => .noword (k.at h (fun _ => HO.noConfusion)) (R.ty (w.kp k).ins) O.str⟩
  | other h n1 n2 => exact ⟨_, fun H' k => .other (k.at h (fun _ => HO.noConfusion)) n1 n2⟩
  | root h w hA hm => exact ⟨_, fun H' k => .root (k.at h (fun _ => HO.noConfusion)) (w.kp k) (hA.kp k) hm⟩
  | noroot h f => exact ⟨_, fun H' k => .noroot (k.at h (fun _ => HO.noConfusion)) (f.kp k)⟩
  | place h => exact ⟨_, fun H' k => .place (k.at h (fun _ => HO.noConfusion))⟩
  | noplace h i => exact ⟨_, fun H' k => .noplace (k.at h (fun _ => HO.noConfusion)) ((i.kp k).intB R O)⟩
/-- all things of a list are such values -/
def AllR (CF CR CA : Addr) (a b : Int) (H : Hp) (vs : List V) : Prop := ∀ v ∈ vs, NearR CF CR CA a b H v
theorem AllR.kp {vs : List V} (h : AllR CF CR CA a b H vs) (k : Kp H H') : AllR CF CR CA a b H' vs := fun v hv => (h v hv).kp k
theorem AllR.same {vs : List V} (h : AllR CF CR CA a b H vs) (s : Same H H') : AllR CF CR CA a b H' vs := h.kp (.same s)
theorem AllR.nil : AllR CF CR CA a b H [] := fun v hv => by simp at hv
theorem AllR.snoc {vs : List V} (h : AllR CF CR CA a b H vs) (g : NearR CF CR CA a b H v) : AllR CF CR CA a b H (vs ++ [v]) := fun u hu => by
  rcases List.mem_append.mp hu with c | c
  · exact h u c
  · rw [List.mem_singleton.mp c]; exact g
theorem AllR.append {vs ws : List V} (h : AllR CF CR CA a b H vs) (g : AllR CF CR CA a b H ws) : AllR CF CR CA a b H (vs ++ ws) := fun u hu => by
  rcases List.mem_append.mp hu with c | c
  · exact h u c
  · exact g u c
end
end Sf

namespace Sf
open PySem PySem.Spec PyProof.Rows L2
section
variable {P : Program} {w : World} {K : PySem.W.Frag} {mg : Str → Option Value} {base : Heap} {f : Addr} {fd : FuncData} {CR CA CF : Addr}
/-- what is put in a place's place -/
inductive PlV : V → Prop
  | int (i : Int) : PlV (.int i)
  | bl (b : Bool) : PlV (.bl b)
  | str (s : Str) : PlV (.str s)
  | non : PlV .non
theorem plv_told : ∀ v ∈ ([.int 0, .int 2, .int 3, .int 5, .int 7, .int 11, .int 13, .int 1, .int 4, .int (-1), .bl false, .str "2", .non, .int (10 ^ Int.toNat 60)] : List V), PlV v := fun v hv => by
  simp only [List.mem_cons, List.not_mem_nil, or_false] at hv
  rcases hv with rfl | rfl | rfl | rfl | rfl | rfl | rfl | rfl | rfl | rfl | rfl | rfl | rfl | rfl
  all_goals first | exact .int _ | exact .bl _ | exact .str _ | exact .non
theorem PlV.near {CF CR CA t : Addr} {a b : Int} {H : Hp} {v : V} (h : PlV v) (g : H t = some (.tup [.str "place", v])) : NearR CF CR CA a b H (.ref t) := by
  cases h with
  | int i => exact .place g
  | bl i => exact .noplace g (.bl i)
  | str s => exact .noplace g (.str s)
  | non => exact .noplace g .non
/-- what stands while the values are made -/
structure NB (CF CR CA al be x : Addr) (a b c d : Int) (e : Q5) (H : Hp) : Prop where
  hA : AlgAt CA H al a b
  hB : AlgAt CA H be c d
  hx : Wo CF CR H x al a b e 20
theorem NB.same {al be x : Addr} {a b c d : Int} {e : Q5} {H H' : Hp} (h : NB CF CR CA al be x a b c d e H) (s : Same H H') : NB CF CR CA al be x a b c d e H' := ⟨h.hA.same s, h.hB.same s, h.hx.same s⟩
theorem NB.kp {al be x : Addr} {a b c d : Int} {e : Q5} {H H' : Hp} (h : NB CF CR CA al be x a b c d e H) (s : Kp H H') : NB CF CR CA al be x a b c d e H' := ⟨h.hA.kp s, h.hB.kp s, h.hx.kp s⟩
structure LNearP (CF CR CA : Addr) (vs : List V) (H : Hp) (Q : VK) : Prop where
  ex : ∃ (p al be x : Addr) (n : Nat) (a b c d : Int) (e : Q5), vs = [.ref p, .ref al, .ref be, .ref x] ∧ Sk p n H ∧ n ≤ 800000 ∧ NB CF CR CA al be x a b c d e H ∧ ¬ (c = a ∧ d = b) ∧ a.natAbs < 2 ^ 10 ∧ b.natAbs < 2 ^ 10 ∧
    ∀ (L : Addr) (us : List V) (H' : Hp), Keep p H H' → Sk p (n + 14) H' → H' L = some (.lst us) → L ≠ p → AllR CF CR CA a b H' us → Q (.ref L) H'
def spLNear (CF CR CA : Addr) : Sp := fun vs H Q _ => LNearP CF CR CA vs H Q
set_option maxHeartbeats 16000000 in
theorem ok_l_near (F : FnD K "_law_near" "_law_near" s_L_near f fd) (T : Glob mg) (R : FourK K CF) (RA : AlgK K CA) (C_L_of : Cal P w K mg base 2 "_law_of" ["_law_jug_here", "_law_items"] (spOneOf K)) (N_Four_2 : CalC P w K mg base 7 "Four" CF ["self", "algebra", "entries", "bottom"] [.int 1] (spFourInit CF CR CA)) (N_Four_3 : CalC P w K mg base 7 "Four" CF ["self", "algebra", "entries", "bottom"] [] (spFourInit CF CR CA)) (N_Ratio_1 : CalC P w K mg base 3 "Ratio" CR ["self", "top", "bottom"] [.int 1] (spRatInit CR)) (O_Four : OwnK K CF)
    (M_Four_add : CalM P w K mg base 10 "__add__" CF ["self", "other"] (spFourOp CF CR CA addQ)) (M_Four_neg : CalM P w K mg base 10 "__neg__" CF ["self"] (spFour1 CF CR CA negQ)) (M_Four_scaled : CalM P w K mg base 10 "scaled" CF ["self", "ratio"] (spScaled CF CR CA)) :
    FnOk P w K mg base CX0 11 f fd ["_law_jug_here", "_law_algebra", "_law_strange", "_law_root"] (spLNear CF CR CA) := by
  refine F.ok sc_L_near (fun vs H Q E h => ?_) (fun cdv A outer s H vs Q E hr h => ?_)
  · obtain ⟨p, al, be, x, n, a, b, c, d, e, rfl, _⟩ := h.ex; rfl
  · obtain ⟨p, al, be, x, n, a, b, c, d, e, rfl, hs, hn, B, ne, ba', bb', q⟩ := h.ex
    have hu := hu_of hr
    have ba : a.natAbs < 2 ^ 20 := lt_mono ba' (by decide)
    have bb : b.natAbs < 2 ^ 20 := lt_mono bb' (by decide)
    refine ⟨_, PSs.nox (pss_cons (ps_set (i := 4) sc_L_near.nd rfl (Or.inr rfl) (pe_lst (pa_cons (pe_tup (pa_cons pe_str (pa_cons (pv 3) pa_nil))) (pa_cons (pe_tup (pa_cons pe_str (pa_cons (pe_un (un_own M_Four_neg.me M_Four_neg.ok (hr.mono (by decide)) M_Four_neg.b pass0) (pv 3)) pa_nil))) (pa_cons (pe_tup (pa_cons pe_str (pa_cons (pv 3) pa_nil))) (pa_cons (pe_tup (pa_cons pe_str (pa_cons (pe_meth (pv 3) O_Four.cls M_Four_scaled.me M_Four_scaled.ok (hr.mono (by decide)) M_Four_scaled.b .nil pass0 (pa_cons (pe_new N_Ratio_1 (hr.mono (by decide)) (pa_cons pe_int pa_nil)) pa_nil)) pa_nil))) (pa_cons (pe_tup (pa_cons pe_str (pa_cons (pe_fld (pv 3) rfl) pa_nil))) (pa_cons (pe_tup (pa_cons pe_str pa_nil)) pa_nil))))))))
      (pss_cons (ps_set (i := 4) sc_L_near.nd rfl (Or.inr rfl) (pe_op op_cat (pv 4) (pe_lst (pa_cons (pe_tup (pa_cons pe_str (pa_cons (pe_new N_Four_3 (hr.mono (by decide)) (pa_cons (pv 2) (pa_cons (pe_fld (pv 3) rfl) (pa_cons (pe_fld (pv 3) rfl) pa_nil)))) pa_nil))) (pa_cons (pe_lst (pa_cons pe_str (pa_cons (pv 3) pa_nil))) (pa_cons (pe_tup (pa_cons (pv 3) (pa_cons pe_str pa_nil))) (pa_cons (pe_tup (pa_cons pe_str (pa_cons (pv 3) (pa_cons pe_int pa_nil)))) (pa_cons (pe_tup (pa_cons pe_str (pa_cons (pv 3) pa_nil))) pa_nil))))))))
      (pss_cons (ps_set (i := 4) sc_L_near.nd rfl (Or.inr rfl) (pe_op op_cat (pv 4) (pe_lst (pa_cons (pe_tup (pa_cons pe_str (pa_cons pe_non pa_nil))) (pa_cons (pe_tup (pa_cons pe_str (pa_cons (pe_op (op_own (M_Four_add.me.cast (by decide +kernel)) M_Four_add.ok (hr.mono (by decide)) M_Four_add.b pass0 O_Four.sf) (pv 3) (pe_new N_Four_2 (hr.mono (by decide)) (pa_cons (pv 1) (pa_cons (pe_tup (pa_cons pe_int (pa_cons pe_int (pa_cons pe_int (pa_cons pe_int pa_nil))))) pa_nil)))) pa_nil))) (pa_cons pe_non (pa_cons pe_int (pa_cons (pe_tup pa_nil) (pa_cons pe_str (pa_cons (pe_disp (pps_cons pe_str (pv 3) pps_nil) (by rfl) (by rfl) (fun z => by cases z) (by decide)) pa_nil))))))))))
      (pss_cons (ps_for PassesOwn.never rfl (pi_list (pe_op op_cat (pe_lst (pa_cons pe_int (pa_cons pe_int (pa_cons pe_int (pa_cons pe_int (pa_cons pe_int (pa_cons pe_int (pa_cons pe_int (pa_cons pe_int (pa_cons pe_int (pa_cons (pe_un un_neg pe_int) (pa_cons pe_bl (pa_cons pe_str (pa_cons pe_non (pa_cons (pe_op op_powW pe_int pe_int) pa_nil))))))))))))))) (pe_callTy call_list_of (by rfl) T.m_list (by decide +kernel) (pa_cons (pe_fld (pv 1) rfl) pa_nil)))) (pg_name (i := 5) sc_L_near.nd rfl (Or.inl rfl)) (pss_one (ps_expr (pe_bm PySem.F.plainAttrs_list PySem.F.slot_list_append PySem.F.type_list_append mt_append (pv 4) (pa_cons (pe_tup (pa_cons pe_str (pa_cons (pv 5) pa_nil))) pa_nil)))))
      (pss_one (ps_ret (pe_op op_cat (pe_op op_cat (pe_lc rfl sc_L_near.nd (own := [("_law_turn", 6)]) (pi_range1 (by rfl) T.m_range (pa_cons pe_int pa_nil)) (blkOk_by (N := ["_law_jug_here", "_law_algebra", "_law_strange", "_law_root", "_law_some", "_law_place", "_law_turn"]) (sc := defScope s_L_near) (by decide +kernel)) (fun _ _ _ _ _ => pg_name (i := 6) sc_L_near.nd rfl (Or.inl rfl)) (fun _ _ _ _ _ => pts_nil) (fun _ _ _ _ _ => (pe_cal C_L_of (hr.mono (by decide)) (pa_cons (pv 0) (pa_cons (pv 4) pa_nil))))) (pe_lst (pa_cons (pe_tup (pa_cons pe_str (pa_cons (pv 3) pa_nil))) pa_nil))) (pe_lc rfl sc_L_near.nd (own := [("_law_place", 5)]) (pi_tup (pe_fld (pv 1) rfl)) (blkOk_by (N := ["_law_jug_here", "_law_algebra", "_law_strange", "_law_root", "_law_some", "_law_place", "_law_turn"]) (sc := defScope s_L_near) (by decide +kernel)) (fun _ _ _ _ _ => pg_name (i := 5) sc_L_near.nd rfl (Or.inl rfl)) (fun _ _ _ _ _ => pts_nil) (fun _ _ _ _ _ => (pe_tup (pa_cons pe_str (pa_cons (pv 5) pa_nil)))))))))))), ?_⟩
    have Lx : AllR CF CR CA a b H [] := AllR.nil
    have S := Same.refl H
    have sr : ("root" : Str) ≠ "place" := fun z => str_ne z.symm
    have nR1 : (("Root" : String) : Str) ≠ (("root" : String) : Str) := by decide +kernel
    have nR2 : (("Root" : String) : Str) ≠ (("place" : String) : Str) := by decide +kernel
    have w20 : 2 ^ 20 < 10 ^ 60 := by decide +kernel
    refine ⟨_, rfl, (by show 2 ≤ sizeLine; decide), fun t1 h1 => ?_⟩
    have s1 := same_upd (o := .tup [.str "root", .ref x]) h1
    have g1 := upd_same (H := H) (a := t1) (o := .tup [.str "root", .ref x])
    generalize (upd H t1 (.tup [.str "root", .ref x])) = H1 at *
    clear h1
    replace S := S.trans s1
    replace B := B.same s1
    replace Lx := Lx.same s1
    clear s1
    replace Lx := Lx.snoc (.root g1 B.hx B.hA (by decide))
    clear g1
    refine ⟨_, rfl, x, rfl, B.hx.ins, wo_neg B.hA B.hx (by decide) fun z2 J2 r2 w2 => ?_⟩
    replace S := S.trans r2
    replace B := B.same r2
    replace Lx := Lx.same r2
    clear r2
    refine ⟨(by show 2 ≤ sizeLine; decide), fun t2 h2 => ?_⟩
    have s2 := same_upd (o := .tup [.str "root", .ref z2]) h2
    have g2 := upd_same (H := J2) (a := t2) (o := .tup [.str "root", .ref z2])
    generalize (upd J2 t2 (.tup [.str "root", .ref z2])) = H2 at *
    clear h2
    replace S := S.trans s2
    replace B := B.same s2
    replace Lx := Lx.same s2
    replace w2 := w2.same s2
    clear s2
    replace Lx := Lx.snoc (.root g2 w2 B.hA (by decide))
    clear g2
    clear w2
    refine ⟨_, rfl, (by show 2 ≤ sizeLine; decide), fun t3 h3 => ?_⟩
    have s3 := same_upd (o := .tup [.str "place", .ref x]) h3
    have g3 := upd_same (H := H2) (a := t3) (o := .tup [.str "place", .ref x])
    generalize (upd H2 t3 (.tup [.str "place", .ref x])) = H3 at *
    clear h3
    replace S := S.trans s3
    replace B := B.same s3
    replace Lx := Lx.same s3
    clear s3
    replace Lx := Lx.snoc (.noplace g3 (.four B.hx))
    clear g3
    obtain ⟨dob, e1, tr1, nm1, bo1, ir1, gob⟩ := B.hx.obj
    refine ⟨_, rfl, x, dob, _, rfl, gob, rfl, fun xr dxr hxr hdxr ndr => new_rat (t := 2) (b := 1) (by decide) (by decide +kernel) (by decide +kernel) hxr hdxr ndr fun t' b' J4 hl r4 hR => ⟨rfl, ?_⟩⟩
    have wr : Rw CR J4 xr 2 1 := ⟨⟨t', b', hR, hl⟩, by decide⟩
    clear hl hR gob hdxr hxr ndr
    replace S := S.trans r4
    replace B := B.same r4
    replace Lx := Lx.same r4
    clear r4
    refine wo_scaled (k := 3) B.hA B.hx wr (by decide) (by decide) (by decide) (by decide) fun z5 J5 r5 w5 => ?_
    clear wr
    replace S := S.trans r5
    replace B := B.same r5
    replace Lx := Lx.same r5
    clear r5
    refine ⟨(by show 2 ≤ sizeLine; decide), fun t5 h5 => ?_⟩
    have s5 := same_upd (o := .tup [.str "root", .ref z5]) h5
    have g5 := upd_same (H := J5) (a := t5) (o := .tup [.str "root", .ref z5])
    generalize (upd J5 t5 (.tup [.str "root", .ref z5])) = H5 at *
    clear h5
    replace S := S.trans s5
    replace B := B.same s5
    replace Lx := Lx.same s5
    replace w5 := w5.same s5
    clear s5
    replace Lx := Lx.snoc (.root g5 w5 B.hA (by decide))
    clear g5
    clear w5
    obtain ⟨dpb, ey, try_, nmy, ry, gpb, uy, _⟩ := B.hx.fld
    refine ⟨_, rfl, x, CF, dpb, _, .ref ey, rfl, gpb, R.own.cls, R.n2, rfl, (by show 2 ≤ sizeLine; decide), fun t6 h6 => ?_⟩
    have s6 := same_upd (o := .tup [.str "root", .ref ey]) h6
    have g6 := upd_same (H := H5) (a := t6) (o := .tup [.str "root", .ref ey])
    generalize (upd H5 t6 (.tup [.str "root", .ref ey])) = H6 at *
    clear h6
    replace S := S.trans s6
    replace B := B.same s6
    replace Lx := Lx.same s6
    replace uy := s6 _ _ uy
    clear s6
    replace Lx := Lx.snoc (.noroot g6 (.out (.tup uy)))
    clear g6
    clear uy
    clear gpb
    refine ⟨(by show 1 ≤ sizeLine; decide), fun t7 h7 => ?_⟩
    have s7 := same_upd (o := .tup [.str "root"]) h7
    have g7 := upd_same (H := H6) (a := t7) (o := .tup [.str "root"])
    generalize (upd H6 t7 (.tup [.str "root"])) = H7 at *
    clear h7
    replace S := S.trans s7
    replace B := B.same s7
    replace Lx := Lx.same s7
    clear s7
    replace Lx := Lx.snoc (.len g7 (by show 1 ≠ 2; decide))
    clear g7
    refine ⟨(by show 6 ≤ sizeLine; decide), fun t20 h20 => ?_⟩
    have s20 := same_upd (o := .lst [.ref t1, .ref t2, .ref t3, .ref t5, .ref t6, .ref t7]) h20
    have g20 := upd_same (H := H7) (a := t20) (o := .lst [.ref t1, .ref t2, .ref t3, .ref t5, .ref t6, .ref t7])
    generalize (upd H7 t20 (.lst [.ref t1, .ref t2, .ref t3, .ref t5, .ref t6, .ref t7])) = H20 at *
    clear h20
    replace S := S.trans s20
    replace B := B.same s20
    replace Lx := Lx.same s20
    clear s20
    refine ⟨_, rfl, ?_⟩
    obtain ⟨dpb, ey, try_, nmy, ry, gpb, uy, lry, bry, _⟩ := B.hx.fld
    have rd : ry.d ≠ 0 := by have := lry.1; omega
    have ps : Pass60 ry := ⟨Nat.lt_trans bry.1 w20, Nat.lt_trans bry.2.1 w20, Nat.lt_trans bry.2.2.1 w20, Nat.lt_trans bry.2.2.2.1 w20, Nat.lt_trans bry.2.2.2.2 w20⟩
    refine ⟨_, rfl, _, rfl, x, CF, dpb, _, .ref ey, rfl, gpb, R.own.cls, R.n2, rfl, _, rfl, x, CF, dpb, _, .int ry.d, rfl, gpb, R.own.cls, R.n3, rfl, fun z8 d8 h8 hd8 nd8 => new_four (p := ry) B.hB uy rd ps (bd_mono bry (by decide)) (fun r hr => bd_mono (low5_bd rd hr bry) (by decide)) h8 hd8 nd8 fun r8 J8 l8 e8 f8 => ⟨rfl, ?_⟩⟩
    have w8 : Wo CF CR J8 z8 be c d r8 20 := Wo.of f8 (low5_bd rd l8 bry)
    clear f8 h8 hd8 nd8 uy gpb
    have r8e := e8
    clear e8
    replace S := S.trans r8e
    replace B := B.same r8e
    replace Lx := Lx.same r8e
    replace g20 := r8e _ _ g20
    clear r8e
    refine ⟨(by show 2 ≤ sizeLine; decide), fun t8 h8 => ?_⟩
    have s8 := same_upd (o := .tup [.str "root", .ref z8]) h8
    have g8 := upd_same (H := J8) (a := t8) (o := .tup [.str "root", .ref z8])
    generalize (upd J8 t8 (.tup [.str "root", .ref z8])) = H8 at *
    clear h8
    replace S := S.trans s8
    replace B := B.same s8
    replace Lx := Lx.same s8
    replace g20 := s8 _ _ g20
    replace w8 := w8.same s8
    clear s8
    replace Lx := Lx.snoc (.noroot g8 (.strange w8 B.hB ne))
    clear g8
    clear w8
    refine ⟨_, rfl, (by show 2 ≤ sizeLine; decide), fun t9 h9 => ?_⟩
    have s9 := same_upd (o := .lst [.str "root", .ref x]) h9
    have g9 := upd_same (H := H8) (a := t9) (o := .lst [.str "root", .ref x])
    generalize (upd H8 t9 (.lst [.str "root", .ref x])) = H9 at *
    clear h9
    replace S := S.trans s9
    replace B := B.same s9
    replace Lx := Lx.same s9
    replace g20 := s9 _ _ g20
    clear s9
    replace Lx := Lx.snoc (.out (.inr (.inr (.inr ⟨t9, rfl, .inl ⟨_, g9⟩⟩))))
    clear g9
    refine ⟨_, rfl, (by show 2 ≤ sizeLine; decide), fun t10 h10 => ?_⟩
    have s10 := same_upd (o := .tup [.ref x, .str "root"]) h10
    have g10 := upd_same (H := H9) (a := t10) (o := .tup [.ref x, .str "root"])
    generalize (upd H9 t10 (.tup [.ref x, .str "root"])) = H10 at *
    clear h10
    replace S := S.trans s10
    replace B := B.same s10
    replace Lx := Lx.same s10
    replace g20 := s10 _ _ g20
    clear s10
    replace Lx := Lx.snoc (.noword g10 B.hx)
    clear g10
    refine ⟨_, rfl, (by show 3 ≤ sizeLine; decide), fun t11 h11 => ?_⟩
    have s11 := same_upd (o := .tup [.str "root", .ref x, .int 0]) h11
    have g11 := upd_same (H := H10) (a := t11) (o := .tup [.str "root", .ref x, .int 0])
    generalize (upd H10 t11 (.tup [.str "root", .ref x, .int 0])) = H11 at *
    clear h11
    replace S := S.trans s11
    replace B := B.same s11
    replace Lx := Lx.same s11
    replace g20 := s11 _ _ g20
    clear s11
    replace Lx := Lx.snoc (.len g11 (by show 3 ≠ 2; decide))
    clear g11
    refine ⟨_, rfl, (by show 2 ≤ sizeLine; decide), fun t12 h12 => ?_⟩
    have s12 := same_upd (o := .tup [.str "Root", .ref x]) h12
    have g12 := upd_same (H := H11) (a := t12) (o := .tup [.str "Root", .ref x])
    generalize (upd H11 t12 (.tup [.str "Root", .ref x])) = H12 at *
    clear h12
    replace S := S.trans s12
    replace B := B.same s12
    replace Lx := Lx.same s12
    replace g20 := s12 _ _ g20
    clear s12
    replace Lx := Lx.snoc (.other g12 nR1 nR2)
    clear g12
    refine ⟨(by show 5 ≤ sizeLine; decide), fun t21 h21 => ?_⟩
    have s21 := same_upd (o := .lst [.ref t8, .ref t9, .ref t10, .ref t11, .ref t12]) h21
    have g21 := upd_same (H := H12) (a := t21) (o := .lst [.ref t8, .ref t9, .ref t10, .ref t11, .ref t12])
    generalize (upd H12 t21 (.lst [.ref t8, .ref t9, .ref t10, .ref t11, .ref t12])) = H21 at *
    clear h21
    replace S := S.trans s21
    replace B := B.same s21
    replace Lx := Lx.same s21
    replace g20 := s21 _ _ g20
    clear s21
    refine ⟨t20, t21, _, _, rfl, rfl, g20, g21, (by show 11 ≤ sizeLine; decide), fun t22 h22 => ?_⟩
    have s22 := same_upd (o := .lst ([.ref t1, .ref t2, .ref t3, .ref t5, .ref t6, .ref t7] ++ [.ref t8, .ref t9, .ref t10, .ref t11, .ref t12])) h22
    have g22 := upd_same (H := H21) (a := t22) (o := .lst ([.ref t1, .ref t2, .ref t3, .ref t5, .ref t6, .ref t7] ++ [.ref t8, .ref t9, .ref t10, .ref t11, .ref t12]))
    generalize (upd H21 t22 (.lst ([.ref t1, .ref t2, .ref t3, .ref t5, .ref t6, .ref t7] ++ [.ref t8, .ref t9, .ref t10, .ref t11, .ref t12]))) = H22 at *
    clear g20
    clear g21
    replace S := S.trans s22
    replace B := B.same s22
    replace Lx := Lx.same s22
    clear s22
    clear h22
    refine ⟨_, rfl, ?_⟩
    refine ⟨(by show 2 ≤ sizeLine; decide), fun t31 h31 => ?_⟩
    have s31 := same_upd (o := .tup [.str "root", .non]) h31
    have g31 := upd_same (H := H22) (a := t31) (o := .tup [.str "root", .non])
    generalize (upd H22 t31 (.tup [.str "root", .non])) = H31 at *
    clear h31
    replace S := S.trans s31
    replace B := B.same s31
    replace Lx := Lx.same s31
    replace g22 := s31 _ _ g22
    clear s31
    replace Lx := Lx.snoc (.noroot g31 (.out .non))
    clear g31
    refine ⟨_, rfl, _, rfl, (by show 4 ≤ sizeLine; decide), fun t37 h37 => ?_⟩
    have s37 := same_upd (o := .tup [.int 1, .int 0, .int 0, .int 0]) h37
    have g37 := upd_same (H := H31) (a := t37) (o := .tup [.int 1, .int 0, .int 0, .int 0])
    generalize (upd H31 t37 (.tup [.int 1, .int 0, .int 0, .int 0])) = H37 at *
    clear h37
    replace S := S.trans s37
    replace B := B.same s37
    replace Lx := Lx.same s37
    replace g22 := s37 _ _ g22
    clear s37
    refine fun x0 dx0 hx0 hd0 nd0 => unit_four (.inr rfl) (.inl rfl) (.inl rfl) (.inl rfl) B.hA g37 hx0 hd0 nd0 fun J38 r38 f38 => ⟨rfl, ?_⟩
    clear g37 hx0 hd0 nd0
    have w38 : Wo CF CR J38 x0 al a b ⟨1, 0, 0, 0, 1⟩ 20 := (Wo.of (n := 1) f38 ⟨by decide, by decide, by decide, by decide, by decide⟩).mono (by decide)
    clear f38
    replace S := S.trans r38
    replace B := B.same r38
    replace Lx := Lx.same r38
    replace g22 := r38 _ _ g22
    clear r38
    refine wo_add B.hA B.hx w38 (by decide) fun z39 J39 r39 w39 => ?_
    clear w38
    replace S := S.trans r39
    replace B := B.same r39
    replace Lx := Lx.same r39
    replace g22 := r39 _ _ g22
    clear r39
    refine ⟨(by show 2 ≤ sizeLine; decide), fun t39 h39 => ?_⟩
    have s39 := same_upd (o := .tup [.str "root", .ref z39]) h39
    have g39 := upd_same (H := J39) (a := t39) (o := .tup [.str "root", .ref z39])
    generalize (upd J39 t39 (.tup [.str "root", .ref z39])) = H39 at *
    clear h39
    replace S := S.trans s39
    replace B := B.same s39
    replace Lx := Lx.same s39
    replace g22 := s39 _ _ g22
    replace w39 := w39.same s39
    clear s39
    replace Lx := Lx.snoc (.root g39 w39 B.hA (by decide))
    clear g39
    clear w39
    replace Lx := Lx.snoc (.out (v := .non) (.inl rfl))
    replace Lx := Lx.snoc (.out (v := .int 0) (.inr (.inl ⟨_, rfl⟩)))
    refine ⟨(by show 0 ≤ sizeLine; decide), fun t40 h40 => ?_⟩
    have s40 := same_upd (o := .tup []) h40
    have g40 := upd_same (H := H39) (a := t40) (o := .tup [])
    generalize (upd H39 t40 (.tup [])) = H40 at *
    clear h40
    replace S := S.trans s40
    replace B := B.same s40
    replace Lx := Lx.same s40
    replace g22 := s40 _ _ g22
    clear s40
    replace Lx := Lx.snoc (.len g40 (by show 0 ≠ 2; decide))
    clear g40
    replace Lx := Lx.snoc (.out (v := .str "root") (.inr (.inr (.inl ⟨_, rfl⟩))))
    refine fun dd hdd => ?_
    refine ⟨_, rfl, upd_same, [(Sum.inr (("root" : String) : Str), .ref x)], rfl, (by show 1 ≤ 15; decide), ?_⟩
    have s74 : Same H40 (upd (upd H40 dd (.dK [])) dd (.dK (mergeK [] [(Sum.inr (("root" : String) : Str), .ref x)]))) := fun b o e => by rw [upd_ne (ne_of_none e hdd), upd_ne (ne_of_none e hdd)]; exact e
    have g74 := upd_same (H := upd H40 dd (.dK [])) (a := dd) (o := .dK (mergeK [] [(Sum.inr (("root" : String) : Str), .ref x)]))
    generalize (upd (upd H40 dd (.dK [])) dd (.dK (mergeK [] [(Sum.inr (("root" : String) : Str), .ref x)]))) = H74 at *
    clear hdd
    replace S := S.trans s74
    replace B := B.same s74
    replace Lx := Lx.same s74
    replace g22 := s74 _ _ g22
    clear s74
    replace Lx := Lx.snoc (.out (.inr (.inr (.inr ⟨dd, rfl, .inr ⟨_, g74⟩⟩))))
    clear g74
    refine ⟨(by show 7 ≤ sizeLine; decide), fun t75 h75 => ?_⟩
    have s75 := same_upd (o := .lst [.ref t31, .ref t39, .non, .int 0, .ref t40, .str "root", .ref dd]) h75
    have g75 := upd_same (H := H74) (a := t75) (o := .lst [.ref t31, .ref t39, .non, .int 0, .ref t40, .str "root", .ref dd])
    generalize (upd H74 t75 (.lst [.ref t31, .ref t39, .non, .int 0, .ref t40, .str "root", .ref dd])) = H75 at *
    clear h75
    replace S := S.trans s75
    replace B := B.same s75
    replace Lx := Lx.same s75
    replace g22 := s75 _ _ g22
    clear s75
    refine ⟨t22, t75, _, _, rfl, rfl, g22, g75, (by show 18 ≤ sizeLine; decide), fun t80 h80 => ?_⟩
    have s80 := same_upd (o := .lst (([.ref t1, .ref t2, .ref t3, .ref t5, .ref t6, .ref t7] ++ [.ref t8, .ref t9, .ref t10, .ref t11, .ref t12]) ++ [.ref t31, .ref t39, .non, .int 0, .ref t40, .str "root", .ref dd])) h80
    have g80 := upd_same (H := H75) (a := t80) (o := .lst (([.ref t1, .ref t2, .ref t3, .ref t5, .ref t6, .ref t7] ++ [.ref t8, .ref t9, .ref t10, .ref t11, .ref t12]) ++ [.ref t31, .ref t39, .non, .int 0, .ref t40, .str "root", .ref dd]))
    generalize (upd H75 t80 (.lst (([.ref t1, .ref t2, .ref t3, .ref t5, .ref t6, .ref t7] ++ [.ref t8, .ref t9, .ref t10, .ref t11, .ref t12]) ++ [.ref t31, .ref t39, .non, .int 0, .ref t40, .str "root", .ref dd]))) = H80 at *
    clear g22
    clear g75
    have f80 : H t80 = none := by
      cases e : H t80 with
      | none => rfl
      | some o => rw [S _ _ e] at h80; cases h80
    replace S := S.trans s80
    replace B := B.same s80
    replace Lx := Lx.same s80
    clear s80
    have n80 : t80 ≠ p := fun z => hs.ne f80 z.symm
    simp only [List.nil_append, List.append_assoc, List.cons_append] at g80 Lx
    obtain ⟨items, gi, Li, len⟩ : ∃ items : List V, H80 t80 = some (.lst items) ∧ AllR CF CR CA a b H80 items ∧ items.length = 18 := ⟨_, g80, Lx, rfl⟩
    clear g80 Lx
    refine ⟨_, rfl, ?_⟩
    have cp60 : CPowW 10 60 := ⟨by decide, by decide +kernel⟩
    obtain ⟨dA, pl, l, ga, gp, hP, a0, b0, _⟩ := B.hA.ex
    have few := places_few hP a0 b0 (by omega) (by omega)
    refine ⟨10, 60, rfl, rfl, cp60, (by show 14 ≤ sizeLine; decide), fun t81 h81 => ?_⟩
    have s81 := same_upd (o := .lst [.int 0, .int 2, .int 3, .int 5, .int 7, .int 11, .int 13, .int 1, .int 4, .int (-1), .bl false, .str "2", .non, .int (10 ^ Int.toNat 60)]) h81
    have g81 := upd_same (H := H80) (a := t81) (o := .lst [.int 0, .int 2, .int 3, .int 5, .int 7, .int 11, .int 13, .int 1, .int 4, .int (-1), .bl false, .str "2", .non, .int (10 ^ Int.toNat 60)])
    generalize (upd H80 t81 (.lst [.int 0, .int 2, .int 3, .int 5, .int 7, .int 11, .int 13, .int 1, .int 4, .int (-1), .bl false, .str "2", .non, .int (10 ^ Int.toNat 60)])) = H81 at *
    clear h81
    replace S := S.trans s81
    replace B := B.same s81
    replace Li := Li.same s81
    replace ga := s81 _ _ ga
    replace gp := s81 _ _ gp
    replace gi := s81 _ _ gi
    clear s81
    refine ⟨_, rfl, al, CA, dA, _, .ref pl, rfl, ga, RA.own.cls, RA.n1, rfl, pl, _, rfl, .inr (SqT.of gp), fun t82 h82 => ?_⟩
    have s82 := same_upd (o := .lst (l.map V.int)) h82
    have g82 := upd_same (H := H81) (a := t82) (o := .lst (l.map V.int))
    generalize (upd H81 t82 (.lst (l.map V.int))) = H82 at *
    clear h82
    replace S := S.trans s82
    replace B := B.same s82
    replace Li := Li.same s82
    replace ga := s82 _ _ ga
    replace gp := s82 _ _ gp
    replace gi := s82 _ _ gi
    replace g81 := s82 _ _ g81
    clear s82
    have hPL : ∀ v ∈ (([.int 0, .int 2, .int 3, .int 5, .int 7, .int 11, .int 13, .int 1, .int 4, .int (-1), .bl false, .str "2", .non, .int (10 ^ Int.toNat 60)]) ++ l.map V.int : List V), PlV v := fun v hv => by
      rcases List.mem_append.mp hv with c | c
      · exact plv_told v c
      · obtain ⟨i, _, rfl⟩ := List.mem_map.mp c
        exact .int i
    have len2 : ([.int 0, .int 2, .int 3, .int 5, .int 7, .int 11, .int 13, .int 1, .int 4, .int (-1), .bl false, .str "2", .non, .int (10 ^ Int.toNat 60)] : List V).length + (l.map V.int).length ≤ sizeLine := by
      rw [List.length_map]
      exact Nat.le_trans (by show 14 + l.length ≤ 10015; omega) (by decide : 10015 ≤ sizeLine)
    refine ⟨t81, t82, _, _, rfl, rfl, g81, g82, len2, fun t83 h83 => ?_⟩
    have s83 := same_upd (o := .lst ([.int 0, .int 2, .int 3, .int 5, .int 7, .int 11, .int 13, .int 1, .int 4, .int (-1), .bl false, .str "2", .non, .int (10 ^ Int.toNat 60)] ++ l.map V.int)) h83
    have g83 := upd_same (H := H82) (a := t83) (o := .lst ([.int 0, .int 2, .int 3, .int 5, .int 7, .int 11, .int 13, .int 1, .int 4, .int (-1), .bl false, .str "2", .non, .int (10 ^ Int.toNat 60)] ++ l.map V.int))
    generalize (upd H82 t83 (.lst ([.int 0, .int 2, .int 3, .int 5, .int 7, .int 11, .int 13, .int 1, .int 4, .int (-1), .bl false, .str "2", .non, .int (10 ^ Int.toNat 60)] ++ l.map V.int))) = H83 at *
    have n83 : t83 ≠ t80 := (ne_of_none gi h83).symm
    clear h83
    replace S := S.trans s83
    replace B := B.same s83
    replace Li := Li.same s83
    replace ga := s83 _ _ ga
    replace gp := s83 _ _ gp
    replace gi := s83 _ _ gi
    replace g81 := s83 _ _ g81
    replace g82 := s83 _ _ g82
    clear s83
    have len2' : ([.int 0, .int 2, .int 3, .int 5, .int 7, .int 11, .int 13, .int 1, .int 4, .int (-1), .bl false, .str "2", .non, .int (10 ^ Int.toNat 60)] ++ l.map V.int : List V).length ≤ 10015 := by
      rw [List.length_append, List.length_map]
      show 14 + l.length ≤ 10015
      omega
    generalize eps : ([.int 0, .int 2, .int 3, .int 5, .int 7, .int 11, .int 13, .int 1, .int 4, .int (-1), .bl false, .str "2", .non, .int (10 ^ Int.toNat 60)] ++ l.map V.int : List V) = ps at *
    clear g81 g82 few cp60
    refine ⟨t83, rfl, ⟨_, SqL.of g83⟩, ?_⟩
    have nps : ps.length ≤ 10015 := len2'
    refine for_list (K := K) (a := t83) (xs := ps) (fun i σ H' => ∃ v1, σ = [some (.ref p), some (.ref al), some (.ref be), some (.ref x), some (.ref t80), v1, none] ∧ Keep t80 H83 H' ∧ ∃ us, H' t80 = some (.lst us) ∧ us.length = 18 + i ∧ AllR CF CR CA a b H' us) ⟨none, rfl, Keep.refl _ _, items, gi, by rw [len], Li⟩ (fun i σ H' _ hp => SqL.of (hp.choose_spec.2.1 _ _ g83 n83)) ?_ ?_
    · rintro i v σ H' hv ⟨v1, rfl, k, us, hus, lu, Lu⟩
      have hi : i < ps.length := (List.getElem?_eq_some_iff.mp hv).1
      refine ⟨_, rfl, .inl ⟨rfl, _, SqL.of hus⟩, _, rfl, (by show 2 ≤ sizeLine; decide), fun tt htt => ?_⟩
      have s1 := same_upd (o := .tup [.str "place", v]) htt
      have g1 := upd_same (H := H') (a := tt) (o := .tup [.str "place", v])
      generalize (upd H' tt (.tup [.str "place", v])) = G at *
      have hus' := s1 _ _ hus
      refine ⟨t80, _, _, rfl, rfl, hus', ?_, ?_⟩
      · rw [lu]
        exact Nat.lt_of_lt_of_le (by omega : 18 + i < 100000) (by decide)
      · refine ⟨_, rfl, (k.trans (Keep.same s1)).trans Keep.upd, _, upd_same, by rw [List.length_append, lu]; rfl, ?_⟩
        exact ((Lu.same s1).snoc ((hPL v (List.mem_of_getElem? hv)).near g1)).kp (Kp.upd hus')
    · rintro σ H' ⟨v1, rfl, k, us, hus, lu, Lu⟩
      have kp := Kp.keepL gi hus k
      have B2 := B.kp kp
      have sk1 : Sk p n H' := let ⟨xs, a1, a2⟩ := hs.same S; ⟨xs, k _ _ a1 n80.symm, a2⟩
      have kH : Keep p H H' := fun c o ec nc => k _ _ (S _ _ ec) (ne_of_none ec f80)
      clear S B Li ga gp gi hPL g83 eps len2' k kp n83 len2
      refine ⟨14, rfl, by decide, by decide, fun D hD => lc_range (lo := 0) (n := 14) (fun j H2 => ∃ ws : List V, ws.length = j ∧ (∀ u ∈ ws, u ∈ us) ∧ Keep p H' H2 ∧ Sk p (n + j) H2 ∧ D ≠ p ∧ H2 D = some (.lst ws)) ⟨[], rfl, by simp, Keep.new hD, sk1.same (same_upd hD), (sk1.ne hD).symm, upd_same⟩ (fun j H2 hj hP => ?_) (fun H2 hP => ?_)⟩
      · obtain ⟨ws, hl, hm, k2, ⟨xs, ax, ao⟩, nD, hd⟩ := hP
        refine ⟨rfl, _, rfl, _, rfl, ⟨p, t80, xs, us, n + j, rfl, ax, ao, by omega, n80, SqL.of (k2 _ _ hus n80), by omega, by omega, fun v ys hv hy => ?_⟩⟩
        have hd2 : (upd H2 p (.lst ys)) D = some (.lst ws) := by rw [upd_ne nD]; exact hd
        refine ⟨ws, hd2, Nat.lt_of_lt_of_le (by omega : ws.length < 1000000) (by decide), ws ++ [v], by rw [List.length_append, hl]; rfl, fun u hu2 => ?_, fun c' o e' nc => ?_, ⟨ys, by rw [upd_ne nD.symm, upd_same], hy⟩, nD, upd_same⟩
        · rcases List.mem_append.mp hu2 with h' | h'
          · exact hm u h'
          · rw [List.mem_singleton.mp h']; exact hv
        · by_cases hc : c' = D
          · subst hc
            rw [hD] at e'
            cases e'
          · rw [upd_ne hc, upd_ne nc]
            exact k2 _ _ e' nc
      · obtain ⟨ws, hl, hm, k2, s2, nD, hd⟩ := hP
        have kp2 := Kp.keep sk1 s2 k2
        have Lw : AllR CF CR CA a b H2 ws := fun u hu2 => (Lu u (hm u hu2)).kp kp2
        replace B2 := B2.kp kp2
        replace kH := kH.trans k2
        clear Lu kp2 k2 hm hus sk1
        have few0 := hl
        refine ⟨_, rfl, (by show 2 ≤ sizeLine; decide), fun t90 h90 => ?_⟩
        have q1 := same_upd (o := .tup [.str "root", .ref x]) h90
        have g1 := upd_same (H := H2) (a := t90) (o := .tup [.str "root", .ref x])
        generalize (upd H2 t90 (.tup [.str "root", .ref x])) = G1 at *
        replace Lw := Lw.same q1
        replace B2 := B2.same q1
        replace hd := q1 _ _ hd
        replace s2 := s2.same q1
        replace kH := kH.trans (Keep.same q1)
        replace Lw := Lw.snoc (.root g1 B2.hx B2.hA (by decide))
        clear g1 q1 h90
        refine ⟨(by show 1 ≤ sizeLine; decide), fun M hM => ?_⟩
        have q1 := same_upd (o := .lst [.ref t90]) hM
        have gM := upd_same (H := G1) (a := M) (o := .lst [.ref t90])
        generalize (upd G1 M (.lst [.ref t90])) = G2 at *
        replace Lw := Lw.same q1
        replace B2 := B2.same q1
        replace hd := q1 _ _ hd
        replace s2 := s2.same q1
        replace kH := kH.trans (Keep.same q1)
        clear q1 hM
        refine ⟨D, M, _, _, rfl, rfl, hd, gM, (by rw [hl]; exact (by decide : 15 ≤ sizeLine)), fun N hN => ?_⟩
        have q1 := same_upd (o := .lst (ws ++ [.ref t90])) hN
        have gN := upd_same (H := G2) (a := N) (o := .lst (ws ++ [.ref t90]))
        generalize (upd G2 N (.lst (ws ++ [.ref t90]))) = G3 at *
        replace Lw := Lw.same q1
        replace B2 := B2.same q1
        replace s2 := s2.same q1
        replace kH := kH.trans (Keep.same q1)
        clear q1 hN hd gM
        obtain ⟨dB, pl2, l2, gb, gq, hP2, a02, b02, _⟩ := B2.hA.ex
        have few2 := places_few hP2 a02 b02 (by omega) (by omega)
        refine ⟨_, rfl, al, CA, dB, _, .ref pl2, rfl, gb, RA.own.cls, RA.n1, rfl, pl2, rfl, ⟨_, SqT.of gq⟩, fun E2 hE => lc_tup (K := K) (a := pl2) (xs := l2.map V.int) (fun i H3 => ∃ ys : List V, ys.length = i ∧ Same G3 H3 ∧ H3 E2 = some (.lst ys) ∧ AllR CF CR CA a b H3 ys) ⟨[], rfl, same_upd hE, upd_same, .nil⟩ (fun i H3 _ hp => SqT.of (hp.choose_spec.2.1 _ _ gq)) (fun i v H3 hv hp => ?_) (fun H3 hp => ?_)⟩
        · obtain ⟨ys, ly, e3, hE3, Ly⟩ := hp
          have hi := (List.getElem?_eq_some_iff.mp hv).1
          rw [List.length_map] at hi
          have pv : PlV v := by
            obtain ⟨i, _, rfl⟩ := List.mem_map.mp (List.mem_of_getElem? hv)
            exact .int i
          refine ⟨rfl, _, rfl, (by show 2 ≤ sizeLine; decide), fun tt htt => ?_⟩
          have s1 := same_upd (o := .tup [.str "place", v]) htt
          have g1 := upd_same (H := H3) (a := tt) (o := .tup [.str "place", v])
          generalize (upd H3 tt (.tup [.str "place", v])) = G at *
          refine ⟨ys, s1 _ _ hE3, ?_, ys ++ [.ref tt], by rw [List.length_append, ly]; rfl, fun c o ec => ?_, upd_same, ?_⟩
          · rw [ly]
            exact Nat.lt_of_lt_of_le (by omega : i < 100000) (by decide)
          · rw [upd_ne (ne_of_none ec hE)]
            exact s1 _ _ (e3 _ _ ec)
          · exact ((Ly.same s1).snoc (pv.near g1)).kp (Kp.upd (s1 _ _ hE3))
        · obtain ⟨ys, ly, e3, hE3, Ly⟩ := hp
          refine ⟨N, E2, _, _, rfl, rfl, e3 _ _ gN, hE3, ?_, fun Z hZ => ?_⟩
          · rw [List.length_append, hl, ly, List.length_map]
            exact Nat.le_trans (by show 14 + 1 + l2.length ≤ 100000; omega) (by decide)
          have q1 := same_upd (o := .lst ((ws ++ [.ref t90]) ++ ys)) hZ
          have s3 := s2.same e3
          exact q Z _ _ ((kH.trans (Keep.same e3)).trans (Keep.same q1)) (s3.same q1) upd_same (s3.ne hZ).symm (((Lw.same e3).append Ly).same q1)
end
end Sf


namespace Sf
open PySem PySem.Spec PyProof.Rows L2
section
variable {X : Cx}
theorem cr_repr_bl : CallR X (.builtin "repr") (fun xs H Q => ∃ b : Bool, xs = [.bl b] ∧ Q (.str (if b then "True" else "False")) H) := by
  intro pins s σ H xs us Q I r h
  obtain ⟨b, rfl, q⟩ := h
  obtain ⟨u, rfl, t⟩ := vals1 r
  cases (show u = Value.bool b from t)
  exact PySem.P.repr_of_bool ⟨.str _, H, I.tok _, ⟨_, rfl⟩, q⟩
end
end Sf

namespace Sf
open PySem PySem.Spec PyProof.Rows L2
theorem nosq_dec {m : Int} (h : m ≠ 0 ∧ m.natAbs ≤ 10000 ∧ ∀ k : Nat, k ≤ 100 → m ≠ (k : Int) * k) : NoSq m := ⟨h.1, h.2.1, fun k e => by
  by_cases c : k ≤ 100
  · exact h.2.2 k c e
  · have : 101 * 101 ≤ k * k := Nat.mul_le_mul (by omega) (by omega)
    have e2 : m.natAbs = k * k := by rw [e, ← Int.natCast_mul]; rfl
    have := h.2.1
    omega⟩
theorem nosq_told : ∀ v ∈ ([.int (-1), .int (-2), .int (-3), .int (-7), .int 2, .int 3, .int 5, .int (-11), .int 17, .int (-28), .int 13, .int (-5000), .int 9999] : List V), ∃ M : Int, v = .int M ∧ NoSq M := fun v hv => by
  simp only [List.mem_cons, List.not_mem_nil, or_false] at hv
  rcases hv with rfl | rfl | rfl | rfl | rfl | rfl | rfl | rfl | rfl | rfl | rfl | rfl | rfl
  all_goals exact ⟨_, rfl, nosq_dec (by decide +kernel)⟩
def sqsI (n : Nat) : List Int := (List.range n).map fun (k : Nat) => (1 + (k : Int)) * (1 + (k : Int))
theorem sqsI_len (n : Nat) : (sqsI n).length = n := by unfold sqsI; rw [List.length_map, List.length_range]
theorem sqsI_succ (n : Nat) : sqsI (n + 1) = sqsI n ++ [(1 + (n : Int)) * (1 + (n : Int))] := by unfold sqsI; rw [List.range_succ, List.map_append]; rfl
theorem nosq_far {N : Int} (b : N.natAbs ≤ 10000) (h : N ∉ [0] ++ sqsI 100) : NoSq N := by
  refine nosq_dec ⟨fun z => h (by rw [z]; simp), b, fun k hk z => h ?_⟩
  rcases k with _ | k
  · rw [z]; simp
  · refine List.mem_append.mpr (.inr (List.mem_map.mpr ⟨k, List.mem_range.mpr (by omega), ?_⟩))
    rw [z, Int.natCast_add, Int.add_comm (k : Int)]
    rfl
section
variable {P : Program} {w : World} {K : PySem.W.Frag} {mg : Str → Option Value} {base : Heap} {f : Addr} {fd : FuncData} {CR CA CF : Addr}
structure RightP (vs : List V) (H : Hp) (Q : VK) : Prop where
  ex : ∃ (p : Addr) (n : Nat), vs = [.ref p] ∧ Sk p n H ∧ n ≤ 700000 ∧ ∀ (H' : Hp), Keep p H H' → Sk p (n + 100) H' → Q (.bl true) H'
def spRight : Sp := fun vs H Q _ => RightP vs H Q
set_option maxHeartbeats 16000000 in
theorem ok_right (F : FnD K "_law_right" "_law_right" s_L_right f fd) (T : Glob mg) (R : FourK K CF) (RA : AlgK K CA) (W_Four : OwnT K CF) (C_L_pair : Cal P w K mg base 3 "_law_pair" ["_law_jug_here"] spKPair) (C_L_pour : Cal P w K mg base 1 "_law_pour" ["_law_jug_here", "_law_many"] spTake) (C_L_near : Cal P w K mg base 11 "_law_near" ["_law_jug_here", "_law_algebra", "_law_strange", "_law_root"] (spLNear CF CR CA)) (C_L_of : Cal P w K mg base 2 "_law_of" ["_law_jug_here", "_law_items"] (spOneOf K))
    (C_P_is_root_paper : Cal P w K mg base 12 "is_root_paper" ["algebra", "number", "value"] (spPap K CF CR CA)) (C_L_is_due : Cal P w K mg base 4 "_law_is_due" ["_law_algebra", "_law_number", "_law_value"] (spPap K CF CR CA)) (C_P_has_root : Cal P w K mg base 6 "has_root" ["algebra", "number"] (spHasR CA)) (C_L_places : Cal P w K mg base 3 "_law_places" ["_law_a", "_law_b"] spLPl) (C_L_is_local_square : Cal P w K mg base 2 "_law_is_local_square" ["_law_number", "_law_place"] spSqAt)
    (N_Algebra_2 : CalC P w K mg base 6 "Algebra" CA ["self", "a", "b"] [] (spAlgInit CA)) (N_Four_2 : CalC P w K mg base 7 "Four" CF ["self", "algebra", "entries", "bottom"] [.int 1] (spFourInit CF CR CA)) :
    FnOk P w K mg base CX0 13 f fd ["_law_jug_here"] spRight := by
  refine F.ok sc_L_right (fun vs H Q E h => ?_) (fun cdv A outer s H vs Q E hr h => ?_)
  · obtain ⟨p, n, rfl, _⟩ := h.ex; rfl
  · obtain ⟨p, n, rfl, hs, hn, q⟩ := h.ex
    refine ⟨_, PSs.nox (pss_cons (ps_asg (pe_cal C_L_pair (hr.mono (by decide)) (pa_cons (pv 0) pa_nil)) (pg_tup (by rfl) (pgs_cons (pg_name (i := 1) sc_L_right.nd rfl (Or.inl rfl)) (pgs_cons (pg_name (i := 2) sc_L_right.nd rfl (Or.inl rfl)) pgs_nil))))
      (pss_cons (ps_par (i := 3) (j := 4) (by rfl) sc_L_right.nd rfl rfl (by decide) rfl rfl (pa_cons (pe_new N_Algebra_2 (hr.mono (by decide)) (pa_cons (pv 1) (pa_cons (pv 2) pa_nil))) (pa_cons (pe_new N_Algebra_2 (hr.mono (by decide)) (pa_cons (pv 1) (pa_cons (pe_cut (pe_ifExp (pt_cmp (pc_neI (pv 2) (pe_un un_neg pe_int))) (pe_op op_add (pv 2) pe_int) pe_int)) pa_nil))) pa_nil)) (by rfl))
      (pss_cons (ps_asg (pe_lc rfl sc_L_right.nd (own := [("_law_at", 8)]) (pi_range1 (by rfl) T.m_range (pa_cons pe_int pa_nil)) (blkOk_by (N := ["_law_jug_here", "_law_a", "_law_b", "_law_algebra", "_law_strange", "_law_x", "_law_y", "_law_z", "_law_at", "_law_number", "_law_root", "_law_is_far", "_law_value", "_law_bars", "_law_place"]) (sc := defScope s_L_right) (by decide +kernel)) (fun _ _ _ _ _ => pg_name (i := 8) sc_L_right.nd rfl (Or.inl rfl)) (fun _ _ _ _ _ => pts_nil) (fun _ _ _ _ _ => (pe_op op_sub (pe_cal C_L_pour (hr.mono (by decide)) (pa_cons (pv 0) (pa_cons pe_int pa_nil))) pe_int))) (pg_lst (by rfl) (pgs_cons (pg_name (i := 5) sc_L_right.nd rfl (Or.inl rfl)) (pgs_cons (pg_name (i := 6) sc_L_right.nd rfl (Or.inl rfl)) (pgs_cons (pg_name (i := 7) sc_L_right.nd rfl (Or.inl rfl)) pgs_nil)))))
      (pss_cons (ps_set (i := 9) sc_L_right.nd rfl (Or.inr rfl) (pe_op op_sub (pe_op op_add (pe_op op_mulW (pe_op op_mulW (pv 1) (pv 5)) (pv 5)) (pe_op op_mulW (pe_op op_mulW (pv 2) (pv 6)) (pv 6))) (pe_op op_mulW (pe_op op_mulW (pe_op op_mulW (pv 1) (pv 2)) (pv 7)) (pv 7))))
      (pss_cons (ps_set (i := 10) sc_L_right.nd rfl (Or.inl rfl) (pe_new N_Four_2 (hr.mono (by decide)) (pa_cons (pv 3) (pa_cons (pe_tup (pa_cons pe_int (pa_cons (pv 5) (pa_cons (pv 6) (pa_cons (pv 7) pa_nil))))) pa_nil))))
      (Evl.pss_cut (ps_set (i := 11) sc_L_right.nd rfl (Or.inl rfl) (pe_or (pe_cmp (pc_gt (pv 9) (pe_op op_powW pe_int pe_int)) rfl) (pe_one (pe_cmp (pc_lt (pv 9) (pe_un un_neg (pe_op op_powW pe_int pe_int))) rfl))))
      (Evl.pss_cut (ps_if (PW.pt (pw_or (pt_val (pv 11)) (pw_or (pt_cmpR op_in_seq (pv 9) (pe_op op_cat (pe_lst (pa_cons pe_int pa_nil)) (pe_lc rfl sc_L_right.nd (own := [("_law_at", 8)]) (pi_range2 (by rfl) T.m_range (pa_cons pe_int (pa_cons pe_int pa_nil))) (blkOk_by (N := ["_law_jug_here", "_law_a", "_law_b", "_law_algebra", "_law_strange", "_law_x", "_law_y", "_law_z", "_law_at", "_law_number", "_law_root", "_law_is_far", "_law_value", "_law_bars", "_law_place"]) (sc := defScope s_L_right) (by decide +kernel)) (fun _ _ _ _ _ => pg_name (i := 8) sc_L_right.nd rfl (Or.inl rfl)) (fun _ _ _ _ _ => pts_nil) (fun _ _ _ _ _ => (pe_op op_mulW (pv 8) (pv 8))))) (by rfl)) (pw_or1 (pt_cmpR op_eq (pe_cal C_L_pour (hr.mono (by decide)) (pa_cons (pv 0) (pa_cons pe_int pa_nil))) pe_int (nomark _)))))) (pss_one (ps_set (i := 9) sc_L_right.nd rfl (Or.inr rfl) (pe_cal C_L_of (hr.mono (by decide)) (pa_cons (pv 0) (pa_cons (pe_lst (pa_cons (pe_un un_neg pe_int) (pa_cons (pe_un un_neg pe_int) (pa_cons (pe_un un_neg pe_int) (pa_cons (pe_un un_neg pe_int) (pa_cons pe_int (pa_cons pe_int (pa_cons pe_int (pa_cons (pe_un un_neg pe_int) (pa_cons pe_int (pa_cons (pe_un un_neg pe_int) (pa_cons pe_int (pa_cons (pe_un un_neg pe_int) (pa_cons pe_int pa_nil)))))))))))))) pa_nil))))) pss_nil)
      (pss_cons (ps_for PassesOwn.never rfl (pi_list (pe_cal C_L_near (hr.mono (by decide)) (pa_cons (pv 0) (pa_cons (pv 3) (pa_cons (pv 4) (pa_cons (pv 10) pa_nil)))))) (pg_name (i := 12) sc_L_right.nd rfl (Or.inl rfl)) (pss_one (ps_if (pt_cmpR op_ne (pe_callB cr_repr_bl (by rfl) T.m_repr (by decide +kernel) (pa_cons (pe_cal C_P_is_root_paper (hr.mono (by decide)) (pa_cons (pv 3) (pa_cons (pv 9) (pa_cons (pv 12) pa_nil)))) pa_nil)) (pe_callB cr_repr_bl (by rfl) T.m_repr (by decide +kernel) (pa_cons (pe_cal C_L_is_due (hr.mono (by decide)) (pa_cons (pv 3) (pa_cons (pv 9) (pa_cons (pv 12) pa_nil)))) pa_nil)) (nomark _)) (pss_one (ps_ret pe_bl)) pss_nil)))
      (pss_cons (ps_setLc (i := 13) rfl sc_L_right.nd rfl rfl (sw_true rfl rfl rfl (by decide +kernel)) (own := [("_law_place", 14)]) (pi_tup (pe_cal C_L_places (hr.mono (by decide)) (pa_cons (pv 1) (pa_cons (pv 2) pa_nil)))) (blkOk_by (N := ["_law_jug_here", "_law_a", "_law_b", "_law_algebra", "_law_strange", "_law_x", "_law_y", "_law_z", "_law_at", "_law_number", "_law_root", "_law_is_far", "_law_value", "_law_bars", "_law_place"]) (sc := defScope s_L_right) (by decide +kernel)) (fun _ _ _ _ _ => pg_name (i := 14) sc_L_right.nd rfl (Or.inl rfl)) (fun _ _ _ _ _ => pts_one (pt_val (pe_cal C_L_is_local_square (hr.mono (by decide)) (pa_cons (pv 9) (pa_cons (pv 14) pa_nil))))) (fun _ _ _ _ _ => (pv 14)))
      (pss_one (ps_ret (pe_cmpR op_eq (pe_callB cr_repr_bl (by rfl) T.m_repr (by decide +kernel) (pa_cons (pe_cal C_P_has_root (hr.mono (by decide)) (pa_cons (pv 3) (pa_cons (pv 9) pa_nil))) pa_nil)) (pe_callB cr_repr_bl (by rfl) T.m_repr (by decide +kernel) (pa_cons (pe_cmpR (op_eqD hr.units) (pv 13) (pe_lst pa_nil) (nomark _)) pa_nil)) (nomark _))))))))))))), ?_⟩
    refine ⟨_, rfl, ⟨p, n, rfl, hs, by omega, fun a b t H1 a0 b0 a1 b1 k1 s1 ht => ⟨t, _, rfl, SqT.of ht, rfl, _, _, rfl, _, _, rfl, rfl, ?_⟩⟩⟩
    have ba : a.natAbs < 2 ^ 10 := by omega
    have bb : b.natAbs < 2 ^ 10 := by omega
    refine ⟨_, rfl, _, rfl, fun al dal hal hdal nda => new_alg a0 b0 (by omega) (by omega) hal hdal nda fun H2 e2 hA => ⟨rfl, ?_⟩⟩
    refine ⟨_, rfl, fun v H' => ∃ c : Int, v = .int c ∧ c ≠ 0 ∧ c ≠ b ∧ c.natAbs ≤ 101 ∧ H2 = H', ?_, ?_⟩
    · refine ⟨_, rfl, 1, rfl, _, _, rfl, rfl, _, rfl, ifn (fun c => ?_) (fun c => ?_)⟩
      · exact ⟨_, rfl, _, _, rfl, rfl, b + 1, rfl, by omega, by omega, by omega, rfl⟩
      · exact ⟨5, rfl, by decide, by omega, by decide, rfl⟩
    rintro _ _ ⟨c, rfl, c0, cb, cc, rfl⟩
    refine fun be dbe hbe hdbe ndb => new_alg a0 c0 (by omega) (by omega) hbe hdbe ndb fun H3 e3 hB => ⟨rfl, _, _, rfl, ?_⟩
    have e23 := e2.trans e3
    replace hA := hA.same e3
    have s3 := s1.same e23
    have k3 := k1.trans (Keep.same e23)
    clear ht e2 e3 e23
    refine ⟨3, rfl, by decide, by decide, fun D hD => lc_range (lo := 0) (n := 3) (fun i H' => ∃ ys : List Int, ys.length = i ∧ (∀ y ∈ ys, y.natAbs ≤ 3) ∧ Keep p H3 H' ∧ Sk p (n + 5 + i) H' ∧ D ≠ p ∧ H' D = some (.lst (ys.map V.int))) ⟨[], rfl, by simp, Keep.new hD, s3.same (same_upd hD), (s3.ne hD).symm, upd_same⟩ (fun i H4 hi hP => ?_) (fun H4 hP => ?_)⟩
    · obtain ⟨ys, ly, hy, k4, s4, nD, hd⟩ := hP
      refine ⟨rfl, _, rfl, take_of s4 (by omega) (by decide) (by decide) fun r H5 r0 r7 k5 s5 f5 => ⟨_, _, rfl, rfl, ?_⟩⟩
      refine ⟨_, k5 _ _ hd nD, ?_, ys ++ [r - 3], by rw [List.length_append, ly]; rfl, fun y hy' => ?_, fun c' o e' nc => ?_, ?_, nD, ?_⟩
      · rw [List.length_map, ly]
        exact Nat.lt_of_lt_of_le (by omega : i < 100000) (by decide)
      · rcases List.mem_append.mp hy' with h' | h'
        · exact hy y h'
        · rw [List.mem_singleton.mp h']
          omega
      · by_cases hc : c' = D
        · subst hc
          rw [hD] at e'
          cases e'
        · rw [upd_ne hc]
          exact k5 _ _ (k4 _ _ e' nc) nc
      · obtain ⟨xs, ax, ao⟩ := s5
        exact ⟨xs, by rw [upd_ne nD.symm]; exact ax, ao⟩
      · rw [upd_same, List.map_append]
        rfl
    obtain ⟨ys, ly, hy, k4, s4, nD, hd⟩ := hP
    obtain ⟨x, y, z, rfl⟩ : ∃ x y z : Int, ys = [x, y, z] := by
      match ys, ly with
      | [x, y, z], _ => exact ⟨x, y, z, rfl⟩
    have x3 := hy x (by simp)
    have y3 := hy y (by simp)
    have z3 := hy z (by simp)
    refine ⟨D, _, rfl, SqL.of hd, rfl, _, _, rfl, _, _, rfl, _, _, rfl, rfl, ?_⟩
    have cm : ∀ {i j : Int}, i.natAbs ≤ 100000 → j.natAbs ≤ 100000 → CMulW i j := fun h1 h2 => CMulW.of (lt3000s (by omega) (by omega)) (lt3000s (by omega) (by omega))
    have mb : ∀ {i j : Int} {m k : Nat}, i.natAbs ≤ m → j.natAbs ≤ k → (i * j).natAbs ≤ m * k := fun h1 h2 => by rw [Int.natAbs_mul]; exact Nat.mul_le_mul h1 h2
    have ax := mb a1 x3
    have axx := mb ax x3
    have by_ := mb b1 y3
    have byy := mb by_ y3
    have ab := mb a1 b1
    have abz := mb ab z3
    have abzz := mb abz z3
    refine ⟨_, rfl, _, rfl, _, _, rfl, rfl, cm (by omega) (by omega), _, rfl, _, _, rfl, rfl, cm (by omega) (by omega), _, rfl, _, rfl, _, _, rfl, rfl, cm (by omega) (by omega), _, rfl, _, _, rfl, rfl, cm (by omega) (by omega), _, _, rfl, rfl, ?_⟩
    refine ⟨_, rfl, _, rfl, _, _, rfl, rfl, cm (by omega) (by omega), _, rfl, _, _, rfl, rfl, cm (by omega) (by omega), _, rfl, _, _, rfl, rfl, cm (by omega) (by omega), _, _, rfl, rfl, ?_⟩
    replace hA := hA.keep s3 k4
    replace hB := hB.keep s3 k4
    have kk := k3.trans k4
    clear s3 k3 k4 hy ly hD k1 s1
    refine ⟨_, rfl, _, rfl, _, rfl, _, rfl, (by show 4 ≤ sizeLine; decide), fun te hte => ?_⟩
    have sm : ∀ {i : Int}, i.natAbs ≤ 3 → i.natAbs < 10 ^ 60 ∧ i.natAbs < 2 ^ 20 := fun h => ⟨Nat.lt_of_le_of_lt h (by decide +kernel), Nat.lt_of_le_of_lt h (by decide)⟩
    have o0 := sm (i := 0) (by decide)
    have o1 := sm (i := 1) (by decide)
    have bF : Bd 20 ⟨0, x, y, z, 1⟩ := ⟨o0.2, (sm x3).2, (sm y3).2, (sm z3).2, o1.2⟩
    have qe := same_upd (o := .tup [.int 0, .int x, .int y, .int z]) hte
    refine fun rt drt hrt hdrt nrt => new_four (p := ⟨0, x, y, z, 1⟩) (hA.same qe) upd_same (by show (1 : Int) ≠ 0; decide) ⟨o0.1, (sm x3).1, (sm y3).1, (sm z3).1, o1.1⟩ (bd_mono bF (by decide)) (fun r hr => by rw [low_one_q hr]; exact bd_mono bF (by decide)) hrt hdrt nrt fun r5 H5 hr5 e5 f5 => ⟨rfl, ?_⟩
    have er5 := low_one_q hr5
    subst er5
    have wr := Wo.of f5 bF
    have e45 := qe.trans e5
    replace hA := hA.same e45
    replace hB := hB.same e45
    replace s4 := s4.same e45
    replace kk := kk.trans (Keep.same e45)
    clear f5 hr5 e5 qe hrt hdrt nrt hte hd e45 bF o0 o1 sm
    have hN : (a * x * x + b * y * y - a * b * z * z).natAbs ≤ 100000 := by omega
    generalize hσ : List.set _ 9 _ = σ0
    have eσ : σ0 = [some (.ref p), some (.int a), some (.int b), some (.ref al), some (.ref be), some (.int x), some (.int y), some (.int z), none, some (.int (a * x * x + b * y * y - a * b * z * z)), none, none, none, none, none] := hσ.symm.trans rfl
    subst eσ
    clear hσ
    clear axx byy abz abzz ax by_ ab
    generalize a * x * x + b * y * y - a * b * z * z = N at *
    have p4 : CPowW 10 4 := ⟨by decide, by decide +kernel⟩
    refine ⟨fun σ H' => H5 = H' ∧ ∃ far : Bool, (far = false → N.natAbs ≤ 10000) ∧ σ = [some (.ref p), some (.int a), some (.int b), some (.ref al), some (.ref be), some (.int x), some (.int y), some (.int z), none, some (.int N), some (.ref rt), some (.bl far), none, none, none], ?_, ?_⟩
    · refine ⟨_, rfl, 10, 4, rfl, rfl, p4, ?_⟩
      refine ⟨_, _, rfl, rfl, _, rfl, ifd (fun hg => ?_) (fun hg => ?_)⟩
      · exact ⟨rfl, true, (fun z => Bool.noConfusion z), rfl⟩
      · refine ⟨_, rfl, 10, 4, rfl, rfl, p4, _, rfl, _, _, rfl, rfl, ?_⟩
        refine ⟨rfl, decide (N < -10000), fun z => ?_, rfl⟩
        have h1 : ¬ N < -10000 := of_decide_eq_false z
        have h2 : ¬ N > 10000 := hg
        omega
    rintro σ _ ⟨rfl, far, hfar, rfl⟩
    refine ⟨fun σ H' => ∃ M : Int, NoSq M ∧ Keep p H5 H' ∧ Sk p (n + 20) H' ∧ σ = [some (.ref p), some (.int a), some (.int b), some (.ref al), some (.ref be), some (.int x), some (.int y), some (.int z), none, some (.int M), some (.ref rt), some (.bl far), none, none, none], ?_, ?_⟩
    · refine ⟨_, rfl, far, rfl, ?_⟩
      cases far with
      | true =>
        refine (if_pos rfl).mpr ((if_pos rfl).mpr ?_)
        have k7 := Keep.refl p H5
        have s7 := s4
        refine ⟨_, rfl, _, rfl, _, rfl, _, rfl, _, rfl, _, rfl, _, rfl, _, rfl, (by show 13 ≤ sizeLine; decide), fun tl htl => ?_⟩
        refine one_of_new s7 (by omega) htl (by show 1 ≤ 13; decide) (by show 13 ≤ 1000000; decide) fun v H8 hv k8 s8 => ?_
        obtain ⟨M, rfl, hM⟩ := nosq_told v hv
        exact ⟨M, hM, k7.trans k8, s8.mono (by omega), rfl⟩
      | false =>
        have N1 := hfar rfl
        refine (if_neg (by decide)).mpr ?_
        refine ⟨_, rfl, (by show 1 ≤ sizeLine; decide), fun l1 hl1 => ?_⟩
        have q1 := same_upd (o := .lst [.int 0]) hl1
        have g1 := upd_same (H := H5) (a := l1) (o := .lst [.int 0])
        generalize (upd H5 l1 (.lst [.int 0])) = G1 at *
        refine ⟨1, 101, rfl, by decide, fun D hD => lc_range (lo := 1) (n := 100) (fun i H' => Same G1 H' ∧ H' D = some (.lst ((sqsI i).map V.int))) ⟨same_upd hD, upd_same⟩ (fun i H' hi hP => ?_) (fun H' hP => ?_)⟩
        · obtain ⟨e1, hd⟩ := hP
          have bi : (1 + (i : Int)).natAbs ≤ 100000 := by omega
          refine ⟨rfl, _, rfl, _, rfl, _, _, rfl, rfl, cm bi bi, ?_⟩
          refine ⟨_, hd, ?_, fun c' o ec => ?_, ?_⟩
          · rw [List.length_map, sqsI_len]
            exact Nat.lt_of_lt_of_le (by omega : i < 1000) (by decide)
          · rw [upd_ne (ne_of_none ec hD)]
            exact e1 _ _ ec
          · rw [upd_same, sqsI_succ, List.map_append]
            rfl
        · obtain ⟨e1, hd⟩ := hP
          refine ⟨l1, D, _, _, rfl, rfl, e1 _ _ g1, hd, (by rw [List.length_map, sqsI_len]; decide), fun l2 hl2 => ?_⟩
          have q2 := same_upd (o := .lst ([.int 0] ++ (sqsI 100).map V.int)) hl2
          have g2 : upd H' l2 (.lst ([.int 0] ++ (sqsI 100).map V.int)) l2 = some (.lst (([0] ++ sqsI 100 : List Int).map V.int)) := upd_same
          generalize (upd H' l2 (.lst ([.int 0] ++ (sqsI 100).map V.int))) = G2 at *
          have q12 := (q1.trans e1).trans q2
          refine ⟨l2, _, rfl, .inl (SqL.of g2), rfl, flat_ints _, _, rfl, ?_⟩
          by_cases hm : N ∈ ([0] ++ sqsI 100 : List Int)
          · refine (if_pos (by rw [inV_ints, decide_eq_true hm]; rfl)).mpr ((if_pos rfl).mpr ?_)
            have k7 := Keep.same (p := p) q12
            have s7 := s4.same q12
            refine ⟨_, rfl, _, rfl, _, rfl, _, rfl, _, rfl, _, rfl, _, rfl, _, rfl, (by show 13 ≤ sizeLine; decide), fun tl htl => ?_⟩
            refine one_of_new s7 (by omega) htl (by show 1 ≤ 13; decide) (by show 13 ≤ 1000000; decide) fun v H8 hv k8 s8 => ?_
            obtain ⟨M, rfl, hM⟩ := nosq_told v hv
            exact ⟨M, hM, k7.trans k8, s8.mono (by omega), rfl⟩
          · refine (if_neg (by rw [inV_ints, decide_eq_false hm]; decide)).mpr ?_
            refine ⟨_, rfl, take_of (s4.same q12) (by omega) (by decide) (by decide) fun r H7 r0 r4 k7' s7 f7 => ?_⟩
            have k7 := (Keep.same (p := p) q12).trans k7'
            refine ⟨rfl, _, rfl, ?_⟩
            by_cases hr0 : r = 0
            · refine (if_pos (by rw [hr0]; rfl)).mpr ?_
              refine ⟨_, rfl, _, rfl, _, rfl, _, rfl, _, rfl, _, rfl, _, rfl, _, rfl, (by show 13 ≤ sizeLine; decide), fun tl htl => ?_⟩
              refine one_of_new s7 (by omega) htl (by show 1 ≤ 13; decide) (by show 13 ≤ 1000000; decide) fun v H8 hv k8 s8 => ?_
              obtain ⟨M, rfl, hM⟩ := nosq_told v hv
              exact ⟨M, hM, k7.trans k8, s8.mono (by omega), rfl⟩
            · refine (if_neg (by rw [decide_eq_false (fun z => hr0 (V.int.inj z))]; decide)).mpr ?_
              exact ⟨N, nosq_far N1 hm, k7, s7.mono (by omega), rfl⟩
    rintro σ H6 ⟨M, hM, k6, s6, rfl⟩
    replace hA := hA.keep s4 k6
    replace hB := hB.keep s4 k6
    replace wr := wr.keep s4 k6
    replace kk := kk.trans k6
    clear k6 s4 hfar hN
    refine ⟨_, rfl, _, rfl, _, rfl, _, rfl, ⟨p, al, be, rt, n + 20, a, b, a, c, _, rfl, s6, by omega, ⟨hA, hB, wr⟩, fun z => cb z.2, ba, bb, fun L us H7 k7 s7 hL nL Lu => ⟨L, rfl, ⟨_, SqL.of hL⟩, ?_⟩⟩⟩
    replace hA := hA.keep s6 k7
    replace kk := kk.trans k7
    clear k7 s6 hB wr
    refine for_list (K := K) (a := L) (xs := us) (fun i σ H' => ∃ v1, σ = [some (.ref p), some (.int a), some (.int b), some (.ref al), some (.ref be), some (.int x), some (.int y), some (.int z), none, some (.int M), some (.ref rt), some (.bl far), v1, none, none] ∧ Same H7 H') ⟨none, rfl, Same.refl _⟩ (fun i σ H' _ hp => SqL.of (hp.choose_spec.2 _ _ hL)) ?_ ?_
    · rintro i v σ H' hv ⟨v1, rfl, e1⟩
      obtain ⟨J, hJ⟩ := (Lu v (List.mem_of_getElem? hv)).papA (K := K) R.own W_Four M
      refine ⟨_, rfl, _, rfl, _, rfl, ⟨al, a, b, M, v, J, rfl, hA.same e1, ba, bb, hM, hJ _ (.same e1), fun r1 G1 g1 ei1 => ⟨r1, rfl, ?_⟩⟩⟩
      have e2 := e1.trans g1
      refine ⟨_, rfl, _, rfl, _, rfl, ⟨al, a, b, M, v, J, rfl, hA.same e2, ba, bb, hM, hJ _ (.same e2), fun r2 G2 g2 ei2 => ⟨r2, rfl, ?_⟩⟩⟩
      have er : r1 = r2 := Bool.eq_iff_iff.mpr (ei1.trans ei2.symm)
      subst er
      refine ⟨by cases r1 <;> rfl, _, rfl, ifn (fun z => absurd rfl z) (fun _ => ?_)⟩
      exact ⟨_, rfl, e2.trans g2⟩
    · rintro σ H' ⟨v1, rfl, e1⟩
      replace hA := hA.same e1
      replace kk := kk.trans (Keep.same e1)
      replace s7 := s7.same e1
      have hM2 := hM.2.1
      clear Lu hL e1
      refine ⟨_, rfl, _, rfl, ⟨a, b, rfl, a0, b0, by omega, by omega, fun l t G1 hP hl g1 ht => ⟨t, rfl, ⟨_, SqT.of ht⟩, fun D hD => lc_tup (K := K) (a := t) (xs := l.map V.int) (fun i H' => Same G1 H' ∧ H' D = some (.lst ((sqL M (l.take i)).map V.int))) ⟨same_upd hD, upd_same⟩ (fun i H' _ hp => SqT.of (hp.1 _ _ ht)) (fun i v H8 hv hP2 => ?_) (fun H8 hP2 => ?_)⟩⟩⟩
      · obtain ⟨e1, hd⟩ := hP2
        rw [List.getElem?_map] at hv
        obtain ⟨p', hpi, rfl⟩ := Option.map_eq_some_iff.mp hv
        have hmem := List.mem_of_getElem? hpi
        have hpp := ((hP.2 p').mp hmem).1
        have hle := place_le4 hP a0 b0 (by omega) (by omega) hmem
        have st := sqL_step (n := M) hpi
        refine ⟨rfl, ?_⟩
        refine ⟨_, rfl, _, rfl, M, p', rfl, hM.1, by omega, hpp.imp id fun k => ⟨k, by omega⟩, fun r G2 hr g2 => ⟨_, rfl, ?_⟩⟩
        rw [← sqB_is hpp hr] at st
        cases r with
        | true =>
          rw [cond_true] at st
          refine (if_pos rfl).mpr ⟨_, rfl, _, g2 _ _ hd, ?_, ?_, ?_⟩
          · rw [List.length_map]
            have k1 := sqL_len M (l.take i)
            have k2 := List.length_take_le' i l
            exact Nat.lt_of_le_of_lt (by omega : (sqL M (l.take i)).length ≤ 20000) (by decide)
          · intro b o eb
            rw [upd_ne (ne_of_none eb hD)]
            exact g2 _ _ (e1 _ _ eb)
          · rw [upd_same, st, List.map_append]
            rfl
        | false =>
          rw [cond_false, List.append_nil] at st
          exact (if_neg (by decide)).mpr ⟨e1.trans g2, by rw [st]; exact g2 _ _ hd⟩
      · obtain ⟨g8, hd⟩ := hP2
        rw [List.length_map, List.take_length] at hd
        have g18 := g1.trans g8
        refine ⟨_, rfl, _, rfl, ⟨al, a, b, M, rfl, hA.same g18, by omega, by omega, hM, fun l' H9 hP' g9 => ⟨_, rfl, ?_⟩⟩⟩
        have el := places_unique hP hP'
        subst el
        refine ⟨_, rfl, (by show 0 ≤ sizeLine; decide), fun t0 h0 => ?_⟩
        refine ⟨_, _, dp_list (ns := sqL M l) (SqL.of (same_upd h0 _ _ (g9 _ _ hd))), dp_list (ns := []) (SqL.of upd_same), shp_list _, shp_list _, ?_⟩
        rw [show PyData.eqv (.list ((sqL M l).map PyData.int)) (.list (([] : List Int).map PyData.int)) = decide ((sqL M l).length = 0) by rw [show (.list (([] : List Int).map PyData.int) : PyData) = .list [] from rfl, eqv_nil, List.length_map]]
        refine ⟨_, rfl, ?_⟩
        generalize decide ((sqL M l).length = 0) = bb
        refine ⟨by cases bb <;> rfl, ?_⟩
        have gg := (g18.trans g9).trans (same_upd (o := .lst []) h0)
        rw [decide_eq_true rfl]
        exact q _ (kk.trans (Keep.same gg)) ((s7.same gg).mono (by omega))
end
end Sf

namespace Sf
open PySem PySem.Spec PyProof.Rows L2
theorem root_told : Cross (prodQ (-1) (-1) ⟨0, 1, 1, 1, 1⟩ ⟨0, 1, 1, 1, 1⟩) (sclQ (-3) 1 uQ) := by unfold Cross; decide
theorem pr2 : PrP 2 := prime2
theorem not3 : ¬ SqAt (-3) 2 true := fun h => by
  have g : SqAt (-3) 2 false := .inr ⟨by decide, 0, -3, ⟨by decide, by decide⟩, by unfold sqU; decide⟩
  cases sqAt_uni (.inr pr2) h g
theorem yes17 : ((((2 : Int) = 0 ∨ PrP 2) ∧ HSign (-1) (-1) 2 (-1)) ∧ SqAt 17 2 true) :=
  ⟨⟨.inr pr2, .inr ⟨by decide, 0, 0, -1, -1, ⟨by decide, by decide⟩, ⟨by decide, by decide⟩, by unfold sgnAt; decide⟩⟩, .inr ⟨by decide, 0, 17, ⟨by decide, by decide⟩, by unfold sqU; decide⟩⟩
theorem not11 : ¬ ((11 : Int) = 0 ∨ PrP 11) ∨ ¬ HSign (-1) (-1) 11 (-1) := by
  refine .inr fun h => ?_
  have p11 : PrP 11 := ⟨by decide, fun k h1 h2 => by
    have : k = 2 ∨ k = 3 ∨ k = 4 ∨ k = 5 ∨ k = 6 ∨ k = 7 ∨ k = 8 ∨ k = 9 ∨ k = 10 := by omega
    rcases this with rfl | rfl | rfl | rfl | rfl | rfl | rfl | rfl | rfl <;> decide⟩
  have := sign_far p11 (by decide) (by decide) (by decide) h
  omega
section
variable {P : Program} {w : World} {K : PySem.W.Frag} {mg : Str → Option Value} {base : Heap} {f : Addr} {fd : FuncData} {CR CA CF : Addr}
def spLaw (K : PySem.W.Frag) : Sp := fun vs H Q _ => ∃ (a : Addr) (ns : List Int), vs = [.ref a] ∧ SqL K H a (ns.map V.int) ∧ ns.length ≤ 63 ∧ ∀ H', Q (.bl true) H'
set_option maxHeartbeats 16000000 in
theorem ok_law (F : FnD K "law" "law" s_L_law f fd) (T : Glob mg) (C_L_jug : Cal P w K mg base 1 "_law_jug" ["_law_script", "_law_spot"] (spSack K)) (C_L_right : Cal P w K mg base 13 "_law_right" ["_law_jug_here"] spRight) (C_P_is_root_paper : Cal P w K mg base 12 "is_root_paper" ["algebra", "number", "value"] (spPap K CF CR CA))
    (N_Algebra_2 : CalC P w K mg base 6 "Algebra" CA ["self", "a", "b"] [] (spAlgInit CA)) (N_Four_2 : CalC P w K mg base 7 "Four" CF ["self", "algebra", "entries", "bottom"] [.int 1] (spFourInit CF CR CA)) :
    FnOk P w K mg base CX0 14 f fd ["_law_script"] (spLaw K) := by
  refine F.ok sc_L_law (fun vs H Q E h => ?_) (fun cdv A outer s H vs Q E hr h => ?_)
  · obtain ⟨a, ns, rfl, _⟩ := h; rfl
  · obtain ⟨a, ns, rfl, hS, hl, q⟩ := h
    refine ⟨_, PSs.nox (pss_cons (ps_for PassesOwn.never rfl (pi_range1 (by rfl) T.m_range (pa_cons (pe_callB (call_max2 rfl) (by rfl) T.m_max (by decide +kernel) (pa_cons pe_int (pa_cons (pe_callB (call_min2 rfl) (by rfl) T.m_min (by decide +kernel) (pa_cons pe_int (pa_cons (pe_callB call_len_seq (by rfl) T.m_len (by decide +kernel) (pa_cons (pv 0) pa_nil)) pa_nil))) pa_nil))) pa_nil)) (pg_name (i := 1) sc_L_law.nd rfl (Or.inl rfl)) (pss_one (ps_if (pt_not (pt_val (pe_cal C_L_right (hr.mono (by decide)) (pa_cons (pe_cal C_L_jug (hr.mono (by decide)) (pa_cons (pv 0) (pa_cons (pv 1) pa_nil))) pa_nil)))) (pss_one (ps_ret pe_bl)) pss_nil)))
      (pss_cons (ps_set (i := 2) sc_L_law.nd rfl (Or.inl rfl) (pe_new N_Algebra_2 (hr.mono (by decide)) (pa_cons (pe_un un_neg pe_int) (pa_cons (pe_un un_neg pe_int) pa_nil))))
      (pss_cons (ps_set (i := 3) sc_L_law.nd rfl (Or.inl rfl) (pe_lst (pa_cons (pe_cal C_P_is_root_paper (hr.mono (by decide)) (pa_cons (pv 2) (pa_cons (pe_un un_neg pe_int) (pa_cons (pe_tup (pa_cons pe_str (pa_cons (pe_new N_Four_2 (hr.mono (by decide)) (pa_cons (pv 2) (pa_cons (pe_tup (pa_cons pe_int (pa_cons pe_int (pa_cons pe_int (pa_cons pe_int pa_nil))))) pa_nil))) pa_nil))) pa_nil)))) (pa_cons (pe_cal C_P_is_root_paper (hr.mono (by decide)) (pa_cons (pv 2) (pa_cons (pe_un un_neg pe_int) (pa_cons (pe_tup (pa_cons pe_str (pa_cons pe_int pa_nil))) pa_nil)))) pa_nil))))
      (pss_cons (ps_set (i := 3) sc_L_law.nd rfl (Or.inl rfl) (pe_op op_cat (pv 3) (pe_lst (pa_cons (pe_cal C_P_is_root_paper (hr.mono (by decide)) (pa_cons (pv 2) (pa_cons pe_int (pa_cons (pe_tup (pa_cons pe_str (pa_cons pe_int pa_nil))) pa_nil)))) (pa_cons (pe_cal C_P_is_root_paper (hr.mono (by decide)) (pa_cons (pv 2) (pa_cons (pe_un un_neg pe_int) (pa_cons (pe_tup (pa_cons pe_str (pa_cons pe_int pa_nil))) pa_nil)))) pa_nil)))))
      (pss_one (ps_ret (pe_cmpR (op_eqD hr.units) (pv 3) (pe_lst (pa_cons pe_bl (pa_cons pe_bl (pa_cons pe_bl (pa_cons pe_bl pa_nil))))) (nomark _)))))))), ?_⟩
    have hT : ∀ n : Nat, ∃ t : Nat, (if (if (n : Int) < 3 then (n : Int) else 3) > 1 then (if (n : Int) < 3 then (n : Int) else 3) else 1) = (t : Int) ∧ t ≤ 3 := fun n => by
      by_cases c : n < 3
      · by_cases c2 : n > 1
        · exact ⟨n, by rw [if_pos (by omega : (n : Int) < 3), if_pos (by omega)], by omega⟩
        · exact ⟨1, by rw [if_pos (by omega : (n : Int) < 3), if_neg (by omega)]; rfl, by omega⟩
      · exact ⟨3, by rw [if_neg (by omega : ¬ (n : Int) < 3), if_pos (by decide)]; rfl, by omega⟩
    obtain ⟨t, et, ht⟩ := hT (ns.map V.int).length
    refine ⟨_, rfl, a, _, rfl, .inl hS, _, _, rfl, _, _, rfl, (t : Int), ?_, by omega, by omega, ?_⟩
    · rw [← et]
    refine for_range (lo := 0) (n := t) (fun i σ H' => ∃ v1, σ = [some (.ref a), v1, none, none] ∧ Same H H') ⟨none, rfl, Same.refl H⟩ ?_ ?_
    · rintro i σ H0 hi ⟨v1, rfl, hs0⟩
      refine ⟨_, rfl, _, rfl, a, ns, i, by rw [Int.zero_add]; rfl, hs0.seq hS, hl, by omega, fun p xs H1 e1 hpn hp1 hxs => ?_⟩
      have s1 : Sk p 0 H1 := ⟨xs, hp1, hxs⟩
      refine ⟨p, 0, rfl, s1, by decide, fun H2 k2 s2 => ⟨_, rfl, ?_⟩⟩
      refine ⟨_, rfl, fun b o e => ?_⟩
      have e1' := e1 _ _ (hs0 _ _ e)
      have nb : b ≠ p := fun z => by
        rw [z] at e
        have := hs0 _ _ e
        rw [hpn] at this
        cases this
      exact k2 _ _ e1' nb
    · rintro σ H0 ⟨v1, rfl, hs0⟩
      refine ⟨_, rfl, _, rfl, fun al dal hal hdal nda => new_alg (a := -1) (b := -1) (by decide) (by decide) (by decide) (by decide) hal hdal nda fun H1 e1 hA => ⟨rfl, ?_⟩⟩
      clear hs0 e1
      have m1 : (-1 : Int).natAbs < 2 ^ 10 := by decide
      have n3 : NoSq (-3) := nosq_dec (by decide +kernel)
      have n17 : NoSq 17 := nosq_dec (by decide +kernel)
      have n2 : NoSq (-2) := nosq_dec (by decide +kernel)
      refine ⟨_, rfl, _, rfl, _, rfl, (by show 4 ≤ sizeLine; decide), fun te hte => ?_⟩
      have q1 := same_upd (o := .tup [.int 0, .int 1, .int 1, .int 1]) hte
      refine fun x dx hx hdx ndx => unit_four (.inl rfl) (.inr rfl) (.inr rfl) (.inr rfl) (hA.same q1) upd_same hx hdx ndx fun H2 e2 f2 => ⟨rfl, ?_⟩
      have w2 : Wo CF CR H2 x al (-1) (-1) ⟨0, 1, 1, 1, 1⟩ 2 := Wo.of f2 ⟨by decide, by decide, by decide, by decide, by decide⟩
      replace hA := (hA.same q1).same e2
      refine ⟨(by show 2 ≤ sizeLine; decide), fun t1 h1 => ?_⟩
      have q3 := same_upd (o := .tup [.str "root", .ref x]) h1
      refine ⟨al, -1, -1, -3, .ref t1, _, rfl, hA.same q3, m1, m1, n3, .root upd_same (w2.same q3) (hA.same q3) (by decide), fun r H3 e3 hr1 => ?_⟩
      have er : r = true := hr1.mpr root_told
      subst er
      replace hA := (hA.same q3).same e3
      clear q1 q3 e3 w2 f2 e2 hr1 hte h1 hx hdx
      refine ⟨_, rfl, _, rfl, (by show 2 ≤ sizeLine; decide), fun t2 h2 => ?_⟩
      have q3 := same_upd (o := .tup [.str "place", .int 2]) h2
      refine ⟨al, -1, -1, -3, .ref t2, _, rfl, hA.same q3, m1, m1, n3, .place upd_same, fun r H4 e4 hr2 => ?_⟩
      have er : r = false := by
        cases r with
        | false => rfl
        | true => exact absurd (hr2.mp rfl).2 not3
      subst er
      replace hA := (hA.same q3).same e4
      clear q3 e4 hr2 h2
      refine ⟨(by show 2 ≤ sizeLine; decide), fun L1 hL1 => ?_⟩
      have q5 := same_upd (o := .lst [.bl true, .bl false]) hL1
      have gL1 := upd_same (H := H4) (a := L1) (o := .lst [.bl true, .bl false])
      generalize (upd H4 L1 (.lst [.bl true, .bl false])) = H5 at *
      replace hA := hA.same q5
      clear q5 hL1
      refine ⟨_, rfl, _, rfl, (by show 2 ≤ sizeLine; decide), fun t3 h3 => ?_⟩
      have q3 := same_upd (o := .tup [.str "place", .int 2]) h3
      refine ⟨al, -1, -1, 17, .ref t3, _, rfl, hA.same q3, m1, m1, n17, .place upd_same, fun r H6 e6 hr3 => ?_⟩
      have er : r = true := hr3.mpr yes17
      subst er
      replace hA := (hA.same q3).same e6
      replace gL1 := e6 _ _ (q3 _ _ gL1)
      clear q3 e6 hr3 h3
      refine ⟨_, rfl, _, rfl, (by show 2 ≤ sizeLine; decide), fun t4 h4 => ?_⟩
      have q3 := same_upd (o := .tup [.str "place", .int 11]) h4
      refine ⟨al, -1, -1, -2, .ref t4, _, rfl, hA.same q3, m1, m1, n2, .place upd_same, fun r H7 e7 hr4 => ?_⟩
      have er : r = false := by
        cases r with
        | false => rfl
        | true =>
          have z := (hr4.mp rfl).1
          exact not11.elim (fun k => absurd z.1 k) (fun k => absurd z.2 k)
      subst er
      replace gL1 := e7 _ _ (q3 _ _ gL1)
      clear q3 e7 hr4 h4 hA
      refine ⟨(by show 2 ≤ sizeLine; decide), fun L2 hL2 => ?_⟩
      have q5 := same_upd (o := .lst [.bl true, .bl false]) hL2
      refine ⟨L1, L2, _, _, rfl, rfl, q5 _ _ gL1, upd_same, (by show 4 ≤ sizeLine; decide), fun L3 hL3 => ?_⟩
      refine ⟨_, rfl, (by show 4 ≤ sizeLine; decide), fun L4 hL4 => ?_⟩
      have b4 : ∀ {G : Hp}, DpAll K G [.bl true, .bl false, .bl true, .bl false] [.bool true, .bool false, .bool true, .bool false] := .cons (.bl _) (.cons (.bl _) (.cons (.bl _) (.cons (.bl _) .nil)))
      refine ⟨_, _, .lst (SqL.of (same_upd hL4 _ _ upd_same)) b4, .lst (SqL.of upd_same) b4, rfl, rfl, ?_⟩
      rw [show PyData.eqv (.list [.bool true, .bool false, .bool true, .bool false]) (.list [.bool true, .bool false, .bool true, .bool false]) = true by decide +kernel]
      exact q _
end
end Sf

namespace Sf
open PySem PySem.Spec PyProof.Rows L2
theorem facts {P : Program} {w : World} {K : PySem.W.Frag} {h : Heap} {mg : Str → Option Value} {f : Addr} (X : K.In h) (G : h.Ns mainGlobals mg) (hfa : mg ("law" : Str) = some (.ref f)) (c : He.SaysD fa fn K) (z : ex K = true) :
    ∃ fd : FuncData, (∀ (s : Shared) (v : Value), BindsTo s fd ⟨[v], []⟩ [("_law_script", v)]) ∧ ∀ base : Heap, K.In base → base.Ns mainGlobals mg → FnOk P w K mg base CX0 14 f fd ["_law_script"] (spLaw K) := by
  obtain ⟨fd_L_jug, F_L_jug⟩ := c.def_ 0 (d := d_L_jug) rfl
  have g_L_jug := He.glo_ok X G (c.fact 0 (f := .glo "_law_jug") rfl)
  obtain ⟨fd_L_pour, F_L_pour⟩ := c.def_ 1 (d := d_L_pour) rfl
  have g_L_pour := He.glo_ok X G (c.fact 1 (f := .glo "_law_pour") rfl)
  obtain ⟨fd_L_of, F_L_of⟩ := c.def_ 2 (d := d_L_of) rfl
  have g_L_of := He.glo_ok X G (c.fact 2 (f := .glo "_law_of") rfl)
  obtain ⟨fd_L_drawn, F_L_drawn⟩ := c.def_ 3 (d := d_L_drawn) rfl
  have g_L_drawn := He.glo_ok X G (c.fact 3 (f := .glo "_law_drawn") rfl)
  obtain ⟨fd_L_pair, F_L_pair⟩ := c.def_ 4 (d := d_L_pair) rfl
  have g_L_pair := He.glo_ok X G (c.fact 4 (f := .glo "_law_pair") rfl)
  obtain ⟨fd_P_check_algebra, F_P_check_algebra⟩ := c.def_ 5 (d := d_P_check_algebra) rfl
  have g_P_check_algebra := He.glo_ok X G (c.fact 5 (f := .glo "check_algebra") rfl)
  obtain ⟨fd_P_is_integer, F_P_is_integer⟩ := c.def_ 6 (d := d_P_is_integer) rfl
  have g_P_is_integer := He.glo_ok X G (c.fact 6 (f := .glo "is_integer") rfl)
  obtain ⟨fd_P_is_passed, F_P_is_passed⟩ := c.def_ 7 (d := d_P_is_passed) rfl
  have g_P_is_passed := He.glo_ok X G (c.fact 7 (f := .glo "is_passed") rfl)
  obtain ⟨fd_P_is_passed_entries, F_P_is_passed_entries⟩ := c.def_ 8 (d := d_P_is_passed_entries) rfl
  have g_P_is_passed_entries := He.glo_ok X G (c.fact 8 (f := .glo "is_passed_entries") rfl)
  obtain ⟨fd_P_lowest_entries, F_P_lowest_entries⟩ := c.def_ 9 (d := d_P_lowest_entries) rfl
  have g_P_lowest_entries := He.glo_ok X G (c.fact 9 (f := .glo "lowest_entries") rfl)
  obtain ⟨fd_P_lowest_terms, F_P_lowest_terms⟩ := c.def_ 10 (d := d_P_lowest_terms) rfl
  have g_P_lowest_terms := He.glo_ok X G (c.fact 10 (f := .glo "lowest_terms") rfl)
  obtain ⟨fd_P_sign_of, F_P_sign_of⟩ := c.def_ 11 (d := d_P_sign_of) rfl
  have g_P_sign_of := He.glo_ok X G (c.fact 11 (f := .glo "sign_of") rfl)
  obtain ⟨fd_P_Ratio___init__, F_P_Ratio___init__⟩ := c.def_ 12 (d := d_P_Ratio___init__) rfl
  obtain ⟨fd_P_made_ratio, F_P_made_ratio⟩ := c.def_ 13 (d := d_P_made_ratio) rfl
  have g_P_made_ratio := He.glo_ok X G (c.fact 12 (f := .glo "made_ratio") rfl)
  obtain ⟨fd_P_norm_of, F_P_norm_of⟩ := c.def_ 14 (d := d_P_norm_of) rfl
  have g_P_norm_of := He.glo_ok X G (c.fact 13 (f := .glo "norm_of") rfl)
  obtain ⟨fd_P_Four___init__, F_P_Four___init__⟩ := c.def_ 15 (d := d_P_Four___init__) rfl
  obtain ⟨fd_P_Algebra___eq__, F_P_Algebra___eq__⟩ := c.def_ 16 (d := d_P_Algebra___eq__) rfl
  obtain ⟨fd_P_check_operands, F_P_check_operands⟩ := c.def_ 17 (d := d_P_check_operands) rfl
  have g_P_check_operands := He.glo_ok X G (c.fact 14 (f := .glo "check_operands") rfl)
  obtain ⟨fd_P_made_four, F_P_made_four⟩ := c.def_ 18 (d := d_P_made_four) rfl
  have g_P_made_four := He.glo_ok X G (c.fact 15 (f := .glo "made_four") rfl)
  obtain ⟨fd_P_Four___add__, F_P_Four___add__⟩ := c.def_ 19 (d := d_P_Four___add__) rfl
  obtain ⟨fd_P_Four___neg__, F_P_Four___neg__⟩ := c.def_ 20 (d := d_P_Four___neg__) rfl
  obtain ⟨fd_P_is_fraction, F_P_is_fraction⟩ := c.def_ 21 (d := d_P_is_fraction) rfl
  have g_P_is_fraction := He.glo_ok X G (c.fact 16 (f := .glo "is_fraction") rfl)
  obtain ⟨fd_P_check_ratio, F_P_check_ratio⟩ := c.def_ 22 (d := d_P_check_ratio) rfl
  have g_P_check_ratio := He.glo_ok X G (c.fact 17 (f := .glo "check_ratio") rfl)
  obtain ⟨fd_P_terms_of, F_P_terms_of⟩ := c.def_ 23 (d := d_P_terms_of) rfl
  have g_P_terms_of := He.glo_ok X G (c.fact 18 (f := .glo "terms_of") rfl)
  obtain ⟨fd_P_Four_scaled, F_P_Four_scaled⟩ := c.def_ 24 (d := d_P_Four_scaled) rfl
  obtain ⟨fd_L_near, F_L_near⟩ := c.def_ 25 (d := d_L_near) rfl
  have g_L_near := He.glo_ok X G (c.fact 19 (f := .glo "_law_near") rfl)
  obtain ⟨fd_P_is_square, F_P_is_square⟩ := c.def_ 26 (d := d_P_is_square) rfl
  have g_P_is_square := He.glo_ok X G (c.fact 20 (f := .glo "is_square") rfl)
  obtain ⟨fd_P_check_side, F_P_check_side⟩ := c.def_ 27 (d := d_P_check_side) rfl
  have g_P_check_side := He.glo_ok X G (c.fact 21 (f := .glo "check_side") rfl)
  obtain ⟨fd_P_check_root, F_P_check_root⟩ := c.def_ 28 (d := d_P_check_root) rfl
  have g_P_check_root := He.glo_ok X G (c.fact 22 (f := .glo "check_root") rfl)
  obtain ⟨fd_P_is_four_of, F_P_is_four_of⟩ := c.def_ 29 (d := d_P_is_four_of) rfl
  have g_P_is_four_of := He.glo_ok X G (c.fact 23 (f := .glo "is_four_of") rfl)
  obtain ⟨fd_P_Algebra_basis, F_P_Algebra_basis⟩ := c.def_ 30 (d := d_P_Algebra_basis) rfl
  obtain ⟨fd_P_Four___eq__, F_P_Four___eq__⟩ := c.def_ 31 (d := d_P_Four___eq__) rfl
  obtain ⟨fd_P_product_entries, F_P_product_entries⟩ := c.def_ 32 (d := d_P_product_entries) rfl
  have g_P_product_entries := He.glo_ok X G (c.fact 24 (f := .glo "product_entries") rfl)
  obtain ⟨fd_P_Four___mul__, F_P_Four___mul__⟩ := c.def_ 33 (d := d_P_Four___mul__) rfl
  obtain ⟨fd_P_is_root, F_P_is_root⟩ := c.def_ 34 (d := d_P_is_root) rfl
  have g_P_is_root := He.glo_ok X G (c.fact 25 (f := .glo "is_root") rfl)
  obtain ⟨fd_P_check_number, F_P_check_number⟩ := c.def_ 35 (d := d_P_check_number) rfl
  have g_P_check_number := He.glo_ok X G (c.fact 26 (f := .glo "check_number") rfl)
  obtain ⟨fd_P_next_divisor, F_P_next_divisor⟩ := c.def_ 36 (d := d_P_next_divisor) rfl
  have g_P_next_divisor := He.glo_ok X G (c.fact 27 (f := .glo "next_divisor") rfl)
  obtain ⟨fd_P_is_prime, F_P_is_prime⟩ := c.def_ 37 (d := d_P_is_prime) rfl
  have g_P_is_prime := He.glo_ok X G (c.fact 28 (f := .glo "is_prime") rfl)
  obtain ⟨fd_P_check_place, F_P_check_place⟩ := c.def_ 38 (d := d_P_check_place) rfl
  have g_P_check_place := He.glo_ok X G (c.fact 29 (f := .glo "check_place") rfl)
  obtain ⟨fd_P_stripped, F_P_stripped⟩ := c.def_ 39 (d := d_P_stripped) rfl
  have g_P_stripped := He.glo_ok X G (c.fact 30 (f := .glo "stripped") rfl)
  obtain ⟨fd_P_power_modulo, F_P_power_modulo⟩ := c.def_ 40 (d := d_P_power_modulo) rfl
  have g_P_power_modulo := He.glo_ok X G (c.fact 31 (f := .glo "power_modulo") rfl)
  obtain ⟨fd_P_rest_sign, F_P_rest_sign⟩ := c.def_ 41 (d := d_P_rest_sign) rfl
  have g_P_rest_sign := He.glo_ok X G (c.fact 32 (f := .glo "rest_sign") rfl)
  obtain ⟨fd_P_square_unit, F_P_square_unit⟩ := c.def_ 42 (d := d_P_square_unit) rfl
  have g_P_square_unit := He.glo_ok X G (c.fact 33 (f := .glo "square_unit") rfl)
  obtain ⟨fd_P_is_square_at, F_P_is_square_at⟩ := c.def_ 43 (d := d_P_is_square_at) rfl
  have g_P_is_square_at := He.glo_ok X G (c.fact 34 (f := .glo "is_square_at") rfl)
  obtain ⟨fd_P_square_places, F_P_square_places⟩ := c.def_ 44 (d := d_P_square_places) rfl
  have g_P_square_places := He.glo_ok X G (c.fact 35 (f := .glo "square_places") rfl)
  obtain ⟨fd_P_is_root_paper, F_P_is_root_paper⟩ := c.def_ 45 (d := d_P_is_root_paper) rfl
  have g_P_is_root_paper := He.glo_ok X G (c.fact 36 (f := .glo "is_root_paper") rfl)
  obtain ⟨fd_L_times, F_L_times⟩ := c.def_ 46 (d := d_L_times) rfl
  have g_L_times := He.glo_ok X G (c.fact 37 (f := .glo "_law_times") rfl)
  obtain ⟨fd_L_squares_to, F_L_squares_to⟩ := c.def_ 47 (d := d_L_squares_to) rfl
  have g_L_squares_to := He.glo_ok X G (c.fact 38 (f := .glo "_law_squares_to") rfl)
  obtain ⟨fd_L_parts, F_L_parts⟩ := c.def_ 48 (d := d_L_parts) rfl
  have g_L_parts := He.glo_ok X G (c.fact 39 (f := .glo "_law_parts") rfl)
  obtain ⟨fd_L_bare, F_L_bare⟩ := c.def_ 49 (d := d_L_bare) rfl
  have g_L_bare := He.glo_ok X G (c.fact 40 (f := .glo "_law_bare") rfl)
  obtain ⟨fd_L_residue, F_L_residue⟩ := c.def_ 50 (d := d_L_residue) rfl
  have g_L_residue := He.glo_ok X G (c.fact 41 (f := .glo "_law_residue") rfl)
  obtain ⟨fd_L_sign, F_L_sign⟩ := c.def_ 51 (d := d_L_sign) rfl
  have g_L_sign := He.glo_ok X G (c.fact 42 (f := .glo "_law_sign") rfl)
  obtain ⟨fd_L_places, F_L_places⟩ := c.def_ 52 (d := d_L_places) rfl
  have g_L_places := He.glo_ok X G (c.fact 43 (f := .glo "_law_places") rfl)
  obtain ⟨fd_L_is_local_square, F_L_is_local_square⟩ := c.def_ 53 (d := d_L_is_local_square) rfl
  have g_L_is_local_square := He.glo_ok X G (c.fact 44 (f := .glo "_law_is_local_square") rfl)
  obtain ⟨fd_L_is_due, F_L_is_due⟩ := c.def_ 54 (d := d_L_is_due) rfl
  have g_L_is_due := He.glo_ok X G (c.fact 45 (f := .glo "_law_is_due") rfl)
  obtain ⟨fd_P_has_root, F_P_has_root⟩ := c.def_ 55 (d := d_P_has_root) rfl
  have g_P_has_root := He.glo_ok X G (c.fact 46 (f := .glo "has_root") rfl)
  obtain ⟨fd_P_prime_powers, F_P_prime_powers⟩ := c.def_ 56 (d := d_P_prime_powers) rfl
  have g_P_prime_powers := He.glo_ok X G (c.fact 47 (f := .glo "prime_powers") rfl)
  obtain ⟨fd_P_factors, F_P_factors⟩ := c.def_ 57 (d := d_P_factors) rfl
  have g_P_factors := He.glo_ok X G (c.fact 48 (f := .glo "factors") rfl)
  obtain ⟨fd_P_quarter, F_P_quarter⟩ := c.def_ 58 (d := d_P_quarter) rfl
  have g_P_quarter := He.glo_ok X G (c.fact 49 (f := .glo "quarter") rfl)
  obtain ⟨fd_P_eighth, F_P_eighth⟩ := c.def_ 59 (d := d_P_eighth) rfl
  have g_P_eighth := He.glo_ok X G (c.fact 50 (f := .glo "eighth") rfl)
  obtain ⟨fd_P_sign_at_two, F_P_sign_at_two⟩ := c.def_ 60 (d := d_P_sign_at_two) rfl
  have g_P_sign_at_two := He.glo_ok X G (c.fact 51 (f := .glo "sign_at_two") rfl)
  obtain ⟨fd_P_sign_at_odd, F_P_sign_at_odd⟩ := c.def_ 61 (d := d_P_sign_at_odd) rfl
  have g_P_sign_at_odd := He.glo_ok X G (c.fact 52 (f := .glo "sign_at_odd") rfl)
  obtain ⟨fd_P_sign, F_P_sign⟩ := c.def_ 62 (d := d_P_sign) rfl
  have g_P_sign := He.glo_ok X G (c.fact 53 (f := .glo "sign") rfl)
  obtain ⟨fd_P_signed_places, F_P_signed_places⟩ := c.def_ 63 (d := d_P_signed_places) rfl
  have g_P_signed_places := He.glo_ok X G (c.fact 54 (f := .glo "signed_places") rfl)
  obtain ⟨fd_P_product_of_primes, F_P_product_of_primes⟩ := c.def_ 64 (d := d_P_product_of_primes) rfl
  have g_P_product_of_primes := He.glo_ok X G (c.fact 55 (f := .glo "product_of_primes") rfl)
  obtain ⟨fd_P_Algebra___init__, F_P_Algebra___init__⟩ := c.def_ 65 (d := d_P_Algebra___init__) rfl
  obtain ⟨fd_L_right, F_L_right⟩ := c.def_ 66 (d := d_L_right) rfl
  have g_L_right := He.glo_ok X G (c.fact 56 (f := .glo "_law_right") rfl)
  obtain ⟨fd_L_law, F_L_law⟩ := c.def_ 67 (d := d_L_law) rfl
  have g_L_law := He.glo_ok X G (c.fact 57 (f := .glo "law") rfl)
  have e := hfa.symm.trans g_L_law
  cases e
  have z0 := z
  obtain ⟨y1, z1⟩ := He.ba z0
  obtain ⟨y2, z2⟩ := He.ba z1
  obtain ⟨y3, z3⟩ := He.ba z2
  obtain ⟨y4, z4⟩ := He.ba z3
  obtain ⟨y5, z5⟩ := He.ba z4
  obtain ⟨y6, z6⟩ := He.ba z5
  have own_Algebra : OwnK K (He.ga K "Algebra") := ownB_ok (He.cls_ok (c.fact 81 (f := .cls "Algebra") rfl)) y3
  have own_Ratio : OwnK K (He.ga K "Ratio") := ownB_ok (He.cls_ok (c.fact 89 (f := .cls "Ratio") rfl)) y4
  have own_Four : OwnK K (He.ga K "Four") := ownB_ok (He.cls_ok (c.fact 95 (f := .cls "Four") rfl)) y5
  have ownt_Four : OwnT K (He.ga K "Four") := ownTB_ok y6
  have T : Glob mg := ⟨He.free_ok X G (c.fact 58 (f := .free "isinstance") rfl), He.free_ok X G (c.fact 59 (f := .free "int") rfl), He.free_ok X G (c.fact 60 (f := .free "bool") rfl), He.free_ok X G (c.fact 61 (f := .free "abs") rfl), He.free_ok X G (c.fact 62 (f := .free "str") rfl), He.free_ok X G (c.fact 63 (f := .free "sorted") rfl), He.free_ok X G (c.fact 64 (f := .free "tuple") rfl), He.free_ok X G (c.fact 65 (f := .free "set") rfl), He.free_ok X G (c.fact 66 (f := .free "len") rfl), He.free_ok X G (c.fact 67 (f := .free "zip") rfl), He.free_ok X G (c.fact 68 (f := .free "any") rfl), He.free_ok X G (c.fact 69 (f := .free "all") rfl), He.free_ok X G (c.fact 70 (f := .free "max") rfl), He.free_ok X G (c.fact 71 (f := .free "sum") rfl), He.free_ok X G (c.fact 72 (f := .free "list") rfl), He.free_ok X G (c.fact 73 (f := .free "range") rfl), He.free_ok X G (c.fact 74 (f := .free "repr") rfl), He.free_ok X G (c.fact 75 (f := .free "min") rfl), gblB_ok X G y1, gblB_ok X G y2, He.int_ok X G (c.fact 76 (f := .int "TOO_LONG" 1000000000000000000000000000000000000000000000000000000000000) rfl), He.int_ok X G (c.fact 77 (f := .int "MAX_NUMBER" 1000000000) rfl), He.int_ok X G (c.fact 78 (f := .int "MAX_POWER" 1000) rfl), He.int_ok X G (c.fact 79 (f := .int "MAX_SIDE" 10000) rfl)⟩
  obtain ⟨us_P_Ratio___init___1, dv_P_Ratio___init___1, bd_P_Ratio___init___1⟩ := F_P_Ratio___init__.binds1 (ps := ["self", "top", "bottom"]) 2 0 (fun e => by cases e) rfl fun _ _ _ _ _ _ _ us its hl hi => match us, hl, its, hi with | [_, _], _, [_], _ => ⟨_, rfl, rfl⟩
  obtain ⟨us_P_Four___init___2, dv_P_Four___init___2, bd_P_Four___init___2⟩ := F_P_Four___init__.binds1 (ps := ["self", "algebra", "entries", "bottom"]) 3 0 (fun e => by cases e) rfl fun _ _ _ _ _ _ _ us its hl hi => match us, hl, its, hi with | [_, _, _], _, [_], _ => ⟨_, rfl, rfl⟩
  obtain ⟨us_P_Four___init___3, dv_P_Four___init___3, bd_P_Four___init___3⟩ := F_P_Four___init__.binds1 (ps := ["self", "algebra", "entries", "bottom"]) 4 1 (fun e => by cases e) rfl fun _ _ _ _ _ _ _ us its hl hi => match us, hl, its, hi with | [_, _, _, _], _, [_], _ => ⟨_, rfl, rfl⟩
  have b := FunD.bindsA (ps := ["_law_script"]) F_L_law fun _ _ _ _ _ _ us hl => match us, hl with | [_], _ => rfl
  refine ⟨fd_L_law, fun s v => b s [v] rfl, fun base _ _ => ?_⟩
  have C_L_jug : Cal P w K mg base 1 "_law_jug" ["_law_script", "_law_spot"] (spSack K) := ⟨_, fd_L_jug, ok_jug F_L_jug T, g_L_jug, F_L_jug.kp, F_L_jug.bindsN fun _ _ _ _ _ _ us hl => match us, hl with | [_, _], _ => rfl⟩
  have C_L_pour : Cal P w K mg base 1 "_law_pour" ["_law_jug_here", "_law_many"] spTake := ⟨_, fd_L_pour, ok_pour F_L_pour T, g_L_pour, F_L_pour.kp, F_L_pour.bindsN fun _ _ _ _ _ _ us hl => match us, hl with | [_, _], _ => rfl⟩
  have C_L_of : Cal P w K mg base 2 "_law_of" ["_law_jug_here", "_law_items"] (spOneOf K) := ⟨_, fd_L_of, ok_of F_L_of T C_L_pour, g_L_of, F_L_of.kp, F_L_of.bindsN fun _ _ _ _ _ _ us hl => match us, hl with | [_, _], _ => rfl⟩
  have C_L_drawn : Cal P w K mg base 2 "_law_drawn" ["_law_jug_here", "_law_most"] spDraw := ⟨_, fd_L_drawn, ok_drawn F_L_drawn T C_L_pour, g_L_drawn, F_L_drawn.kp, F_L_drawn.bindsN fun _ _ _ _ _ _ us hl => match us, hl with | [_, _], _ => rfl⟩
  have C_L_pair : Cal P w K mg base 3 "_law_pair" ["_law_jug_here"] spKPair := ⟨_, fd_L_pair, ok_pair F_L_pair T C_L_of C_L_drawn, g_L_pair, F_L_pair.kp, F_L_pair.bindsN fun _ _ _ _ _ _ us hl => match us, hl with | [_], _ => rfl⟩
  have C_P_check_algebra : Cal P w K mg base 1 "check_algebra" ["value"] (spIsAlg (He.ga K "Algebra")) := ⟨_, fd_P_check_algebra, ok_check_algebra F_P_check_algebra T (⟨own_Algebra, He.noat_ok (c.fact 82 (f := .noat "Algebra" "places") rfl), He.noat_ok (c.fact 83 (f := .noat "Algebra" "a") rfl), He.noat_ok (c.fact 84 (f := .noat "Algebra" "b") rfl), He.noat_ok (c.fact 85 (f := .noat "Algebra" "discriminant") rfl), He.noat_ok (c.fact 86 (f := .noat "Algebra" "is_tables") rfl), He.noat_ok (c.fact 87 (f := .noat "Algebra" "is_definite") rfl)⟩ : AlgK K (He.ga K "Algebra")) (He.glo_ok X G (c.fact 80 (f := .glo "Algebra") rfl)), g_P_check_algebra, F_P_check_algebra.kp, F_P_check_algebra.bindsN fun _ _ _ _ _ _ us hl => match us, hl with | [_], _ => rfl⟩
  have C_P_is_integer : Cal P w K mg base 1 "is_integer" ["value"] (spIsInt K) := ⟨_, fd_P_is_integer, ok_is_integer F_P_is_integer T, g_P_is_integer, F_P_is_integer.kp, F_P_is_integer.bindsN fun _ _ _ _ _ _ us hl => match us, hl with | [_], _ => rfl⟩
  have C_P_is_passed : Cal P w K mg base 2 "is_passed" ["value"] (spPassed K) := ⟨_, fd_P_is_passed, ok_is_passed F_P_is_passed T C_P_is_integer, g_P_is_passed, F_P_is_passed.kp, F_P_is_passed.bindsN fun _ _ _ _ _ _ us hl => match us, hl with | [_], _ => rfl⟩
  have C_P_is_passed_entries : Cal P w K mg base 3 "is_passed_entries" ["value"] spPassE := ⟨_, fd_P_is_passed_entries, ok_is_passed_entries F_P_is_passed_entries T C_P_is_passed, g_P_is_passed_entries, F_P_is_passed_entries.kp, F_P_is_passed_entries.bindsN fun _ _ _ _ _ _ us hl => match us, hl with | [_], _ => rfl⟩
  have C_P_lowest_entries : Cal P w K mg base 1 "lowest_entries" ["entries", "bottom"] spLowE := ⟨_, fd_P_lowest_entries, ok_lowest_entries F_P_lowest_entries T, g_P_lowest_entries, F_P_lowest_entries.kp, F_P_lowest_entries.bindsN fun _ _ _ _ _ _ us hl => match us, hl with | [_, _], _ => rfl⟩
  have C_P_lowest_terms : Cal P w K mg base 1 "lowest_terms" ["top", "bottom"] spLowest := ⟨_, fd_P_lowest_terms, ok_lowest_terms F_P_lowest_terms T, g_P_lowest_terms, F_P_lowest_terms.kp, F_P_lowest_terms.bindsN fun _ _ _ _ _ _ us hl => match us, hl with | [_, _], _ => rfl⟩
  have C_P_sign_of : Cal P w K mg base 1 "sign_of" ["number"] spSignOf := ⟨_, fd_P_sign_of, ok_sign_of F_P_sign_of , g_P_sign_of, F_P_sign_of.kp, F_P_sign_of.bindsN fun _ _ _ _ _ _ us hl => match us, hl with | [_], _ => rfl⟩
  have OK_P_Ratio___init__ : FnOk P w K mg base CX0 3 _ fd_P_Ratio___init__ ["self", "top", "bottom"] (spRatInit (He.ga K "Ratio")) := ok_Ratio_init F_P_Ratio___init__ (⟨own_Ratio, He.noat_ok (c.fact 90 (f := .noat "Ratio" "top") rfl), He.noat_ok (c.fact 91 (f := .noat "Ratio" "bottom") rfl), He.noat_ok (c.fact 92 (f := .noat "Ratio" "sign") rfl)⟩ : RatioK K (He.ga K "Ratio")) C_P_is_passed C_P_lowest_terms C_P_sign_of
  have C_P_made_ratio : Cal P w K mg base 5 "made_ratio" ["top", "bottom"] (spMadeRatio (He.ga K "Ratio")) := ⟨_, fd_P_made_ratio, ok_made_ratio F_P_made_ratio (⟨own_Ratio, He.noat_ok (c.fact 90 (f := .noat "Ratio" "top") rfl), He.noat_ok (c.fact 91 (f := .noat "Ratio" "bottom") rfl), He.noat_ok (c.fact 92 (f := .noat "Ratio" "sign") rfl)⟩ : RatioK K (He.ga K "Ratio")) C_P_lowest_terms C_P_sign_of (⟨_, fd_P_Ratio___init__, us_P_Ratio___init___1, OK_P_Ratio___init__, He.mkr_ok (c.fact 93 (f := .mkr "Ratio") rfl), (He.glo_ok X G (c.fact 88 (f := .glo "Ratio") rfl)), bd_P_Ratio___init___1, dv_P_Ratio___init___1⟩ : CalC P w K mg base 3 "Ratio" (He.ga K "Ratio") ["self", "top", "bottom"] [.int 1] (spRatInit (He.ga K "Ratio"))), g_P_made_ratio, F_P_made_ratio.kp, F_P_made_ratio.bindsN fun _ _ _ _ _ _ us hl => match us, hl with | [_, _], _ => rfl⟩
  have C_P_norm_of : Cal P w K mg base 6 "norm_of" ["algebra", "entries", "bottom"] (spNorm (He.ga K "Ratio") (He.ga K "Algebra")) := ⟨_, fd_P_norm_of, ok_norm_of F_P_norm_of (⟨own_Algebra, He.noat_ok (c.fact 82 (f := .noat "Algebra" "places") rfl), He.noat_ok (c.fact 83 (f := .noat "Algebra" "a") rfl), He.noat_ok (c.fact 84 (f := .noat "Algebra" "b") rfl), He.noat_ok (c.fact 85 (f := .noat "Algebra" "discriminant") rfl), He.noat_ok (c.fact 86 (f := .noat "Algebra" "is_tables") rfl), He.noat_ok (c.fact 87 (f := .noat "Algebra" "is_definite") rfl)⟩ : AlgK K (He.ga K "Algebra")) C_P_made_ratio, g_P_norm_of, F_P_norm_of.kp, F_P_norm_of.bindsN fun _ _ _ _ _ _ us hl => match us, hl with | [_, _, _], _ => rfl⟩
  have OK_P_Four___init__ : FnOk P w K mg base CX0 7 _ fd_P_Four___init__ ["self", "algebra", "entries", "bottom"] (spFourInit (He.ga K "Four") (He.ga K "Ratio") (He.ga K "Algebra")) := ok_Four_init F_P_Four___init__ T (⟨own_Four, He.noat_ok (c.fact 96 (f := .noat "Four" "algebra") rfl), He.noat_ok (c.fact 97 (f := .noat "Four" "entries") rfl), He.noat_ok (c.fact 98 (f := .noat "Four" "bottom") rfl), He.noat_ok (c.fact 99 (f := .noat "Four" "trace") rfl), He.noat_ok (c.fact 100 (f := .noat "Four" "norm") rfl), He.noat_ok (c.fact 101 (f := .noat "Four" "is_ratio") rfl)⟩ : FourK K (He.ga K "Four")) C_P_check_algebra C_P_is_passed_entries C_P_is_passed C_P_lowest_entries C_P_made_ratio C_P_norm_of
  have OK_P_Algebra___eq__ : FnOk P w K mg base CX0 1 _ fd_P_Algebra___eq__ ["self", "value"] (spAlgEq (He.ga K "Algebra")) := ok_Algebra_eq F_P_Algebra___eq__ T (⟨own_Algebra, He.noat_ok (c.fact 82 (f := .noat "Algebra" "places") rfl), He.noat_ok (c.fact 83 (f := .noat "Algebra" "a") rfl), He.noat_ok (c.fact 84 (f := .noat "Algebra" "b") rfl), He.noat_ok (c.fact 85 (f := .noat "Algebra" "discriminant") rfl), He.noat_ok (c.fact 86 (f := .noat "Algebra" "is_tables") rfl), He.noat_ok (c.fact 87 (f := .noat "Algebra" "is_definite") rfl)⟩ : AlgK K (He.ga K "Algebra")) (He.glo_ok X G (c.fact 80 (f := .glo "Algebra") rfl))
  have C_P_check_operands : Cal P w K mg base 3 "check_operands" ["one", "other"] (spOperands (He.ga K "Four") (He.ga K "Ratio") (He.ga K "Algebra")) := ⟨_, fd_P_check_operands, ok_check_operands F_P_check_operands (⟨own_Four, He.noat_ok (c.fact 96 (f := .noat "Four" "algebra") rfl), He.noat_ok (c.fact 97 (f := .noat "Four" "entries") rfl), He.noat_ok (c.fact 98 (f := .noat "Four" "bottom") rfl), He.noat_ok (c.fact 99 (f := .noat "Four" "trace") rfl), He.noat_ok (c.fact 100 (f := .noat "Four" "norm") rfl), He.noat_ok (c.fact 101 (f := .noat "Four" "is_ratio") rfl)⟩ : FourK K (He.ga K "Four")) own_Algebra (⟨_, fd_P_Algebra___eq__, OK_P_Algebra___eq__, He.meth_ok (c.fact 102 (f := .meth "Algebra" "__eq__") rfl), F_P_Algebra___eq__.bindsN fun _ _ _ _ _ _ us hl => match us, hl with | [_, _], _ => rfl⟩ : CalM P w K mg base 1 "__eq__" (He.ga K "Algebra") ["self", "value"] (spAlgEq (He.ga K "Algebra"))), g_P_check_operands, F_P_check_operands.kp, F_P_check_operands.bindsN fun _ _ _ _ _ _ us hl => match us, hl with | [_, _], _ => rfl⟩
  have C_P_made_four : Cal P w K mg base 9 "made_four" ["algebra", "entries", "bottom"] (spMadeFour (He.ga K "Four") (He.ga K "Ratio") (He.ga K "Algebra")) := ⟨_, fd_P_made_four, ok_made_four F_P_made_four (⟨own_Four, He.noat_ok (c.fact 96 (f := .noat "Four" "algebra") rfl), He.noat_ok (c.fact 97 (f := .noat "Four" "entries") rfl), He.noat_ok (c.fact 98 (f := .noat "Four" "bottom") rfl), He.noat_ok (c.fact 99 (f := .noat "Four" "trace") rfl), He.noat_ok (c.fact 100 (f := .noat "Four" "norm") rfl), He.noat_ok (c.fact 101 (f := .noat "Four" "is_ratio") rfl)⟩ : FourK K (He.ga K "Four")) C_P_lowest_entries (⟨_, fd_P_Four___init__, us_P_Four___init___2, OK_P_Four___init__, He.mkr_ok (c.fact 103 (f := .mkr "Four") rfl), (He.glo_ok X G (c.fact 94 (f := .glo "Four") rfl)), bd_P_Four___init___2, dv_P_Four___init___2⟩ : CalC P w K mg base 7 "Four" (He.ga K "Four") ["self", "algebra", "entries", "bottom"] [.int 1] (spFourInit (He.ga K "Four") (He.ga K "Ratio") (He.ga K "Algebra"))) C_P_made_ratio C_P_norm_of, g_P_made_four, F_P_made_four.kp, F_P_made_four.bindsN fun _ _ _ _ _ _ us hl => match us, hl with | [_, _, _], _ => rfl⟩
  have OK_P_Four___add__ : FnOk P w K mg base CX0 10 _ fd_P_Four___add__ ["self", "other"] (spFourOp (He.ga K "Four") (He.ga K "Ratio") (He.ga K "Algebra") addQ) := ok_Four_add F_P_Four___add__ T (⟨own_Four, He.noat_ok (c.fact 96 (f := .noat "Four" "algebra") rfl), He.noat_ok (c.fact 97 (f := .noat "Four" "entries") rfl), He.noat_ok (c.fact 98 (f := .noat "Four" "bottom") rfl), He.noat_ok (c.fact 99 (f := .noat "Four" "trace") rfl), He.noat_ok (c.fact 100 (f := .noat "Four" "norm") rfl), He.noat_ok (c.fact 101 (f := .noat "Four" "is_ratio") rfl)⟩ : FourK K (He.ga K "Four")) (He.glo_ok X G (c.fact 94 (f := .glo "Four") rfl)) C_P_check_operands C_P_made_four
  have OK_P_Four___neg__ : FnOk P w K mg base CX0 10 _ fd_P_Four___neg__ ["self"] (spFour1 (He.ga K "Four") (He.ga K "Ratio") (He.ga K "Algebra") negQ) := ok_Four_neg F_P_Four___neg__ T (⟨own_Four, He.noat_ok (c.fact 96 (f := .noat "Four" "algebra") rfl), He.noat_ok (c.fact 97 (f := .noat "Four" "entries") rfl), He.noat_ok (c.fact 98 (f := .noat "Four" "bottom") rfl), He.noat_ok (c.fact 99 (f := .noat "Four" "trace") rfl), He.noat_ok (c.fact 100 (f := .noat "Four" "norm") rfl), He.noat_ok (c.fact 101 (f := .noat "Four" "is_ratio") rfl)⟩ : FourK K (He.ga K "Four")) C_P_made_four
  have C_P_is_fraction : Cal P w K mg base 3 "is_fraction" ["value"] (spRatV (He.ga K "Ratio") (.bl true)) := ⟨_, fd_P_is_fraction, ok_is_fraction F_P_is_fraction T (⟨own_Ratio, He.noat_ok (c.fact 90 (f := .noat "Ratio" "top") rfl), He.noat_ok (c.fact 91 (f := .noat "Ratio" "bottom") rfl), He.noat_ok (c.fact 92 (f := .noat "Ratio" "sign") rfl)⟩ : RatioK K (He.ga K "Ratio")) (He.glo_ok X G (c.fact 88 (f := .glo "Ratio") rfl)) C_P_is_passed, g_P_is_fraction, F_P_is_fraction.kp, F_P_is_fraction.bindsN fun _ _ _ _ _ _ us hl => match us, hl with | [_], _ => rfl⟩
  have C_P_check_ratio : Cal P w K mg base 4 "check_ratio" ["value"] (spRatV (He.ga K "Ratio") .non) := ⟨_, fd_P_check_ratio, ok_check_ratio F_P_check_ratio C_P_is_fraction, g_P_check_ratio, F_P_check_ratio.kp, F_P_check_ratio.bindsN fun _ _ _ _ _ _ us hl => match us, hl with | [_], _ => rfl⟩
  have C_P_terms_of : Cal P w K mg base 1 "terms_of" ["ratio"] (spTermsOf (He.ga K "Ratio")) := ⟨_, fd_P_terms_of, ok_terms_of F_P_terms_of T (⟨own_Ratio, He.noat_ok (c.fact 90 (f := .noat "Ratio" "top") rfl), He.noat_ok (c.fact 91 (f := .noat "Ratio" "bottom") rfl), He.noat_ok (c.fact 92 (f := .noat "Ratio" "sign") rfl)⟩ : RatioK K (He.ga K "Ratio")) (He.glo_ok X G (c.fact 88 (f := .glo "Ratio") rfl)), g_P_terms_of, F_P_terms_of.kp, F_P_terms_of.bindsN fun _ _ _ _ _ _ us hl => match us, hl with | [_], _ => rfl⟩
  have OK_P_Four_scaled : FnOk P w K mg base CX0 10 _ fd_P_Four_scaled ["self", "ratio"] (spScaled (He.ga K "Four") (He.ga K "Ratio") (He.ga K "Algebra")) := ok_Four_scaled F_P_Four_scaled T (⟨own_Four, He.noat_ok (c.fact 96 (f := .noat "Four" "algebra") rfl), He.noat_ok (c.fact 97 (f := .noat "Four" "entries") rfl), He.noat_ok (c.fact 98 (f := .noat "Four" "bottom") rfl), He.noat_ok (c.fact 99 (f := .noat "Four" "trace") rfl), He.noat_ok (c.fact 100 (f := .noat "Four" "norm") rfl), He.noat_ok (c.fact 101 (f := .noat "Four" "is_ratio") rfl)⟩ : FourK K (He.ga K "Four")) C_P_check_ratio C_P_terms_of C_P_made_four
  have C_L_near : Cal P w K mg base 11 "_law_near" ["_law_jug_here", "_law_algebra", "_law_strange", "_law_root"] (spLNear (He.ga K "Four") (He.ga K "Ratio") (He.ga K "Algebra")) := ⟨_, fd_L_near, ok_l_near F_L_near T (⟨own_Four, He.noat_ok (c.fact 96 (f := .noat "Four" "algebra") rfl), He.noat_ok (c.fact 97 (f := .noat "Four" "entries") rfl), He.noat_ok (c.fact 98 (f := .noat "Four" "bottom") rfl), He.noat_ok (c.fact 99 (f := .noat "Four" "trace") rfl), He.noat_ok (c.fact 100 (f := .noat "Four" "norm") rfl), He.noat_ok (c.fact 101 (f := .noat "Four" "is_ratio") rfl)⟩ : FourK K (He.ga K "Four")) (⟨own_Algebra, He.noat_ok (c.fact 82 (f := .noat "Algebra" "places") rfl), He.noat_ok (c.fact 83 (f := .noat "Algebra" "a") rfl), He.noat_ok (c.fact 84 (f := .noat "Algebra" "b") rfl), He.noat_ok (c.fact 85 (f := .noat "Algebra" "discriminant") rfl), He.noat_ok (c.fact 86 (f := .noat "Algebra" "is_tables") rfl), He.noat_ok (c.fact 87 (f := .noat "Algebra" "is_definite") rfl)⟩ : AlgK K (He.ga K "Algebra")) C_L_of (⟨_, fd_P_Four___init__, us_P_Four___init___2, OK_P_Four___init__, He.mkr_ok (c.fact 103 (f := .mkr "Four") rfl), (He.glo_ok X G (c.fact 94 (f := .glo "Four") rfl)), bd_P_Four___init___2, dv_P_Four___init___2⟩ : CalC P w K mg base 7 "Four" (He.ga K "Four") ["self", "algebra", "entries", "bottom"] [.int 1] (spFourInit (He.ga K "Four") (He.ga K "Ratio") (He.ga K "Algebra"))) (⟨_, fd_P_Four___init__, us_P_Four___init___3, OK_P_Four___init__, He.mkr_ok (c.fact 103 (f := .mkr "Four") rfl), (He.glo_ok X G (c.fact 94 (f := .glo "Four") rfl)), bd_P_Four___init___3, dv_P_Four___init___3⟩ : CalC P w K mg base 7 "Four" (He.ga K "Four") ["self", "algebra", "entries", "bottom"] [] (spFourInit (He.ga K "Four") (He.ga K "Ratio") (He.ga K "Algebra"))) (⟨_, fd_P_Ratio___init__, us_P_Ratio___init___1, OK_P_Ratio___init__, He.mkr_ok (c.fact 93 (f := .mkr "Ratio") rfl), (He.glo_ok X G (c.fact 88 (f := .glo "Ratio") rfl)), bd_P_Ratio___init___1, dv_P_Ratio___init___1⟩ : CalC P w K mg base 3 "Ratio" (He.ga K "Ratio") ["self", "top", "bottom"] [.int 1] (spRatInit (He.ga K "Ratio"))) own_Four (⟨_, fd_P_Four___add__, OK_P_Four___add__, He.meth_ok (c.fact 104 (f := .meth "Four" "__add__") rfl), F_P_Four___add__.bindsN fun _ _ _ _ _ _ us hl => match us, hl with | [_, _], _ => rfl⟩ : CalM P w K mg base 10 "__add__" (He.ga K "Four") ["self", "other"] (spFourOp (He.ga K "Four") (He.ga K "Ratio") (He.ga K "Algebra") addQ)) (⟨_, fd_P_Four___neg__, OK_P_Four___neg__, He.meth_ok (c.fact 105 (f := .meth "Four" "__neg__") rfl), F_P_Four___neg__.bindsN fun _ _ _ _ _ _ us hl => match us, hl with | [_], _ => rfl⟩ : CalM P w K mg base 10 "__neg__" (He.ga K "Four") ["self"] (spFour1 (He.ga K "Four") (He.ga K "Ratio") (He.ga K "Algebra") negQ)) (⟨_, fd_P_Four_scaled, OK_P_Four_scaled, He.meth_ok (c.fact 106 (f := .meth "Four" "scaled") rfl), F_P_Four_scaled.bindsN fun _ _ _ _ _ _ us hl => match us, hl with | [_, _], _ => rfl⟩ : CalM P w K mg base 10 "scaled" (He.ga K "Four") ["self", "ratio"] (spScaled (He.ga K "Four") (He.ga K "Ratio") (He.ga K "Algebra"))), g_L_near, F_L_near.kp, F_L_near.bindsN fun _ _ _ _ _ _ us hl => match us, hl with | [_, _, _, _], _ => rfl⟩
  have C_P_is_square : Cal P w K mg base 1 "is_square" ["number"] spIsSq := ⟨_, fd_P_is_square, ok_is_square F_P_is_square T, g_P_is_square, F_P_is_square.kp, F_P_is_square.bindsN fun _ _ _ _ _ _ us hl => match us, hl with | [_], _ => rfl⟩
  have C_P_check_side : Cal P w K mg base 1 "check_side" ["algebra"] (spSide (He.ga K "Algebra")) := ⟨_, fd_P_check_side, ok_check_side F_P_check_side T (⟨own_Algebra, He.noat_ok (c.fact 82 (f := .noat "Algebra" "places") rfl), He.noat_ok (c.fact 83 (f := .noat "Algebra" "a") rfl), He.noat_ok (c.fact 84 (f := .noat "Algebra" "b") rfl), He.noat_ok (c.fact 85 (f := .noat "Algebra" "discriminant") rfl), He.noat_ok (c.fact 86 (f := .noat "Algebra" "is_tables") rfl), He.noat_ok (c.fact 87 (f := .noat "Algebra" "is_definite") rfl)⟩ : AlgK K (He.ga K "Algebra")), g_P_check_side, F_P_check_side.kp, F_P_check_side.bindsN fun _ _ _ _ _ _ us hl => match us, hl with | [_], _ => rfl⟩
  have C_P_check_root : Cal P w K mg base 2 "check_root" ["algebra", "number"] (spChkR (He.ga K "Algebra")) := ⟨_, fd_P_check_root, ok_check_root F_P_check_root T C_P_check_algebra C_P_is_integer C_P_is_square C_P_check_side, g_P_check_root, F_P_check_root.kp, F_P_check_root.bindsN fun _ _ _ _ _ _ us hl => match us, hl with | [_, _], _ => rfl⟩
  have C_P_is_four_of : Cal P w K mg base 2 "is_four_of" ["algebra", "value"] (spIsFourOf (He.ga K "Four") (He.ga K "Ratio") (He.ga K "Algebra")) := ⟨_, fd_P_is_four_of, ok_is_four_of F_P_is_four_of T (⟨own_Four, He.noat_ok (c.fact 96 (f := .noat "Four" "algebra") rfl), He.noat_ok (c.fact 97 (f := .noat "Four" "entries") rfl), He.noat_ok (c.fact 98 (f := .noat "Four" "bottom") rfl), He.noat_ok (c.fact 99 (f := .noat "Four" "trace") rfl), He.noat_ok (c.fact 100 (f := .noat "Four" "norm") rfl), He.noat_ok (c.fact 101 (f := .noat "Four" "is_ratio") rfl)⟩ : FourK K (He.ga K "Four")) (He.glo_ok X G (c.fact 94 (f := .glo "Four") rfl)) own_Algebra (⟨_, fd_P_Algebra___eq__, OK_P_Algebra___eq__, He.meth_ok (c.fact 102 (f := .meth "Algebra" "__eq__") rfl), F_P_Algebra___eq__.bindsN fun _ _ _ _ _ _ us hl => match us, hl with | [_, _], _ => rfl⟩ : CalM P w K mg base 1 "__eq__" (He.ga K "Algebra") ["self", "value"] (spAlgEq (He.ga K "Algebra"))), g_P_is_four_of, F_P_is_four_of.kp, F_P_is_four_of.bindsN fun _ _ _ _ _ _ us hl => match us, hl with | [_, _], _ => rfl⟩
  have OK_P_Algebra_basis : FnOk P w K mg base CX0 9 _ fd_P_Algebra_basis ["self"] (spBasis (He.ga K "Four") (He.ga K "Ratio") (He.ga K "Algebra")) := ok_Algebra_basis F_P_Algebra_basis (⟨_, fd_P_Four___init__, us_P_Four___init___2, OK_P_Four___init__, He.mkr_ok (c.fact 103 (f := .mkr "Four") rfl), (He.glo_ok X G (c.fact 94 (f := .glo "Four") rfl)), bd_P_Four___init___2, dv_P_Four___init___2⟩ : CalC P w K mg base 7 "Four" (He.ga K "Four") ["self", "algebra", "entries", "bottom"] [.int 1] (spFourInit (He.ga K "Four") (He.ga K "Ratio") (He.ga K "Algebra")))
  have OK_P_Four___eq__ : FnOk P w K mg base CX0 2 _ fd_P_Four___eq__ ["self", "value"] (spFourEq (He.ga K "Four") (He.ga K "Ratio") (He.ga K "Algebra")) := ok_Four_eq F_P_Four___eq__ T (⟨own_Four, He.noat_ok (c.fact 96 (f := .noat "Four" "algebra") rfl), He.noat_ok (c.fact 97 (f := .noat "Four" "entries") rfl), He.noat_ok (c.fact 98 (f := .noat "Four" "bottom") rfl), He.noat_ok (c.fact 99 (f := .noat "Four" "trace") rfl), He.noat_ok (c.fact 100 (f := .noat "Four" "norm") rfl), He.noat_ok (c.fact 101 (f := .noat "Four" "is_ratio") rfl)⟩ : FourK K (He.ga K "Four")) (He.glo_ok X G (c.fact 94 (f := .glo "Four") rfl)) own_Algebra (⟨_, fd_P_Algebra___eq__, OK_P_Algebra___eq__, He.meth_ok (c.fact 102 (f := .meth "Algebra" "__eq__") rfl), F_P_Algebra___eq__.bindsN fun _ _ _ _ _ _ us hl => match us, hl with | [_, _], _ => rfl⟩ : CalM P w K mg base 1 "__eq__" (He.ga K "Algebra") ["self", "value"] (spAlgEq (He.ga K "Algebra")))
  have C_P_product_entries : Cal P w K mg base 1 "product_entries" ["algebra", "one", "other"] (spProd (He.ga K "Algebra")) := ⟨_, fd_P_product_entries, ok_product_entries F_P_product_entries (⟨own_Algebra, He.noat_ok (c.fact 82 (f := .noat "Algebra" "places") rfl), He.noat_ok (c.fact 83 (f := .noat "Algebra" "a") rfl), He.noat_ok (c.fact 84 (f := .noat "Algebra" "b") rfl), He.noat_ok (c.fact 85 (f := .noat "Algebra" "discriminant") rfl), He.noat_ok (c.fact 86 (f := .noat "Algebra" "is_tables") rfl), He.noat_ok (c.fact 87 (f := .noat "Algebra" "is_definite") rfl)⟩ : AlgK K (He.ga K "Algebra")), g_P_product_entries, F_P_product_entries.kp, F_P_product_entries.bindsN fun _ _ _ _ _ _ us hl => match us, hl with | [_, _, _], _ => rfl⟩
  have OK_P_Four___mul__ : FnOk P w K mg base CX0 10 _ fd_P_Four___mul__ ["self", "other"] (spFourOp (He.ga K "Four") (He.ga K "Ratio") (He.ga K "Algebra") prodQ) := ok_Four_mul F_P_Four___mul__ T (⟨own_Four, He.noat_ok (c.fact 96 (f := .noat "Four" "algebra") rfl), He.noat_ok (c.fact 97 (f := .noat "Four" "entries") rfl), He.noat_ok (c.fact 98 (f := .noat "Four" "bottom") rfl), He.noat_ok (c.fact 99 (f := .noat "Four" "trace") rfl), He.noat_ok (c.fact 100 (f := .noat "Four" "norm") rfl), He.noat_ok (c.fact 101 (f := .noat "Four" "is_ratio") rfl)⟩ : FourK K (He.ga K "Four")) (He.glo_ok X G (c.fact 94 (f := .glo "Four") rfl)) C_P_check_operands C_P_product_entries C_P_made_four
  have C_P_is_root : Cal P w K mg base 11 "is_root" ["four", "number"] (spRoot (He.ga K "Four") (He.ga K "Ratio") (He.ga K "Algebra")) := ⟨_, fd_P_is_root, ok_is_root F_P_is_root T (⟨own_Four, He.noat_ok (c.fact 96 (f := .noat "Four" "algebra") rfl), He.noat_ok (c.fact 97 (f := .noat "Four" "entries") rfl), He.noat_ok (c.fact 98 (f := .noat "Four" "bottom") rfl), He.noat_ok (c.fact 99 (f := .noat "Four" "trace") rfl), He.noat_ok (c.fact 100 (f := .noat "Four" "norm") rfl), He.noat_ok (c.fact 101 (f := .noat "Four" "is_ratio") rfl)⟩ : FourK K (He.ga K "Four")) own_Four own_Algebra (⟨_, fd_P_Algebra_basis, OK_P_Algebra_basis, He.meth_ok (c.fact 107 (f := .meth "Algebra" "basis") rfl), F_P_Algebra_basis.bindsN fun _ _ _ _ _ _ us hl => match us, hl with | [_], _ => rfl⟩ : CalM P w K mg base 9 "basis" (He.ga K "Algebra") ["self"] (spBasis (He.ga K "Four") (He.ga K "Ratio") (He.ga K "Algebra"))) (⟨_, fd_P_Four___eq__, OK_P_Four___eq__, He.meth_ok (c.fact 108 (f := .meth "Four" "__eq__") rfl), F_P_Four___eq__.bindsN fun _ _ _ _ _ _ us hl => match us, hl with | [_, _], _ => rfl⟩ : CalM P w K mg base 2 "__eq__" (He.ga K "Four") ["self", "value"] (spFourEq (He.ga K "Four") (He.ga K "Ratio") (He.ga K "Algebra"))) (⟨_, fd_P_Four___mul__, OK_P_Four___mul__, He.meth_ok (c.fact 109 (f := .meth "Four" "__mul__") rfl), F_P_Four___mul__.bindsN fun _ _ _ _ _ _ us hl => match us, hl with | [_, _], _ => rfl⟩ : CalM P w K mg base 10 "__mul__" (He.ga K "Four") ["self", "other"] (spFourOp (He.ga K "Four") (He.ga K "Ratio") (He.ga K "Algebra") prodQ)) (⟨_, fd_P_Four_scaled, OK_P_Four_scaled, He.meth_ok (c.fact 106 (f := .meth "Four" "scaled") rfl), F_P_Four_scaled.bindsN fun _ _ _ _ _ _ us hl => match us, hl with | [_, _], _ => rfl⟩ : CalM P w K mg base 10 "scaled" (He.ga K "Four") ["self", "ratio"] (spScaled (He.ga K "Four") (He.ga K "Ratio") (He.ga K "Algebra"))), g_P_is_root, F_P_is_root.kp, F_P_is_root.bindsN fun _ _ _ _ _ _ us hl => match us, hl with | [_, _], _ => rfl⟩
  have C_P_check_number : Cal P w K mg base 2 "check_number" ["value"] spCheckNumber := ⟨_, fd_P_check_number, ok_check_number F_P_check_number T C_P_is_integer, g_P_check_number, F_P_check_number.kp, F_P_check_number.bindsN fun _ _ _ _ _ _ us hl => match us, hl with | [_], _ => rfl⟩
  have C_P_next_divisor : Cal P w K mg base 1 "next_divisor" ["divisor"] spNext := ⟨_, fd_P_next_divisor, ok_next F_P_next_divisor , g_P_next_divisor, F_P_next_divisor.kp, F_P_next_divisor.bindsN fun _ _ _ _ _ _ us hl => match us, hl with | [_], _ => rfl⟩
  have C_P_is_prime : Cal P w K mg base 2 "is_prime" ["value"] (spIsPrime K) := ⟨_, fd_P_is_prime, ok_is_prime F_P_is_prime T C_P_is_integer C_P_next_divisor, g_P_is_prime, F_P_is_prime.kp, F_P_is_prime.bindsN fun _ _ _ _ _ _ us hl => match us, hl with | [_], _ => rfl⟩
  have C_P_check_place : Cal P w K mg base 3 "check_place" ["value"] spCheckPlace := ⟨_, fd_P_check_place, ok_check_place F_P_check_place C_P_is_prime C_P_is_integer, g_P_check_place, F_P_check_place.kp, F_P_check_place.bindsN fun _ _ _ _ _ _ us hl => match us, hl with | [_], _ => rfl⟩
  have C_P_stripped : Cal P w K mg base 1 "stripped" ["number", "prime"] spStripped := ⟨_, fd_P_stripped, ok_stripped F_P_stripped , g_P_stripped, F_P_stripped.kp, F_P_stripped.bindsN fun _ _ _ _ _ _ us hl => match us, hl with | [_, _], _ => rfl⟩
  have C_P_power_modulo : Cal P w K mg base 1 "power_modulo" ["number", "many", "modulus"] spPowMod := ⟨_, fd_P_power_modulo, ok_powmod F_P_power_modulo , g_P_power_modulo, F_P_power_modulo.kp, F_P_power_modulo.bindsN fun _ _ _ _ _ _ us hl => match us, hl with | [_, _, _], _ => rfl⟩
  have C_P_rest_sign : Cal P w K mg base 2 "rest_sign" ["number", "prime"] spRestSign := ⟨_, fd_P_rest_sign, ok_rest_sign F_P_rest_sign C_P_power_modulo, g_P_rest_sign, F_P_rest_sign.kp, F_P_rest_sign.bindsN fun _ _ _ _ _ _ us hl => match us, hl with | [_, _], _ => rfl⟩
  have C_P_square_unit : Cal P w K mg base 3 "square_unit" ["unit", "prime"] spSqU := ⟨_, fd_P_square_unit, ok_square_unit F_P_square_unit C_P_rest_sign, g_P_square_unit, F_P_square_unit.kp, F_P_square_unit.bindsN fun _ _ _ _ _ _ us hl => match us, hl with | [_, _], _ => rfl⟩
  have C_P_is_square_at : Cal P w K mg base 4 "is_square_at" ["number", "place"] spSqAt := ⟨_, fd_P_is_square_at, ok_is_square_at F_P_is_square_at C_P_check_number C_P_check_place C_P_stripped C_P_square_unit, g_P_is_square_at, F_P_is_square_at.kp, F_P_is_square_at.bindsN fun _ _ _ _ _ _ us hl => match us, hl with | [_, _], _ => rfl⟩
  have C_P_square_places : Cal P w K mg base 5 "square_places" ["places", "number"] spSqPl := ⟨_, fd_P_square_places, ok_square_places F_P_square_places T C_P_is_square_at, g_P_square_places, F_P_square_places.kp, F_P_square_places.bindsN fun _ _ _ _ _ _ us hl => match us, hl with | [_, _], _ => rfl⟩
  have C_P_is_root_paper : Cal P w K mg base 12 "is_root_paper" ["algebra", "number", "value"] (spPap K (He.ga K "Four") (He.ga K "Ratio") (He.ga K "Algebra")) := ⟨_, fd_P_is_root_paper, ok_is_root_paper F_P_is_root_paper T (⟨own_Algebra, He.noat_ok (c.fact 82 (f := .noat "Algebra" "places") rfl), He.noat_ok (c.fact 83 (f := .noat "Algebra" "a") rfl), He.noat_ok (c.fact 84 (f := .noat "Algebra" "b") rfl), He.noat_ok (c.fact 85 (f := .noat "Algebra" "discriminant") rfl), He.noat_ok (c.fact 86 (f := .noat "Algebra" "is_tables") rfl), He.noat_ok (c.fact 87 (f := .noat "Algebra" "is_definite") rfl)⟩ : AlgK K (He.ga K "Algebra")) C_P_check_root C_P_is_four_of C_P_is_root C_P_is_integer C_P_square_places, g_P_is_root_paper, F_P_is_root_paper.kp, F_P_is_root_paper.bindsN fun _ _ _ _ _ _ us hl => match us, hl with | [_, _, _], _ => rfl⟩
  have C_L_times : Cal P w K mg base 1 "_law_times" ["_law_a", "_law_b", "_law_one", "_law_other"] spLTimes := ⟨_, fd_L_times, ok_l_times F_L_times , g_L_times, F_L_times.kp, F_L_times.bindsN fun _ _ _ _ _ _ us hl => match us, hl with | [_, _, _, _], _ => rfl⟩
  have C_L_squares_to : Cal P w K mg base 2 "_law_squares_to" ["_law_algebra", "_law_four", "_law_number"] (spSq (He.ga K "Four") (He.ga K "Ratio") (He.ga K "Algebra")) := ⟨_, fd_L_squares_to, ok_squares_to F_L_squares_to (⟨own_Four, He.noat_ok (c.fact 96 (f := .noat "Four" "algebra") rfl), He.noat_ok (c.fact 97 (f := .noat "Four" "entries") rfl), He.noat_ok (c.fact 98 (f := .noat "Four" "bottom") rfl), He.noat_ok (c.fact 99 (f := .noat "Four" "trace") rfl), He.noat_ok (c.fact 100 (f := .noat "Four" "norm") rfl), He.noat_ok (c.fact 101 (f := .noat "Four" "is_ratio") rfl)⟩ : FourK K (He.ga K "Four")) (⟨own_Algebra, He.noat_ok (c.fact 82 (f := .noat "Algebra" "places") rfl), He.noat_ok (c.fact 83 (f := .noat "Algebra" "a") rfl), He.noat_ok (c.fact 84 (f := .noat "Algebra" "b") rfl), He.noat_ok (c.fact 85 (f := .noat "Algebra" "discriminant") rfl), He.noat_ok (c.fact 86 (f := .noat "Algebra" "is_tables") rfl), He.noat_ok (c.fact 87 (f := .noat "Algebra" "is_definite") rfl)⟩ : AlgK K (He.ga K "Algebra")) C_L_times, g_L_squares_to, F_L_squares_to.kp, F_L_squares_to.bindsN fun _ _ _ _ _ _ us hl => match us, hl with | [_, _, _], _ => rfl⟩
  have C_L_parts : Cal P w K mg base 1 "_law_parts" ["_law_number"] spLPart := ⟨_, fd_L_parts, ok_lparts F_L_parts T, g_L_parts, F_L_parts.kp, F_L_parts.bindsN fun _ _ _ _ _ _ us hl => match us, hl with | [_], _ => rfl⟩
  have C_L_bare : Cal P w K mg base 1 "_law_bare" ["_law_number", "_law_prime"] spBare := ⟨_, fd_L_bare, ok_bare F_L_bare T, g_L_bare, F_L_bare.kp, F_L_bare.bindsN fun _ _ _ _ _ _ us hl => match us, hl with | [_, _], _ => rfl⟩
  have C_L_residue : Cal P w K mg base 1 "_law_residue" ["_law_number", "_law_prime"] spResidue := ⟨_, fd_L_residue, ok_residue F_L_residue T, g_L_residue, F_L_residue.kp, F_L_residue.bindsN fun _ _ _ _ _ _ us hl => match us, hl with | [_, _], _ => rfl⟩
  have C_L_sign : Cal P w K mg base 2 "_law_sign" ["_law_a", "_law_b", "_law_place"] spLSign := ⟨_, fd_L_sign, ok_lsign F_L_sign T C_L_bare C_L_residue, g_L_sign, F_L_sign.kp, F_L_sign.bindsN fun _ _ _ _ _ _ us hl => match us, hl with | [_, _, _], _ => rfl⟩
  have C_L_places : Cal P w K mg base 3 "_law_places" ["_law_a", "_law_b"] spLPl := ⟨_, fd_L_places, ok_lplaces F_L_places T C_L_parts C_L_sign, g_L_places, F_L_places.kp, F_L_places.bindsN fun _ _ _ _ _ _ us hl => match us, hl with | [_, _], _ => rfl⟩
  have C_L_is_local_square : Cal P w K mg base 2 "_law_is_local_square" ["_law_number", "_law_place"] spSqAt := ⟨_, fd_L_is_local_square, ok_is_local_square F_L_is_local_square T C_L_bare C_L_residue, g_L_is_local_square, F_L_is_local_square.kp, F_L_is_local_square.bindsN fun _ _ _ _ _ _ us hl => match us, hl with | [_, _], _ => rfl⟩
  have C_L_is_due : Cal P w K mg base 4 "_law_is_due" ["_law_algebra", "_law_number", "_law_value"] (spPap K (He.ga K "Four") (He.ga K "Ratio") (He.ga K "Algebra")) := ⟨_, fd_L_is_due, ok_is_due F_L_is_due T (⟨own_Four, He.noat_ok (c.fact 96 (f := .noat "Four" "algebra") rfl), He.noat_ok (c.fact 97 (f := .noat "Four" "entries") rfl), He.noat_ok (c.fact 98 (f := .noat "Four" "bottom") rfl), He.noat_ok (c.fact 99 (f := .noat "Four" "trace") rfl), He.noat_ok (c.fact 100 (f := .noat "Four" "norm") rfl), He.noat_ok (c.fact 101 (f := .noat "Four" "is_ratio") rfl)⟩ : FourK K (He.ga K "Four")) (⟨own_Algebra, He.noat_ok (c.fact 82 (f := .noat "Algebra" "places") rfl), He.noat_ok (c.fact 83 (f := .noat "Algebra" "a") rfl), He.noat_ok (c.fact 84 (f := .noat "Algebra" "b") rfl), He.noat_ok (c.fact 85 (f := .noat "Algebra" "discriminant") rfl), He.noat_ok (c.fact 86 (f := .noat "Algebra" "is_tables") rfl), He.noat_ok (c.fact 87 (f := .noat "Algebra" "is_definite") rfl)⟩ : AlgK K (He.ga K "Algebra")) (He.glo_ok X G (c.fact 94 (f := .glo "Four") rfl)) own_Algebra (⟨_, fd_P_Algebra___eq__, OK_P_Algebra___eq__, He.meth_ok (c.fact 102 (f := .meth "Algebra" "__eq__") rfl), F_P_Algebra___eq__.bindsN fun _ _ _ _ _ _ us hl => match us, hl with | [_, _], _ => rfl⟩ : CalM P w K mg base 1 "__eq__" (He.ga K "Algebra") ["self", "value"] (spAlgEq (He.ga K "Algebra"))) C_L_squares_to C_L_places C_L_is_local_square, g_L_is_due, F_L_is_due.kp, F_L_is_due.bindsN fun _ _ _ _ _ _ us hl => match us, hl with | [_, _, _], _ => rfl⟩
  have C_P_has_root : Cal P w K mg base 6 "has_root" ["algebra", "number"] (spHasR (He.ga K "Algebra")) := ⟨_, fd_P_has_root, ok_has_root F_P_has_root T (⟨own_Algebra, He.noat_ok (c.fact 82 (f := .noat "Algebra" "places") rfl), He.noat_ok (c.fact 83 (f := .noat "Algebra" "a") rfl), He.noat_ok (c.fact 84 (f := .noat "Algebra" "b") rfl), He.noat_ok (c.fact 85 (f := .noat "Algebra" "discriminant") rfl), He.noat_ok (c.fact 86 (f := .noat "Algebra" "is_tables") rfl), He.noat_ok (c.fact 87 (f := .noat "Algebra" "is_definite") rfl)⟩ : AlgK K (He.ga K "Algebra")) C_P_check_root C_P_square_places, g_P_has_root, F_P_has_root.kp, F_P_has_root.bindsN fun _ _ _ _ _ _ us hl => match us, hl with | [_, _], _ => rfl⟩
  have C_P_prime_powers : Cal P w K mg base 2 "prime_powers" ["number"] spFactors := ⟨_, fd_P_prime_powers, ok_prime_powers F_P_prime_powers T C_P_stripped C_P_next_divisor, g_P_prime_powers, F_P_prime_powers.kp, F_P_prime_powers.bindsN fun _ _ _ _ _ _ us hl => match us, hl with | [_], _ => rfl⟩
  have C_P_factors : Cal P w K mg base 3 "factors" ["number"] spFactors := ⟨_, fd_P_factors, ok_factors F_P_factors C_P_check_number C_P_prime_powers, g_P_factors, F_P_factors.kp, F_P_factors.bindsN fun _ _ _ _ _ _ us hl => match us, hl with | [_], _ => rfl⟩
  have C_P_quarter : Cal P w K mg base 1 "quarter" ["unit"] spQuarter := ⟨_, fd_P_quarter, ok_quarter F_P_quarter , g_P_quarter, F_P_quarter.kp, F_P_quarter.bindsN fun _ _ _ _ _ _ us hl => match us, hl with | [_], _ => rfl⟩
  have C_P_eighth : Cal P w K mg base 1 "eighth" ["unit"] spEighth := ⟨_, fd_P_eighth, ok_eighth F_P_eighth , g_P_eighth, F_P_eighth.kp, F_P_eighth.bindsN fun _ _ _ _ _ _ us hl => match us, hl with | [_], _ => rfl⟩
  have C_P_sign_at_two : Cal P w K mg base 2 "sign_at_two" ["a", "b"] (spSgn true) := ⟨_, fd_P_sign_at_two, ok_sign_at_two F_P_sign_at_two C_P_stripped C_P_quarter C_P_eighth, g_P_sign_at_two, F_P_sign_at_two.kp, F_P_sign_at_two.bindsN fun _ _ _ _ _ _ us hl => match us, hl with | [_, _], _ => rfl⟩
  have C_P_sign_at_odd : Cal P w K mg base 3 "sign_at_odd" ["a", "b", "prime"] (spSgn false) := ⟨_, fd_P_sign_at_odd, ok_sign_at_odd F_P_sign_at_odd C_P_stripped C_P_rest_sign, g_P_sign_at_odd, F_P_sign_at_odd.kp, F_P_sign_at_odd.bindsN fun _ _ _ _ _ _ us hl => match us, hl with | [_, _, _], _ => rfl⟩
  have C_P_sign : Cal P w K mg base 4 "sign" ["a", "b", "place"] spSign := ⟨_, fd_P_sign, ok_sign F_P_sign C_P_sign_at_two C_P_sign_at_odd, g_P_sign, F_P_sign.kp, F_P_sign.bindsN fun _ _ _ _ _ _ us hl => match us, hl with | [_, _, _], _ => rfl⟩
  have C_P_signed_places : Cal P w K mg base 5 "signed_places" ["a", "b"] spPlaces := ⟨_, fd_P_signed_places, ok_signed_places F_P_signed_places T C_P_check_number C_P_factors C_P_sign, g_P_signed_places, F_P_signed_places.kp, F_P_signed_places.bindsN fun _ _ _ _ _ _ us hl => match us, hl with | [_, _], _ => rfl⟩
  have C_P_product_of_primes : Cal P w K mg base 1 "product_of_primes" ["places"] spDisc := ⟨_, fd_P_product_of_primes, ok_product_of_primes F_P_product_of_primes , g_P_product_of_primes, F_P_product_of_primes.kp, F_P_product_of_primes.bindsN fun _ _ _ _ _ _ us hl => match us, hl with | [_], _ => rfl⟩
  have OK_P_Algebra___init__ : FnOk P w K mg base CX0 6 _ fd_P_Algebra___init__ ["self", "a", "b"] (spAlgInit (He.ga K "Algebra")) := ok_Algebra_init F_P_Algebra___init__ T (⟨own_Algebra, He.noat_ok (c.fact 82 (f := .noat "Algebra" "places") rfl), He.noat_ok (c.fact 83 (f := .noat "Algebra" "a") rfl), He.noat_ok (c.fact 84 (f := .noat "Algebra" "b") rfl), He.noat_ok (c.fact 85 (f := .noat "Algebra" "discriminant") rfl), He.noat_ok (c.fact 86 (f := .noat "Algebra" "is_tables") rfl), He.noat_ok (c.fact 87 (f := .noat "Algebra" "is_definite") rfl)⟩ : AlgK K (He.ga K "Algebra")) C_P_signed_places C_P_product_of_primes
  have C_L_right : Cal P w K mg base 13 "_law_right" ["_law_jug_here"] spRight := ⟨_, fd_L_right, ok_right F_L_right T (⟨own_Four, He.noat_ok (c.fact 96 (f := .noat "Four" "algebra") rfl), He.noat_ok (c.fact 97 (f := .noat "Four" "entries") rfl), He.noat_ok (c.fact 98 (f := .noat "Four" "bottom") rfl), He.noat_ok (c.fact 99 (f := .noat "Four" "trace") rfl), He.noat_ok (c.fact 100 (f := .noat "Four" "norm") rfl), He.noat_ok (c.fact 101 (f := .noat "Four" "is_ratio") rfl)⟩ : FourK K (He.ga K "Four")) (⟨own_Algebra, He.noat_ok (c.fact 82 (f := .noat "Algebra" "places") rfl), He.noat_ok (c.fact 83 (f := .noat "Algebra" "a") rfl), He.noat_ok (c.fact 84 (f := .noat "Algebra" "b") rfl), He.noat_ok (c.fact 85 (f := .noat "Algebra" "discriminant") rfl), He.noat_ok (c.fact 86 (f := .noat "Algebra" "is_tables") rfl), He.noat_ok (c.fact 87 (f := .noat "Algebra" "is_definite") rfl)⟩ : AlgK K (He.ga K "Algebra")) ownt_Four C_L_pair C_L_pour C_L_near C_L_of C_P_is_root_paper C_L_is_due C_P_has_root C_L_places C_L_is_local_square (⟨_, fd_P_Algebra___init__, [], OK_P_Algebra___init__, He.mkr_ok (c.fact 110 (f := .mkr "Algebra") rfl), (He.glo_ok X G (c.fact 80 (f := .glo "Algebra") rfl)), F_P_Algebra___init__.bindsN fun _ _ _ _ _ _ us hl => match us, hl with | [_, _, _], _ => rfl, .nil⟩ : CalC P w K mg base 6 "Algebra" (He.ga K "Algebra") ["self", "a", "b"] [] (spAlgInit (He.ga K "Algebra"))) (⟨_, fd_P_Four___init__, us_P_Four___init___2, OK_P_Four___init__, He.mkr_ok (c.fact 103 (f := .mkr "Four") rfl), (He.glo_ok X G (c.fact 94 (f := .glo "Four") rfl)), bd_P_Four___init___2, dv_P_Four___init___2⟩ : CalC P w K mg base 7 "Four" (He.ga K "Four") ["self", "algebra", "entries", "bottom"] [.int 1] (spFourInit (He.ga K "Four") (He.ga K "Ratio") (He.ga K "Algebra"))), g_L_right, F_L_right.kp, F_L_right.bindsN fun _ _ _ _ _ _ us hl => match us, hl with | [_], _ => rfl⟩
  exact ok_law F_L_law T C_L_jug C_L_right C_P_is_root_paper (⟨_, fd_P_Algebra___init__, [], OK_P_Algebra___init__, He.mkr_ok (c.fact 110 (f := .mkr "Algebra") rfl), (He.glo_ok X G (c.fact 80 (f := .glo "Algebra") rfl)), F_P_Algebra___init__.bindsN fun _ _ _ _ _ _ us hl => match us, hl with | [_, _, _], _ => rfl, .nil⟩ : CalC P w K mg base 6 "Algebra" (He.ga K "Algebra") ["self", "a", "b"] [] (spAlgInit (He.ga K "Algebra"))) (⟨_, fd_P_Four___init__, us_P_Four___init___2, OK_P_Four___init__, He.mkr_ok (c.fact 103 (f := .mkr "Four") rfl), (He.glo_ok X G (c.fact 94 (f := .glo "Four") rfl)), bd_P_Four___init___2, dv_P_Four___init___2⟩ : CalC P w K mg base 7 "Four" (He.ga K "Four") ["self", "algebra", "entries", "bottom"] [.int 1] (spFourInit (He.ga K "Four") (He.ga K "Ratio") (He.ga K "Algebra")))
end Sf
open PySem PySem.W PySem.Calls PyProof.Rows
set_option maxHeartbeats 0 in
theorem PySem.Challenge.cw_signfours_k25_root_papers_judged_holds : PySem.Challenge.rw_signfours_k25_root_papers_judged.Holds := by
  w_on; o_law
  refine HandSHeadRun.head_imp (r := OpenLaw.row PySem.Challenge.rw_signfours_k25_root_papers_judged) (q := view (OpenLaw.row PySem.Challenge.rw_signfours_k25_root_papers_judged).prog [0, 89]) (H := Sf.hk) (ob := Sf.ob) (M := 20000) (loose := Sf.loose) (d := HandSHeadRun.topDef (OpenLaw.row PySem.Challenge.rw_signfours_k25_root_papers_judged).prog 89) (kwd := []) Sf.ob_eq
    Sf.run (by kernel_rfl) (by kernel_rfl) (by kernel_rfl) (by rfl) (by first | assumption | decide +kernel) (by decide +kernel) ⟨rfl, rfl, rfl, rfl, rfl, by decide +kernel⟩ ?hw ?hc
  case hw => w_witness2
  case hc =>
    refine L2.walk_ofE (l := PySem.Challenge.rw_signfours_k25_root_papers_judged) (n := 63) (k := 14) (x := "_law_script") (CX := L2.CX0) rfl (by decide) (by kernel_rfl) ⟨rfl, by decide, by decide⟩ ?F (fun _ _ _ _ z => z)
    intro w mg fa h Y G hmg0
    obtain ⟨K, KX, c, z⟩ := Y
    have hmg : mg ("law" : PySem.Str) = some (.ref fa) := by
      have e : (HandSHeadRun.topDef (OpenLaw.row PySem.Challenge.rw_signfours_k25_root_papers_judged).prog 89).name = ("law" : PySem.Str) := by kernel_rfl
      rw [← e]
      exact hmg0
    obtain ⟨fd, hb, hF⟩ := Sf.facts (P := (PySem.Challenge.rw_signfours_k25_root_papers_judged).prog) (w := w) KX G hmg c z
    exact ⟨K, fd, Sf.spLaw K, KX, hb, fun H a ns hl _ hS => ⟨a, ns, rfl, hS, hl, fun _ => rfl⟩, hF⟩
