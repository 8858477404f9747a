import PyProof.Rows.All
import Wide.All
import OpenK.AllK
import Wide.FinOn
import KE.KStateDown
import Lean
import HandS.Base
import HandS.Call
import HandS.List
import HandS.Comp
import HandS.Ends
import HandS.Evl
import HandS.Dict
import HandS.Iter
import HandS.Text
import HandS.More
import HandS.DictComp
import HandS.Words
import HandS.WordsList
import HandS.WordsExc
import HandS.WordsDict
import HandS.Defaults
import HandS.IsInst
import HandS.Small
import HandS.Wide
import HandS.Style
import HandS.SortInts
import HandS.Set
import HandS.SetFor
import HandS.Strs
import HandS.Star
import HandS.Head0
import HandS.Head1
import HandS.Head2
import HandS.Head3
import HandS.HeadEnd
import HandS.HeadHook1
import HandS.HeadHook2
import KE.KOpsOwn
import KE.KFmtOwn
import HandS.OwnEq
import HandS.Records
import HandS.Gcd
import HandS.TupAny
import HandS.Walk
import HandS.Zip
import PySem.Challenge.RW_signfours_k16_whole_points_judged
set_option Elab.async false
set_option linter.all false
set_option maxRecDepth 100000
set_option maxHeartbeats 4000000
namespace Sf
open PySem PySem.Spec PyProof.Rows L2
/-- a def of the text that lets no exception out, ready to be called -/
structure Cal (P : Program) (w : World) (K : PySem.W.Frag) (mg : Str → Option Value) (base : Heap) (k : Nat) (x : Str) (ps : List Str) (sp : Sp) where
  f : Addr
  fd : FuncData
  ok : FnOk P w K mg base CX0 k f fd ps sp
  g : mg x = some (.ref f)
  kp : PySem.W.keepIn K (.ref f) = true
  b : Binds K fd ps []
section
variable {X : Cx} {k : Nat} {x : Str} {ps : List Str} {sp : Sp} {e : Expr} {es : List Expr} {t : TA} {p pos : Pos}
theorem pe_cal (C : Cal X.prog X.w X.K X.mg X.base k x ps sp) (hr : Room k X.A) (ha : PA X (e :: es) t) (hg : Gl X x := by rfl) (hdb : (x == ("__debug__" : Str)) = false := by decide)
    (he : starEach (e :: es) X.env = (false, eval e X.env) :: starEach es X.env := by rfl) (hpl : (backTo pos (starEach es X.env)).any (·.1) = false := by rfl) :
    PE X (.Call (.Name x p) (e :: es) [] pos) (tCall sp [] E0 t) :=
  pe_call C.ok hr hg C.g C.kp C.b .nil pass0 ha hdb he hpl
theorem pe_cal0 (C : Cal X.prog X.w X.K X.mg X.base k x ps sp) (hr : Room k X.A) (hg : Gl X x := by rfl) (hdb : (x == ("__debug__" : Str)) = false := by decide) :
    PE X (.Call (.Name x p) [] [] pos) (tCall sp [] E0 tNil) :=
  pe_call0 C.ok hr hg C.g C.kp C.b .nil pass0 hdb
/-- a power of any size that the machine's line takes -/
def CPowW (i j : Int) : Prop := 0 ≤ j ∧ (Builtin.Int.intBits i : Int) * j ≤ 2 ^ 27
theorem op_powW : OpR X (binaryOp .Pow) (rI CPowW fun i j => .int (i ^ j.toNat)) := opI fun _ _ _ _ _ _ _ hc q => pow_int hc.1 hc.2 q
/-- a dict that a call has just made, frozen from here on -/
theorem pe_frz {e : Expr} {te : TE} (h : PE X e te) : PE X e (fun σ H Q => te σ H fun x H1 => ∃ d u, x = .ref d ∧ H1 d = some u ∧ Mut (some u) ∧ ∀ od, Q x (upd H1 d (.frz od u))) := by
  refine ⟨fun pins s σ H Q I hw => ?_⟩
  refine thn (h.run pins s σ _ _ I hw) fun v s1 ⟨y, H1, I1, r, d, u, e1, hd, mu, q⟩ => ?_
  obtain ⟨od, I2⟩ := I1.lock hd mu
  exact ⟨y, _, I2, r, q od⟩
end
section
variable {X : Cx} {e : Expr}
/-- an expression, with a word behind it: what follows is shown once -/
def tMid (t : TE) : TE := fun σ H Q => ∃ Mid : V → Hp → Prop, t σ H Mid ∧ ∀ v H', Mid v H' → Q v H'
theorem pe_cut {t : TE} (h : PE X e t) : PE X e (tMid t) :=
  ⟨fun pins s σ H Q I ⟨Mid, hm, hu⟩ => thn (h.run pins s σ H Mid I hm) fun u s1 ⟨x, H1, I1, r, q⟩ => ⟨x, H1, I1, r, hu x H1 q⟩⟩
def tMidT (t : TT) : TT := fun σ H Q => ∃ Mid : Bool → Hp → Prop, t σ H Mid ∧ ∀ v H', Mid v H' → Q v H'
theorem pt_mid {t : TT} (h : PT X e t) : PT X e (tMidT t) :=
  ⟨fun pins s σ H Q I ⟨Mid, hm, hu⟩ => thn (h.run pins s σ H Mid I hm) fun b s1 ⟨H1, I1, q⟩ => ⟨H1, I1, hu b H1 q⟩⟩
end
theorem same_upd {H : Hp} {p : Addr} {o : HO} (h : H p = none) : Same H (upd H p o) := fun b x e => by
  rw [upd_ne (ne_of_none e h)]
  exact e
theorem CMulW.of {i j : Int} (hi : i.natAbs < 2 ^ 3000) (hj : j.natAbs < 2 ^ 3000) : CMulW i j := wide_mul hi hj (by decide) (by decide) (by decide)
theorem CDivW.of {i j : Int} (h0 : 0 < j) (hj : j.natAbs < 2 ^ 3000) : CDivW i j := wide_div h0 hj (by decide) (by decide)
theorem two3000 : (10 : Nat) ^ 600 < 2 ^ 3000 := by decide +kernel
end Sf
namespace Sf
open PySem PySem.Spec PyProof.Rows L2
/-- an if whose test is a decision -/
theorem ifd {p : Prop} [Decidable p] {A B : Prop} (h1 : p → A) (h2 : ¬ p → B) : if decide p = true then A else B := by
  by_cases h : p
  · rw [if_pos (decide_eq_true h)]; exact h1 h
  · rw [if_neg (by simpa using h)]; exact h2 h
theorem ifn {p : Prop} [Decidable p] {A B : Prop} (h1 : ¬ p → A) (h2 : p → B) : if (!decide p) = true then A else B := by
  by_cases h : p
  · rw [if_neg (by simpa using h)]; exact h2 h
  · rw [if_pos (by simpa using h)]; exact h1 h
theorem ifb {b : Bool} {A B : Prop} (h1 : b = true → A) (h2 : b = false → B) : if b = true then A else B := by
  cases b with
  | true => rw [if_pos rfl]; exact h1 rfl
  | false => rw [if_neg Bool.false_ne_true]; exact h2 rfl
end Sf
namespace Sf
open PySem PySem.Spec PyProof.Rows L2
/-! the head's facts and one more Bool -/
abbrev AlO : Type := He.AlD × Bool
/-- what is looked at: the module's names, what they name, so on; a code object's own things are left out -/
def refsN (o : Obj) : List Addr := match o.data with
  | .dict es _ => es.toList.flatMap fun e => He.refV e.val
  | .func fd => He.refV fd.code ++ He.refV fd.defaults
  | .cls cd => cd.ns :: cd.mro.flatMap He.refV
  | _ => []
def stepN (g : Addr → Option Obj) (as : List Addr) : List Addr := as.flatMap fun a => match g a with
  | some o => refsN o
  | none => []
def asN (g : Addr → Option Obj) : Nat → List Addr → List Addr
  | 0, as => as
  | n + 1, as => as ++ asN g n (stepN g as)
def obsO (n : Nat) (fa : List He.Fa) (fn : List He.DefD) (ex : PySem.W.Frag → Bool) (g : Addr → Option Obj) : AlO := (He.obsD fa fn (He.frG g (asN g n [mainGlobals])), ex (He.frG g (asN g n [mainGlobals])))
def hookO (n : Nat) (fa : List He.Fa) (fn : List He.DefD) (ex : PySem.W.Frag → Bool) : PySem.W.Hook where
  α := AlO
  obs := fun s => obsO n fa fn ex s.heap.get?
  val := fun _ => (He.valD fn, true)
  says := fun _ h => ∃ K : PySem.W.Frag, K.In h ∧ He.SaysD fa fn K ∧ ex K = true
  of := fun _ _ e => ⟨_, He.frG_in, congrArg (fun z : AlO => z.1) e, congrArg (fun z : AlO => z.2) e⟩
  keeps := fun _ _ _ ⟨K, hK, c⟩ k => ⟨K, PySem.W.Frag.In.keeps hK k, c⟩
theorem obsO_eq {n : Nat} {fa : List He.Fa} {fn : List He.DefD} {ex : PySem.W.Frag → Bool} {g : Addr → Option Obj} {s : Shared} (h : ∀ a, g a = s.heap.get? a) : obsO n fa fn ex g = (hookO n fa fn ex).obs s := by
  have e : g = s.heap.get? := funext h
  rw [e] <;> rfl
def ownB (K : PySem.W.Frag) (x : Str) : Bool := PySem.W.selfFirst K (He.ga K x) && (decide (PySem.W.subIn K (.type "int") (.ref (He.ga K x)) = some false) && (He.eqO (PySem.W.findIn K (.ref (He.ga K x)) "__ne__") (some (some (.builtin "object.__ne__"))) &&
  (decide (PySem.W.mroIn K (He.ga K x) (.type "object") = some true) && (He.eqO (PySem.W.findIn K (.ref (He.ga K x)) "__class__") (some (some (.builtin "object.__class__"))) && (He.eqO (PySem.W.specialIn K (.builtin "object.__class__") "__get__") (some (some (.builtin "getset_descriptor.__get__"))) &&
  (decide (PySem.W.takesIn K (.builtin "object.__class__") = some true) && (decide (PySem.W.kitOne K (.ref (He.ga K x)) (.ref (He.ga K x)) = some true) && decide (PySem.W.kitOne K (.type "int") (.ref (He.ga K x)) = some false))))))))
/-- a module's name that holds a built-in function -/
def gblB (K : PySem.W.Frag) (x : Str) (id : String) : Bool := He.eqO (PySem.W.nsIn K mainGlobals x) (some (some (.builtin id)))
theorem gblB_ok {K : PySem.W.Frag} {h : Heap} {mg : Str → Option Value} (X : K.In h) (G : h.Ns mainGlobals mg) {x : Str} {id : String} (c : gblB K x id = true) : mg x = some (.builtin id) := PySem.W.mg_of X G (He.eqO_ok c)
end Sf

namespace Sf
open PySem PySem.Spec PyProof.Rows L2
def top (i : Nat) : Stmt := PySem.Challenge.pw_signfours_k16_whole_points_judged.main.body.getD i (.Pass ⟨0, 0, 0, 0⟩)
abbrev s_P__wall : Stmt := top 1
theorem sc_P__wall : FnScope ["k"] ["k"] (defScope s_P__wall) := ⟨rfl, rfl, rfl, by decide +kernel, rfl, by decide +kernel, by decide +kernel⟩
abbrev s_P_is_integer : Stmt := top 4
theorem sc_P_is_integer : FnScope ["value"] ["value"] (defScope s_P_is_integer) := ⟨rfl, rfl, rfl, by decide +kernel, rfl, by decide +kernel, by decide +kernel⟩
abbrev s_P_is_passed : Stmt := top 5
theorem sc_P_is_passed : FnScope ["value"] ["value"] (defScope s_P_is_passed) := ⟨rfl, rfl, rfl, by decide +kernel, rfl, by decide +kernel, by decide +kernel⟩
abbrev s_P_is_triple : Stmt := top 6
theorem sc_P_is_triple : FnScope ["value", "part"] ["value"] (defScope s_P_is_triple) := ⟨rfl, rfl, rfl, by decide +kernel, rfl, by decide +kernel, by decide +kernel⟩
abbrev s_P_ParseError___init__ : Stmt := inClass (top 13) 0
theorem sc_P_ParseError___init__ : FnScope ["self", "spot"] ["self", "spot"] (defScope s_P_ParseError___init__) := ⟨rfl, rfl, rfl, by decide +kernel, rfl, by decide +kernel, by decide +kernel⟩
abbrev s_P_InvalidNumber___init__ : Stmt := inClass (top 14) 0
theorem sc_P_InvalidNumber___init__ : FnScope ["self", "given"] ["self", "given"] (defScope s_P_InvalidNumber___init__) := ⟨rfl, rfl, rfl, by decide +kernel, rfl, by decide +kernel, by decide +kernel⟩
abbrev s_P_Refused___init__ : Stmt := inClass (top 15) 0
theorem sc_P_Refused___init__ : FnScope ["self", "reason"] ["self", "reason"] (defScope s_P_Refused___init__) := ⟨rfl, rfl, rfl, by decide +kernel, rfl, by decide +kernel, by decide +kernel⟩
abbrev s_P_factors : Stmt := top 18
theorem sc_P_factors : FnScope ["number"] ["number"] (defScope s_P_factors) := ⟨rfl, rfl, rfl, by decide +kernel, rfl, by decide +kernel, by decide +kernel⟩
abbrev s_P_prime_powers : Stmt := top 19
theorem sc_P_prime_powers : FnScope ["number", "rest", "found", "divisor"] ["number"] (defScope s_P_prime_powers) := ⟨rfl, rfl, rfl, by decide +kernel, rfl, by decide +kernel, by decide +kernel⟩
abbrev s_P_check_number : Stmt := top 20
theorem sc_P_check_number : FnScope ["value"] ["value"] (defScope s_P_check_number) := ⟨rfl, rfl, rfl, by decide +kernel, rfl, by decide +kernel, by decide +kernel⟩
abbrev s_P_next_divisor : Stmt := top 21
theorem sc_P_next_divisor : FnScope ["divisor"] ["divisor"] (defScope s_P_next_divisor) := ⟨rfl, rfl, rfl, by decide +kernel, rfl, by decide +kernel, by decide +kernel⟩
abbrev s_P_stripped : Stmt := top 22
theorem sc_P_stripped : FnScope ["number", "prime", "many"] ["number", "prime"] (defScope s_P_stripped) := ⟨rfl, rfl, rfl, by decide +kernel, rfl, by decide +kernel, by decide +kernel⟩
abbrev s_P_rest_sign : Stmt := top 23
theorem sc_P_rest_sign : FnScope ["number", "prime"] ["number", "prime"] (defScope s_P_rest_sign) := ⟨rfl, rfl, rfl, by decide +kernel, rfl, by decide +kernel, by decide +kernel⟩
abbrev s_P_power_modulo : Stmt := top 24
theorem sc_P_power_modulo : FnScope ["number", "many", "modulus", "made", "square"] ["number", "many", "modulus"] (defScope s_P_power_modulo) := ⟨rfl, rfl, rfl, by decide +kernel, rfl, by decide +kernel, by decide +kernel⟩
abbrev s_P_signed_places : Stmt := top 26
theorem sc_P_signed_places : FnScope ["a", "b", "divisors", "place"] ["a", "b"] (defScope s_P_signed_places) := ⟨rfl, rfl, rfl, by decide +kernel, rfl, by decide +kernel, by decide +kernel⟩
abbrev s_P_sign : Stmt := top 27
theorem sc_P_sign : FnScope ["a", "b", "place"] ["a", "b", "place"] (defScope s_P_sign) := ⟨rfl, rfl, rfl, by decide +kernel, rfl, by decide +kernel, by decide +kernel⟩
abbrev s_P_sign_at_two : Stmt := top 28
theorem sc_P_sign_at_two : FnScope ["a", "b", "s", "one", "t", "other", "told"] ["a", "b"] (defScope s_P_sign_at_two) := ⟨rfl, rfl, rfl, by decide +kernel, rfl, by decide +kernel, by decide +kernel⟩
abbrev s_P_quarter : Stmt := top 29
theorem sc_P_quarter : FnScope ["unit"] ["unit"] (defScope s_P_quarter) := ⟨rfl, rfl, rfl, by decide +kernel, rfl, by decide +kernel, by decide +kernel⟩
abbrev s_P_eighth : Stmt := top 30
theorem sc_P_eighth : FnScope ["unit"] ["unit"] (defScope s_P_eighth) := ⟨rfl, rfl, rfl, by decide +kernel, rfl, by decide +kernel, by decide +kernel⟩
abbrev s_P_sign_at_odd : Stmt := top 31
theorem sc_P_sign_at_odd : FnScope ["a", "b", "prime", "s", "one", "t", "other", "told"] ["a", "b", "prime"] (defScope s_P_sign_at_odd) := ⟨rfl, rfl, rfl, by decide +kernel, rfl, by decide +kernel, by decide +kernel⟩
abbrev s_P_is_point : Stmt := top 33
theorem sc_P_is_point : FnScope ["a", "b", "value"] ["a", "b", "value"] (defScope s_P_is_point) := ⟨rfl, rfl, rfl, by decide +kernel, rfl, by decide +kernel, by decide +kernel⟩
abbrev s_P_solves : Stmt := top 34
theorem sc_P_solves : FnScope ["a", "b", "c", "value", "x", "y", "z"] ["a", "b", "c", "value"] (defScope s_P_solves) := ⟨rfl, rfl, rfl, by decide +kernel, rfl, by decide +kernel, by decide +kernel⟩
abbrev s_P_Ratio___init__ : Stmt := inClass (top 36) 0
theorem sc_P_Ratio___init__ : FnScope ["self", "top", "bottom"] ["self", "top", "bottom"] (defScope s_P_Ratio___init__) := ⟨rfl, rfl, rfl, by decide +kernel, rfl, by decide +kernel, by decide +kernel⟩
abbrev s_P_Ratio_read : Stmt := inClass (top 36) 1
theorem sc_P_Ratio_read : FnScope ["text", "top", "slash", "bottom", "found"] ["text"] (defScope s_P_Ratio_read) := ⟨rfl, rfl, rfl, by decide +kernel, rfl, by decide +kernel, by decide +kernel⟩
abbrev s_P_Ratio_over : Stmt := inClass (top 36) 2
theorem sc_P_Ratio_over : FnScope ["self", "other", "top", "bottom"] ["self", "other"] (defScope s_P_Ratio_over) := ⟨rfl, rfl, rfl, by decide +kernel, rfl, by decide +kernel, by decide +kernel⟩
abbrev s_P_Ratio_compared : Stmt := inClass (top 36) 3
theorem sc_P_Ratio_compared : FnScope ["self", "other"] ["self", "other"] (defScope s_P_Ratio_compared) := ⟨rfl, rfl, rfl, by decide +kernel, rfl, by decide +kernel, by decide +kernel⟩
abbrev s_P_Ratio___add__ : Stmt := inClass (top 36) 4
theorem sc_P_Ratio___add__ : FnScope ["self", "other", "top", "bottom"] ["self", "other"] (defScope s_P_Ratio___add__) := ⟨rfl, rfl, rfl, by decide +kernel, rfl, by decide +kernel, by decide +kernel⟩
abbrev s_P_Ratio___sub__ : Stmt := inClass (top 36) 5
theorem sc_P_Ratio___sub__ : FnScope ["self", "other", "top", "bottom"] ["self", "other"] (defScope s_P_Ratio___sub__) := ⟨rfl, rfl, rfl, by decide +kernel, rfl, by decide +kernel, by decide +kernel⟩
abbrev s_P_Ratio___mul__ : Stmt := inClass (top 36) 6
theorem sc_P_Ratio___mul__ : FnScope ["self", "other", "top", "bottom"] ["self", "other"] (defScope s_P_Ratio___mul__) := ⟨rfl, rfl, rfl, by decide +kernel, rfl, by decide +kernel, by decide +kernel⟩
abbrev s_P_Ratio___neg__ : Stmt := inClass (top 36) 7
theorem sc_P_Ratio___neg__ : FnScope ["self"] ["self"] (defScope s_P_Ratio___neg__) := ⟨rfl, rfl, rfl, by decide +kernel, rfl, by decide +kernel, by decide +kernel⟩
abbrev s_P_Ratio___eq__ : Stmt := inClass (top 36) 8
theorem sc_P_Ratio___eq__ : FnScope ["self", "value"] ["self", "value"] (defScope s_P_Ratio___eq__) := ⟨rfl, rfl, rfl, by decide +kernel, rfl, by decide +kernel, by decide +kernel⟩
abbrev s_P_Ratio___bool__ : Stmt := inClass (top 36) 9
theorem sc_P_Ratio___bool__ : FnScope ["self"] ["self"] (defScope s_P_Ratio___bool__) := ⟨rfl, rfl, rfl, by decide +kernel, rfl, by decide +kernel, by decide +kernel⟩
abbrev s_P_Ratio___str__ : Stmt := inClass (top 36) 10
theorem sc_P_Ratio___str__ : FnScope ["self"] ["self"] (defScope s_P_Ratio___str__) := ⟨rfl, rfl, rfl, by decide +kernel, rfl, by decide +kernel, by decide +kernel⟩
abbrev s_P_made_ratio : Stmt := top 37
theorem sc_P_made_ratio : FnScope ["top", "bottom", "terms", "made"] ["top", "bottom"] (defScope s_P_made_ratio) := ⟨rfl, rfl, rfl, by decide +kernel, rfl, by decide +kernel, by decide +kernel⟩
abbrev s_P_lowest_terms : Stmt := top 38
theorem sc_P_lowest_terms : FnScope ["top", "bottom", "common"] ["top", "bottom"] (defScope s_P_lowest_terms) := ⟨rfl, rfl, rfl, by decide +kernel, rfl, by decide +kernel, by decide +kernel⟩
abbrev s_P_sign_of : Stmt := top 39
theorem sc_P_sign_of : FnScope ["number"] ["number"] (defScope s_P_sign_of) := ⟨rfl, rfl, rfl, by decide +kernel, rfl, by decide +kernel, by decide +kernel⟩
abbrev s_P_is_fraction : Stmt := top 40
theorem sc_P_is_fraction : FnScope ["value"] ["value"] (defScope s_P_is_fraction) := ⟨rfl, rfl, rfl, by decide +kernel, rfl, by decide +kernel, by decide +kernel⟩
abbrev s_P_check_ratio : Stmt := top 41
theorem sc_P_check_ratio : FnScope ["value"] ["value"] (defScope s_P_check_ratio) := ⟨rfl, rfl, rfl, by decide +kernel, rfl, by decide +kernel, by decide +kernel⟩
abbrev s_P_terms_of : Stmt := top 42
theorem sc_P_terms_of : FnScope ["ratio"] ["ratio"] (defScope s_P_terms_of) := ⟨rfl, rfl, rfl, by decide +kernel, rfl, by decide +kernel, by decide +kernel⟩
abbrev s_P_is_digits : Stmt := top 43
theorem sc_P_is_digits : FnScope ["word"] ["word"] (defScope s_P_is_digits) := ⟨rfl, rfl, rfl, by decide +kernel, rfl, by decide +kernel, by decide +kernel⟩
abbrev s_P_Algebra___init__ : Stmt := inClass (top 47) 0
theorem sc_P_Algebra___init__ : FnScope ["self", "a", "b"] ["self", "a", "b"] (defScope s_P_Algebra___init__) := ⟨rfl, rfl, rfl, by decide +kernel, rfl, by decide +kernel, by decide +kernel⟩
abbrev s_P_Algebra_basis : Stmt := inClass (top 47) 1
theorem sc_P_Algebra_basis : FnScope ["self"] ["self"] (defScope s_P_Algebra_basis) := ⟨rfl, rfl, rfl, by decide +kernel, rfl, by decide +kernel, by decide +kernel⟩
abbrev s_P_Algebra___eq__ : Stmt := inClass (top 47) 2
theorem sc_P_Algebra___eq__ : FnScope ["self", "value"] ["self", "value"] (defScope s_P_Algebra___eq__) := ⟨rfl, rfl, rfl, by decide +kernel, rfl, by decide +kernel, by decide +kernel⟩
abbrev s_P_Algebra___str__ : Stmt := inClass (top 47) 3
theorem sc_P_Algebra___str__ : FnScope ["self"] ["self"] (defScope s_P_Algebra___str__) := ⟨rfl, rfl, rfl, by decide +kernel, rfl, by decide +kernel, by decide +kernel⟩
abbrev s_P_Four___init__ : Stmt := inClass (top 48) 0
theorem sc_P_Four___init__ : FnScope ["self", "algebra", "entries", "bottom"] ["self", "algebra", "entries", "bottom"] (defScope s_P_Four___init__) := ⟨rfl, rfl, rfl, by decide +kernel, rfl, by decide +kernel, by decide +kernel⟩
abbrev s_P_Four_mate : Stmt := inClass (top 48) 1
theorem sc_P_Four_mate : FnScope ["self"] ["self"] (defScope s_P_Four_mate) := ⟨rfl, rfl, rfl, by decide +kernel, rfl, by decide +kernel, by decide +kernel⟩
abbrev s_P_Four_inverse : Stmt := inClass (top 48) 2
theorem sc_P_Four_inverse : FnScope ["self", "entries", "part"] ["self"] (defScope s_P_Four_inverse) := ⟨rfl, rfl, rfl, by decide +kernel, rfl, by decide +kernel, by decide +kernel⟩
abbrev s_P_Four_power : Stmt := inClass (top 48) 3
theorem sc_P_Four_power : FnScope ["self", "many", "made", "under", "square", "below"] ["self", "many"] (defScope s_P_Four_power) := ⟨rfl, rfl, rfl, by decide +kernel, rfl, by decide +kernel, by decide +kernel⟩
abbrev s_P_Four_scaled : Stmt := inClass (top 48) 4
theorem sc_P_Four_scaled : FnScope ["self", "ratio"] ["self", "ratio"] (defScope s_P_Four_scaled) := ⟨rfl, rfl, rfl, by decide +kernel, rfl, by decide +kernel, by decide +kernel⟩
abbrev s_P_Four___add__ : Stmt := inClass (top 48) 5
theorem sc_P_Four___add__ : FnScope ["self", "other", "entries", "one", "two"] ["self", "other"] (defScope s_P_Four___add__) := ⟨rfl, rfl, rfl, by decide +kernel, rfl, by decide +kernel, by decide +kernel⟩
abbrev s_P_Four___sub__ : Stmt := inClass (top 48) 6
theorem sc_P_Four___sub__ : FnScope ["self", "other"] ["self", "other"] (defScope s_P_Four___sub__) := ⟨rfl, rfl, rfl, by decide +kernel, rfl, by decide +kernel, by decide +kernel⟩
abbrev s_P_Four___mul__ : Stmt := inClass (top 48) 7
theorem sc_P_Four___mul__ : FnScope ["self", "other", "entries"] ["self", "other"] (defScope s_P_Four___mul__) := ⟨rfl, rfl, rfl, by decide +kernel, rfl, by decide +kernel, by decide +kernel⟩
abbrev s_P_Four___neg__ : Stmt := inClass (top 48) 8
theorem sc_P_Four___neg__ : FnScope ["self", "part"] ["self"] (defScope s_P_Four___neg__) := ⟨rfl, rfl, rfl, by decide +kernel, rfl, by decide +kernel, by decide +kernel⟩
abbrev s_P_Four___eq__ : Stmt := inClass (top 48) 9
theorem sc_P_Four___eq__ : FnScope ["self", "value"] ["self", "value"] (defScope s_P_Four___eq__) := ⟨rfl, rfl, rfl, by decide +kernel, rfl, by decide +kernel, by decide +kernel⟩
abbrev s_P_Four___bool__ : Stmt := inClass (top 48) 10
theorem sc_P_Four___bool__ : FnScope ["self"] ["self"] (defScope s_P_Four___bool__) := ⟨rfl, rfl, rfl, by decide +kernel, rfl, by decide +kernel, by decide +kernel⟩
abbrev s_P_Four___str__ : Stmt := inClass (top 48) 11
theorem sc_P_Four___str__ : FnScope ["self"] ["self"] (defScope s_P_Four___str__) := ⟨rfl, rfl, rfl, by decide +kernel, rfl, by decide +kernel, by decide +kernel⟩
abbrev s_P_made_four : Stmt := top 49
theorem sc_P_made_four : FnScope ["algebra", "entries", "bottom", "lowest", "made"] ["algebra", "entries", "bottom"] (defScope s_P_made_four) := ⟨rfl, rfl, rfl, by decide +kernel, rfl, by decide +kernel, by decide +kernel⟩
abbrev s_P_check_algebra : Stmt := top 50
theorem sc_P_check_algebra : FnScope ["value"] ["value"] (defScope s_P_check_algebra) := ⟨rfl, rfl, rfl, by decide +kernel, rfl, by decide +kernel, by decide +kernel⟩
abbrev s_P_check_operands : Stmt := top 51
theorem sc_P_check_operands : FnScope ["one", "other"] ["one", "other"] (defScope s_P_check_operands) := ⟨rfl, rfl, rfl, by decide +kernel, rfl, by decide +kernel, by decide +kernel⟩
abbrev s_P_is_passed_entries : Stmt := top 52
theorem sc_P_is_passed_entries : FnScope ["value", "part"] ["value"] (defScope s_P_is_passed_entries) := ⟨rfl, rfl, rfl, by decide +kernel, rfl, by decide +kernel, by decide +kernel⟩
abbrev s_P_product_of_primes : Stmt := top 53
theorem sc_P_product_of_primes : FnScope ["places", "made", "place"] ["places"] (defScope s_P_product_of_primes) := ⟨rfl, rfl, rfl, by decide +kernel, rfl, by decide +kernel, by decide +kernel⟩
abbrev s_P_lowest_entries : Stmt := top 54
theorem sc_P_lowest_entries : FnScope ["entries", "bottom", "w", "x", "y", "z", "common"] ["entries", "bottom"] (defScope s_P_lowest_entries) := ⟨rfl, rfl, rfl, by decide +kernel, rfl, by decide +kernel, by decide +kernel⟩
abbrev s_P_mate_entries : Stmt := top 55
theorem sc_P_mate_entries : FnScope ["entries", "w", "x", "y", "z"] ["entries"] (defScope s_P_mate_entries) := ⟨rfl, rfl, rfl, by decide +kernel, rfl, by decide +kernel, by decide +kernel⟩
abbrev s_P_norm_of : Stmt := top 56
theorem sc_P_norm_of : FnScope ["algebra", "entries", "bottom", "w", "x", "y", "z", "top"] ["algebra", "entries", "bottom"] (defScope s_P_norm_of) := ⟨rfl, rfl, rfl, by decide +kernel, rfl, by decide +kernel, by decide +kernel⟩
abbrev s_P_product_entries : Stmt := top 57
theorem sc_P_product_entries : FnScope ["algebra", "one", "other", "a", "b", "w", "x", "y", "z", "s", "t", "u", "v"] ["algebra", "one", "other"] (defScope s_P_product_entries) := ⟨rfl, rfl, rfl, by decide +kernel, rfl, by decide +kernel, by decide +kernel⟩
abbrev s_P_written_terms : Stmt := top 58
theorem sc_P_written_terms : FnScope ["entries", "terms", "size", "letter"] ["entries"] (defScope s_P_written_terms) := ⟨rfl, rfl, rfl, by decide +kernel, rfl, by decide +kernel, by decide +kernel⟩
abbrev s_P_written_term : Stmt := top 59
theorem sc_P_written_term : FnScope ["size", "letter", "sign", "digits"] ["size", "letter"] (defScope s_P_written_term) := ⟨rfl, rfl, rfl, by decide +kernel, rfl, by decide +kernel, by decide +kernel⟩
abbrev s_L_vial : Stmt := top 61
theorem sc_L_vial : FnScope ["_law_script", "_law_at", "_law_cell", "_law_great"] ["_law_script", "_law_at"] (defScope s_L_vial) := ⟨rfl, rfl, rfl, by decide +kernel, rfl, by decide +kernel, by decide +kernel⟩
abbrev s_L_drop : Stmt := top 62
theorem sc_L_drop : FnScope ["_law_vial_here", "_law_total", "_law_found", "_law_one", "_law_two"] ["_law_vial_here", "_law_total"] (defScope s_L_drop) := ⟨rfl, rfl, rfl, by decide +kernel, rfl, by decide +kernel, by decide +kernel⟩
abbrev s_L_any : Stmt := top 63
theorem sc_L_any : FnScope ["_law_vial_here", "_law_items"] ["_law_vial_here", "_law_items"] (defScope s_L_any) := ⟨rfl, rfl, rfl, by decide +kernel, rfl, by decide +kernel, by decide +kernel⟩
abbrev s_L_number : Stmt := top 64
theorem sc_L_number : FnScope ["_law_vial_here", "_law_most"] ["_law_vial_here", "_law_most"] (defScope s_L_number) := ⟨rfl, rfl, rfl, by decide +kernel, rfl, by decide +kernel, by decide +kernel⟩
abbrev s_L_is_own : Stmt := top 65
theorem sc_L_is_own : FnScope ["_law_a", "_law_b", "_law_value", "_law_one", "_law_x", "_law_y", "_law_z"] ["_law_a", "_law_b", "_law_value"] (defScope s_L_is_own) := ⟨rfl, rfl, rfl, by decide +kernel, rfl, by decide +kernel, by decide +kernel⟩
abbrev s_L_world : Stmt := top 66
theorem sc_L_world : FnScope ["_law_vial_here", "_law_x", "_law_y", "_law_z", "_law_way", "_law_a", "_law_b"] ["_law_vial_here"] (defScope s_L_world) := ⟨rfl, rfl, rfl, by decide +kernel, rfl, by decide +kernel, by decide +kernel⟩
abbrev s_L_near : Stmt := top 67
theorem sc_L_near : FnScope ["_law_vial_here", "_law_value", "_law_at", "_law_way", "_law_great", "_law_one"] ["_law_vial_here", "_law_value"] (defScope s_L_near) := ⟨rfl, rfl, rfl, by decide +kernel, rfl, by decide +kernel, by decide +kernel⟩
abbrev s_L_right : Stmt := top 68
theorem sc_L_right : FnScope ["_law_vial_here", "_law_a", "_law_b", "_law_value", "_law_turn", "_law_near_here", "_law_due", "_law_one", "_law_four"] ["_law_vial_here"] (defScope s_L_right) := ⟨rfl, rfl, rfl, by decide +kernel, rfl, by decide +kernel, by decide +kernel⟩
abbrev s_L_law : Stmt := top 69
theorem sc_L_law : FnScope ["_law_script", "_law_at", "_law_vial_here", "_law_told"] ["_law_script"] (defScope s_L_law) := ⟨rfl, rfl, rfl, by decide +kernel, rfl, by decide +kernel, by decide +kernel⟩
end Sf

namespace Sf
open PySem PySem.Spec PyProof.Rows L2
def d_L_vial : He.DefD := ⟨("_law_vial", none), "_law_vial", "_law_vial", defArgs s_L_vial, defBody s_L_vial, defScope s_L_vial, [], []⟩
def d_L_drop : He.DefD := ⟨("_law_drop", none), "_law_drop", "_law_drop", defArgs s_L_drop, defBody s_L_drop, defScope s_L_drop, [], []⟩
def d_L_any : He.DefD := ⟨("_law_any", none), "_law_any", "_law_any", defArgs s_L_any, defBody s_L_any, defScope s_L_any, [], []⟩
def d_L_number : He.DefD := ⟨("_law_number", none), "_law_number", "_law_number", defArgs s_L_number, defBody s_L_number, defScope s_L_number, [], []⟩
def d_L_world : He.DefD := ⟨("_law_world", none), "_law_world", "_law_world", defArgs s_L_world, defBody s_L_world, defScope s_L_world, [], []⟩
def d_L_near : He.DefD := ⟨("_law_near", none), "_law_near", "_law_near", defArgs s_L_near, defBody s_L_near, defScope s_L_near, [], []⟩
def d_L_is_own : He.DefD := ⟨("_law_is_own", none), "_law_is_own", "_law_is_own", defArgs s_L_is_own, defBody s_L_is_own, defScope s_L_is_own, [], []⟩
def d_P_is_integer : He.DefD := ⟨("is_integer", none), "is_integer", "is_integer", defArgs s_P_is_integer, defBody s_P_is_integer, defScope s_P_is_integer, [], []⟩
def d_P_check_number : He.DefD := ⟨("check_number", none), "check_number", "check_number", defArgs s_P_check_number, defBody s_P_check_number, defScope s_P_check_number, [], []⟩
def d_P_is_triple : He.DefD := ⟨("is_triple", none), "is_triple", "is_triple", defArgs s_P_is_triple, defBody s_P_is_triple, defScope s_P_is_triple, [], []⟩
def d_P_solves : He.DefD := ⟨("solves", none), "solves", "solves", defArgs s_P_solves, defBody s_P_solves, defScope s_P_solves, [], []⟩
def d_P_is_point : He.DefD := ⟨("is_point", none), "is_point", "is_point", defArgs s_P_is_point, defBody s_P_is_point, defScope s_P_is_point, [], []⟩
def d_P_stripped : He.DefD := ⟨("stripped", none), "stripped", "stripped", defArgs s_P_stripped, defBody s_P_stripped, defScope s_P_stripped, [], []⟩
def d_P_next_divisor : He.DefD := ⟨("next_divisor", none), "next_divisor", "next_divisor", defArgs s_P_next_divisor, defBody s_P_next_divisor, defScope s_P_next_divisor, [], []⟩
def d_P_prime_powers : He.DefD := ⟨("prime_powers", none), "prime_powers", "prime_powers", defArgs s_P_prime_powers, defBody s_P_prime_powers, defScope s_P_prime_powers, [], []⟩
def d_P_factors : He.DefD := ⟨("factors", none), "factors", "factors", defArgs s_P_factors, defBody s_P_factors, defScope s_P_factors, [], []⟩
def d_P_quarter : He.DefD := ⟨("quarter", none), "quarter", "quarter", defArgs s_P_quarter, defBody s_P_quarter, defScope s_P_quarter, [], []⟩
def d_P_eighth : He.DefD := ⟨("eighth", none), "eighth", "eighth", defArgs s_P_eighth, defBody s_P_eighth, defScope s_P_eighth, [], []⟩
def d_P_sign_at_two : He.DefD := ⟨("sign_at_two", none), "sign_at_two", "sign_at_two", defArgs s_P_sign_at_two, defBody s_P_sign_at_two, defScope s_P_sign_at_two, [], []⟩
def d_P_power_modulo : He.DefD := ⟨("power_modulo", none), "power_modulo", "power_modulo", defArgs s_P_power_modulo, defBody s_P_power_modulo, defScope s_P_power_modulo, [], []⟩
def d_P_rest_sign : He.DefD := ⟨("rest_sign", none), "rest_sign", "rest_sign", defArgs s_P_rest_sign, defBody s_P_rest_sign, defScope s_P_rest_sign, [], []⟩
def d_P_sign_at_odd : He.DefD := ⟨("sign_at_odd", none), "sign_at_odd", "sign_at_odd", defArgs s_P_sign_at_odd, defBody s_P_sign_at_odd, defScope s_P_sign_at_odd, [], []⟩
def d_P_sign : He.DefD := ⟨("sign", none), "sign", "sign", defArgs s_P_sign, defBody s_P_sign, defScope s_P_sign, [], []⟩
def d_P_signed_places : He.DefD := ⟨("signed_places", none), "signed_places", "signed_places", defArgs s_P_signed_places, defBody s_P_signed_places, defScope s_P_signed_places, [], []⟩
def d_P_product_of_primes : He.DefD := ⟨("product_of_primes", none), "product_of_primes", "product_of_primes", defArgs s_P_product_of_primes, defBody s_P_product_of_primes, defScope s_P_product_of_primes, [], []⟩
def d_P_Algebra___init__ : He.DefD := ⟨("Algebra", some "__init__"), "__init__", "Algebra.__init__", defArgs s_P_Algebra___init__, defBody s_P_Algebra___init__, defScope s_P_Algebra___init__, [], []⟩
def d_P_check_algebra : He.DefD := ⟨("check_algebra", none), "check_algebra", "check_algebra", defArgs s_P_check_algebra, defBody s_P_check_algebra, defScope s_P_check_algebra, [], []⟩
def d_P_is_passed : He.DefD := ⟨("is_passed", none), "is_passed", "is_passed", defArgs s_P_is_passed, defBody s_P_is_passed, defScope s_P_is_passed, [], []⟩
def d_P_is_passed_entries : He.DefD := ⟨("is_passed_entries", none), "is_passed_entries", "is_passed_entries", defArgs s_P_is_passed_entries, defBody s_P_is_passed_entries, defScope s_P_is_passed_entries, [], []⟩
def d_P_lowest_entries : He.DefD := ⟨("lowest_entries", none), "lowest_entries", "lowest_entries", defArgs s_P_lowest_entries, defBody s_P_lowest_entries, defScope s_P_lowest_entries, [], []⟩
def d_P_lowest_terms : He.DefD := ⟨("lowest_terms", none), "lowest_terms", "lowest_terms", defArgs s_P_lowest_terms, defBody s_P_lowest_terms, defScope s_P_lowest_terms, [], []⟩
def d_P_sign_of : He.DefD := ⟨("sign_of", none), "sign_of", "sign_of", defArgs s_P_sign_of, defBody s_P_sign_of, defScope s_P_sign_of, [], []⟩
def d_P_Ratio___init__ : He.DefD := ⟨("Ratio", some "__init__"), "__init__", "Ratio.__init__", defArgs s_P_Ratio___init__, defBody s_P_Ratio___init__, defScope s_P_Ratio___init__, [.int 1], []⟩
def d_P_made_ratio : He.DefD := ⟨("made_ratio", none), "made_ratio", "made_ratio", defArgs s_P_made_ratio, defBody s_P_made_ratio, defScope s_P_made_ratio, [], []⟩
def d_P_norm_of : He.DefD := ⟨("norm_of", none), "norm_of", "norm_of", defArgs s_P_norm_of, defBody s_P_norm_of, defScope s_P_norm_of, [], []⟩
def d_P_Four___init__ : He.DefD := ⟨("Four", some "__init__"), "__init__", "Four.__init__", defArgs s_P_Four___init__, defBody s_P_Four___init__, defScope s_P_Four___init__, [.int 1], []⟩
def d_P_Ratio___eq__ : He.DefD := ⟨("Ratio", some "__eq__"), "__eq__", "Ratio.__eq__", defArgs s_P_Ratio___eq__, defBody s_P_Ratio___eq__, defScope s_P_Ratio___eq__, [], []⟩
def d_P_Four___bool__ : He.DefD := ⟨("Four", some "__bool__"), "__bool__", "Four.__bool__", defArgs s_P_Four___bool__, defBody s_P_Four___bool__, defScope s_P_Four___bool__, [], []⟩
def d_L_right : He.DefD := ⟨("_law_right", none), "_law_right", "_law_right", defArgs s_L_right, defBody s_L_right, defScope s_L_right, [], []⟩
def d_L_law : He.DefD := ⟨("law", none), "law", "law", defArgs s_L_law, defBody s_L_law, defScope s_L_law, [], []⟩
def fn : List He.DefD := [d_L_vial, d_L_drop, d_L_any, d_L_number, d_L_world, d_L_near, d_L_is_own, d_P_is_integer, d_P_check_number, d_P_is_triple, d_P_solves, d_P_is_point, d_P_stripped, d_P_next_divisor, d_P_prime_powers, d_P_factors, d_P_quarter, d_P_eighth, d_P_sign_at_two, d_P_power_modulo, d_P_rest_sign, d_P_sign_at_odd, d_P_sign, d_P_signed_places, d_P_product_of_primes, d_P_Algebra___init__, d_P_check_algebra, d_P_is_passed, d_P_is_passed_entries, d_P_lowest_entries, d_P_lowest_terms, d_P_sign_of, d_P_Ratio___init__, d_P_made_ratio, d_P_norm_of, d_P_Four___init__, d_P_Ratio___eq__, d_P_Four___bool__, d_L_right, d_L_law]
def fa : List He.Fa := ([.glo "_law_vial", .glo "_law_drop", .glo "_law_any", .glo "_law_number", .glo "_law_world", .glo "_law_near", .glo "_law_is_own", .glo "is_integer", .glo "check_number", .glo "is_triple", .glo "solves", .glo "is_point", .glo "stripped", .glo "next_divisor", .glo "prime_powers", .glo "factors", .glo "quarter", .glo "eighth", .glo "sign_at_two", .glo "power_modulo", .glo "rest_sign", .glo "sign_at_odd", .glo "sign", .glo "signed_places", .glo "product_of_primes", .glo "check_algebra", .glo "is_passed", .glo "is_passed_entries", .glo "lowest_entries", .glo "lowest_terms"] : List He.Fa) ++ ([.glo "sign_of", .glo "made_ratio", .glo "norm_of", .glo "_law_right", .glo "law", .free "isinstance", .free "int", .free "bool", .free "abs", .free "tuple", .free "all", .free "len", .free "sorted", .free "set", .free "any", .free "str", .free "zip", .free "max", .free "list", .free "range", .free "repr", .free "min", .int "TOO_LONG" 1000000000000000000000000000000000000000000000000000000000000, .int "MAX_NUMBER" 1000000000, .int "MAX_POWER" 1000, .glo "Algebra", .cls "Algebra", .noat "Algebra" "places", .noat "Algebra" "a", .noat "Algebra" "b"] : List He.Fa) ++ ([.noat "Algebra" "discriminant", .noat "Algebra" "is_tables", .noat "Algebra" "is_definite", .glo "Ratio", .cls "Ratio", .noat "Ratio" "top", .noat "Ratio" "bottom", .noat "Ratio" "sign", .mkr "Ratio", .glo "Four", .cls "Four", .noat "Four" "algebra", .noat "Four" "entries", .noat "Four" "bottom", .noat "Four" "trace", .noat "Four" "norm", .noat "Four" "is_ratio", .mkr "Algebra", .mkr "Four", .meth "Ratio" "__eq__", .meth "Four" "__bool__"] : List He.Fa)
def ex (K : PySem.W.Frag) : Bool := gblB K "gcd" "math.gcd" && (ownB K "Algebra" && (ownB K "Ratio" && (ownB K "Four" && (true))))
abbrev R : PySem.W.OpenRow := PySem.W.OpenLaw.row PySem.Challenge.rw_signfours_k16_whole_points_judged
abbrev hk : PySem.W.Hook := hookO 4 fa fn ex
def ob (s : PySem.W.SharedT) : AlO := obsO 4 fa fn ex (HandSHeadRun.getT s)
theorem ob_eq (s : PySem.W.SharedT) : ob s = hk.obs s.abs := obsO_eq (HandSHeadRun.getT_eq s)
def loose : List Str := (["_wall", "TOO_LONG", "is_integer", "is_passed", "is_triple", "FourError", "InvalidRatio", "InvalidAlgebra", "InvalidFour", "InvalidOperation", "ParseError", "InvalidNumber", "Refused", "MAX_NUMBER", "factors", "prime_powers", "check_number", "next_divisor", "stripped", "rest_sign", "power_modulo", "signed_places", "sign", "sign_at_two", "quarter", "eighth", "sign_at_odd", "is_point", "solves", "Ratio"] : List Str) ++ (["made_ratio", "lowest_terms", "sign_of", "is_fraction", "check_ratio", "terms_of", "is_digits", "MAX_POWER", "LETTERS", "Algebra", "Four", "made_four", "check_algebra", "check_operands", "is_passed_entries", "product_of_primes", "lowest_entries", "mate_entries", "norm_of", "product_entries", "written_terms", "written_term", "_law_vial", "_law_drop", "_law_any", "_law_number", "_law_is_own", "_law_world", "_law_near", "_law_right"] : List Str)
set_option maxHeartbeats 0 in
theorem run (w : World) : HandSHeadRun.RunEqI R (PySem.W.view R.prog [0, 69]) hk ob 20000 loose w := by
  unfold HandSHeadRun.RunEqI
  kernel_rfl
end Sf

namespace Sf
open PySem PySem.Spec PyProof.Rows L2
abbrev FnD (K : PySem.W.Frag) (x qual : Str) (st : Stmt) (f : Addr) (fd : FuncData) : Prop := FunD K x qual (defArgs st) (defBody st) (defScope st) [] [] f fd
/-- a def with defaults -/
abbrev FnDD (K : PySem.W.Frag) (x qual : Str) (st : Stmt) (dvs : List V) (f : Addr) (fd : FuncData) : Prop := FunD K x qual (defArgs st) (defBody st) (defScope st) dvs [] f fd
theorem lt3000 {a : Int} (h0 : 0 ≤ a) (h : a < 10 ^ 400) : a.natAbs < 2 ^ 3000 := by
  have h1 : (10 : Int) ^ 400 < 2 ^ 3000 := by decide +kernel
  have h2 : ((a.natAbs : Nat) : Int) < ((2 ^ 3000 : Nat) : Int) := by
    rw [Int.natAbs_of_nonneg h0]
    exact Int.lt_trans h h1
  exact Int.ofNat_lt.mp h2
theorem lt3000s {a : Int} (h0 : -1000000000000000000000000000000 < a) (h : a < 1000000000000000000000000000000) : a.natAbs < 2 ^ 3000 := Nat.lt_trans (by omega : a.natAbs < 1000000000000000000000000000000) (by decide +kernel)
theorem inV_two (x a b : Int) : inV (.int x) [.int a, .int b] = decide (x = a ∨ x = b) := by
  show ((a == x) || ((b == x) || false)) = _
  rw [Bool.or_false, Bool.eq_iff_iff]
  simp only [Bool.or_eq_true, beq_iff_eq, decide_eq_true_eq]
  constructor
  · rintro (h | h)
    · exact .inl h.symm
    · exact .inr h.symm
  · rintro (h | h)
    · exact .inl h.symm
    · exact .inr h.symm
theorem inV_ints (x : Int) (l : List Int) : inV (.int x) (l.map V.int) = decide (x ∈ l) := by
  unfold inV
  rw [List.any_map, Bool.eq_iff_iff, List.any_eq_true]
  simp only [decide_eq_true_eq]
  constructor
  · rintro ⟨y, hy, e⟩
    have e2 : (y == x) = true := e
    rw [← beq_iff_eq.mp e2]
    exact hy
  · intro h
    refine ⟨x, h, ?_⟩
    show (x == x) = true
    exact beq_self_eq_true x
theorem all_flat (l : List Int) : (l.map V.int).all flatV = true := by
  rw [List.all_map, List.all_eq_true]
  intro x _
  rfl
end Sf

namespace Sf
open PySem PySem.Spec PyProof.Rows L2
section
variable {P : Program} {w : World} {K : PySem.W.Frag} {mg : Str → Option Value} {base : Heap} {f : Addr} {fd : FuncData}
def spNext : Sp := fun vs H Q _ => ∃ d : Int, vs = [.int d] ∧ Q (.int (if d = 2 then 3 else d + 2)) H
theorem ok_next (F : FnD K "next_divisor" "next_divisor" s_P_next_divisor f fd) : FnOk P w K mg base CX0 1 f fd ["divisor"] spNext := by
  refine F.ok sc_P_next_divisor (fun vs H Q E h => ?_) (fun cdv A outer s H vs Q E hr h => ?_)
  · obtain ⟨d, rfl, _⟩ := h; rfl
  · obtain ⟨d, rfl, q⟩ := h
    refine ⟨_, PSs.nox (pss_one (ps_ret (pe_ifExp (pt_cmp (pc_eqI (pv 0) pe_int)) pe_int (pe_op op_add (pv 0) pe_int)))), ?_⟩
    refine ⟨_, rfl, _, _, rfl, rfl, _, rfl, ifd (fun h => ?_) (fun h => ?_)⟩
    · rw [if_pos h] at q
      exact q
    · rw [if_neg h] at q
      exact ⟨_, rfl, _, _, rfl, rfl, q⟩
end
end Sf

namespace Sf
open PySem PySem.Spec PyProof.Rows L2
section
variable {P : Program} {w : World} {K : PySem.W.Frag} {mg : Str → Option Value} {base : Heap} {f : Addr} {fd : FuncData}
/-- what is left of a number other than 0, and how often p was taken out -/
def Strip (n p : Int) (m : Nat) (u : Int) : Prop := n = p ^ m * u ∧ u % p ≠ 0
def spStripped : Sp := fun vs H Q _ => ∃ n p : Int, vs = [.int n, .int p] ∧ n ≠ 0 ∧ 2 ≤ p ∧ p.natAbs < 2 ^ 3000 ∧
  ∀ (m : Nat) (u : Int) (a : Addr), Strip n p m u → H a = none → Q (.ref a) (upd H a (.tup [.int m, .int u]))
theorem strip_less {u p : Int} (hu : u ≠ 0) (hp : 2 ≤ p) (h : u % p = 0) : (u / p).natAbs < u.natAbs ∧ u / p ≠ 0 ∧ u = p * (u / p) := by
  have e : u = p * (u / p) := by
    have := Int.emod_add_mul_ediv u p
    omega
  have h2 : u / p ≠ 0 := fun z => by
    rw [z] at e
    omega
  refine ⟨?_, h2, e⟩
  have e2 : u.natAbs = p.natAbs * (u / p).natAbs := by
    conv => lhs; rw [e]
    exact Int.natAbs_mul _ _
  have h3 : 0 < (u / p).natAbs := by omega
  have h4 : 2 ≤ p.natAbs := by omega
  have h5 : 2 * (u / p).natAbs ≤ p.natAbs * (u / p).natAbs := Nat.mul_le_mul_right _ h4
  omega
theorem ok_stripped (F : FnD K "stripped" "stripped" s_P_stripped f fd) : FnOk P w K mg base CX0 1 f fd ["number", "prime"] spStripped := by
  refine F.ok sc_P_stripped (fun vs H Q E h => ?_) (fun cdv A outer s H vs Q E hr h => ?_)
  · obtain ⟨n, p, rfl, _⟩ := h; rfl
  · obtain ⟨n, p, rfl, hn, hp, hb, q⟩ := h
    refine ⟨_, PSs.nox (pss_cons (ps_set (i := 2) sc_P_stripped.nd rfl (Or.inl rfl) pe_int)
      (pss_cons (ps_while PassesOwn.never (pt_cmp (pc_eqI (pe_op op_mod (pv 0) (pv 1)) pe_int)) (pss_cons (ps_set (i := 2) sc_P_stripped.nd rfl (Or.inl rfl) (pe_op op_add (pv 2) pe_int))
      (pss_one (ps_set (i := 0) sc_P_stripped.nd rfl (Or.inl rfl) (pe_op op_fdivW (pv 0) (pv 1))))))
      (pss_one (ps_ret (pe_tup (pa_cons (pv 2) (pa_cons (pv 0) pa_nil))))))), ?_⟩
    refine ⟨fun c σ H' => H' = H ∧ ∃ (m : Nat) (u : Int), σ = [some (.int u), some (.int p), some (.int m)] ∧ n = p ^ m * u ∧ u ≠ 0 ∧ c = u.natAbs, ⟨_, rfl, 0, n, rfl, by simp, hn, rfl⟩, ?_⟩
    rintro c σ _ ⟨rfl, m, u, rfl, e, hu, rfl⟩
    refine ⟨_, rfl, _, rfl, _, _, rfl, rfl, (by omega), _, _, rfl, rfl, _, rfl, ifd (fun h => ⟨_, fun _ _ z => z, ?_⟩) (fun h => ?_)⟩
    · have hl := strip_less hu hp h
      refine ⟨_, rfl, _, _, rfl, rfl, _, rfl, _, rfl, _, _, rfl, rfl, CDivW.of (by omega) hb, ?_⟩
      refine ⟨_, hl.1, rfl, m + 1, u / p, rfl, ?_, hl.2.1, rfl⟩
      rw [e, Int.pow_succ, Int.mul_assoc, ← hl.2.2]
    · refine ⟨_, rfl, _, rfl, (by show 2 ≤ sizeLine; decide), fun a ha => ?_⟩
      exact q m u a ⟨e, h⟩ ha
end
end Sf

namespace Sf
open PySem PySem.Spec PyProof.Rows L2
section
variable {P : Program} {w : World} {K : PySem.W.Frag} {mg : Str → Option Value} {base : Heap} {f : Addr} {fd : FuncData}
theorem pow_mod (a m : Int) (k : Nat) : (a % m) ^ k % m = a ^ k % m := by
  induction k with
  | zero => rw [Int.pow_zero, Int.pow_zero]
  | succ k ih => rw [Int.pow_succ, Int.pow_succ, Int.mul_emod, ih, Int.emod_emod_of_dvd _ (Int.dvd_refl _), ← Int.mul_emod]
/-- a power, reduced -/
def spPowMod : Sp := fun vs H Q _ => ∃ n k m : Int, vs = [.int n, .int k, .int m] ∧ 0 ≤ k ∧ 1 ≤ m ∧ m.natAbs < 2 ^ 1000 ∧ Q (.int (n ^ k.toNat % m)) H
theorem mod_lt3000 {a m : Int} (h1 : 1 ≤ m) (hb : m.natAbs < 2 ^ 1000) : (a % m).natAbs < 2 ^ 3000 := by
  have h2 := Int.emod_nonneg a (by omega : m ≠ 0)
  have h3 := Int.emod_lt_of_pos a (by omega : 0 < m)
  have h4 : (a % m).natAbs < 2 ^ 1000 := by omega
  exact Nat.lt_trans h4 (by decide +kernel)
theorem pow_half (a : Int) (k : Int) (hk : 0 < k) : a ^ k.toNat = (a * a) ^ (k / 2).toNat * a ^ (k % 2).toNat := by
  have e : k.toNat = (k / 2).toNat + (k / 2).toNat + (k % 2).toNat := by omega
  rw [e, Int.pow_add, Int.pow_add, Int.mul_pow]
theorem ok_powmod (F : FnD K "power_modulo" "power_modulo" s_P_power_modulo f fd) : FnOk P w K mg base CX0 1 f fd ["number", "many", "modulus"] spPowMod := by
  refine F.ok sc_P_power_modulo (fun vs H Q E h => ?_) (fun cdv A outer s H vs Q E hr h => ?_)
  · obtain ⟨n, k, m, rfl, _⟩ := h; rfl
  · obtain ⟨n, k, m, rfl, hk, hm, hb, q⟩ := h
    refine ⟨_, PSs.nox (pss_cons (ps_set (i := 3) sc_P_power_modulo.nd rfl (Or.inl rfl) (pe_op op_mod pe_int (pv 2)))
      (pss_cons (ps_set (i := 4) sc_P_power_modulo.nd rfl (Or.inl rfl) (pe_op op_mod (pv 0) (pv 2)))
      (pss_cons (ps_while PassesOwn.never (pt_cmp (pc_gt (pv 1) pe_int)) (pss_cons (ps_if (pt_cmp (pc_eqI (pe_op op_mod (pv 1) pe_int) pe_int)) (pss_one (ps_set (i := 3) sc_P_power_modulo.nd rfl (Or.inl rfl) (pe_op op_mod (pe_op op_mulW (pv 3) (pv 4)) (pv 2)))) pss_nil)
      (pss_cons (ps_set (i := 4) sc_P_power_modulo.nd rfl (Or.inl rfl) (pe_op op_mod (pe_op op_mulW (pv 4) (pv 4)) (pv 2)))
      (pss_one (ps_set (i := 1) sc_P_power_modulo.nd rfl (Or.inl rfl) (pe_op op_fdivW (pv 1) pe_int))))))
      (pss_one (ps_ret (pv 3)))))), ?_⟩
    have hm0 : (0 : Int) < m := by omega
    refine ⟨_, rfl, _, _, rfl, rfl, hm0, _, rfl, _, rfl, _, _, rfl, rfl, hm0, ?_⟩
    refine ⟨fun c σ H' => H' = H ∧ ∃ k' made sq : Int, σ = [some (.int n), some (.int k'), some (.int m), some (.int made), some (.int sq)] ∧ 0 ≤ k' ∧ (made * sq ^ k'.toNat) % m = n ^ k.toNat % m ∧ made % m = made ∧ made.natAbs < 2 ^ 3000 ∧ sq.natAbs < 2 ^ 3000 ∧ c = k'.toNat,
      ⟨_, rfl, k, 1 % m, n % m, rfl, hk, ?_, Int.emod_emod_of_dvd _ (Int.dvd_refl _), mod_lt3000 hm hb, mod_lt3000 hm hb, rfl⟩, ?_⟩
    · rw [Int.mul_emod, Int.emod_emod_of_dvd _ (Int.dvd_refl _), ← Int.mul_emod, Int.one_mul]
      exact pow_mod _ _ _
    rintro c σ _ ⟨rfl, k', made, sq, rfl, hk', e, em, b1, b2, rfl⟩
    refine ⟨_, rfl, _, _, rfl, rfl, _, rfl, ifd (fun h => ⟨_, fun _ _ z => z, ?_⟩) (fun h => ?_)⟩
    · have hh := pow_half sq k' h
      have hsq : ((sq * sq) ^ (k' / 2).toNat) % m = ((sq * sq % m) ^ (k' / 2).toNat) % m := (pow_mod _ _ _).symm
      refine ⟨_, rfl, _, _, rfl, rfl, (by show (0 : Int) < 2; decide), _, _, rfl, rfl, _, rfl, ifd (fun h2 => ?_) (fun h2 => ?_)⟩
      · refine ⟨_, rfl, _, rfl, _, _, rfl, rfl, CMulW.of b1 b2, _, rfl, _, _, rfl, rfl, hm0, ?_⟩
        refine ⟨_, rfl, _, rfl, _, _, rfl, rfl, CMulW.of b2 b2, _, rfl, _, _, rfl, rfl, hm0, ?_⟩
        refine ⟨_, rfl, _, _, rfl, rfl, CDivW.of (by decide) (by decide +kernel), ?_⟩
        refine ⟨_, ?_, rfl, k' / 2, _, _, rfl, by omega, ?_, Int.emod_emod_of_dvd _ (Int.dvd_refl _), mod_lt3000 hm hb, mod_lt3000 hm hb, rfl⟩
        · omega
        · rw [← e, hh, h2]
          show made * sq % m * (sq * sq % m) ^ (k' / 2).toNat % m = made * ((sq * sq) ^ (k' / 2).toNat * sq ^ 1) % m
          rw [Int.mul_emod, ← hsq, Int.emod_emod_of_dvd _ (Int.dvd_refl _), ← Int.mul_emod, Int.pow_one]
          congr 1
          rw [Int.mul_assoc, Int.mul_comm sq]
      · refine ⟨_, rfl, _, rfl, _, _, rfl, rfl, CMulW.of b2 b2, _, rfl, _, _, rfl, rfl, hm0, ?_⟩
        refine ⟨_, rfl, _, _, rfl, rfl, CDivW.of (by decide) (by decide +kernel), ?_⟩
        refine ⟨_, ?_, rfl, k' / 2, _, _, rfl, by omega, ?_, em, b1, mod_lt3000 hm hb, rfl⟩
        · omega
        · have h3 : k' % 2 = 0 := by omega
          rw [← e, hh, h3]
          show made * (sq * sq % m) ^ (k' / 2).toNat % m = made * ((sq * sq) ^ (k' / 2).toNat * sq ^ 0) % m
          rw [Int.mul_emod, ← hsq, ← Int.mul_emod, Int.pow_zero, Int.mul_one]
    · have h3 : k' = 0 := by omega
      subst h3
      have e2 : made = n ^ k.toNat % m := by
        rw [← e]
        show made = made * sq ^ 0 % m
        rw [Int.pow_zero, Int.mul_one, em]
      refine ⟨_, rfl, ?_⟩
      rw [e2]
      exact q
end
end Sf

namespace Sf
/-! primes by trial -/
def PrP (n : Int) : Prop := 2 ≤ n ∧ ∀ k : Int, 2 ≤ k → k < n → n % k ≠ 0
theorem prp_of_trial {n d : Int} (hn : 2 ≤ n) (hd : 2 ≤ d) (h : ∀ k : Int, 2 ≤ k → k < d → n % k ≠ 0) (hl : n < d * d) : PrP n := by
  refine ⟨hn, fun k h2 hk hz => ?_⟩
  by_cases hkd : k < d
  · exact h k h2 hkd hz
  · have e : n = k * (n / k) := by
      have := Int.emod_add_mul_ediv n k
      omega
    have hm0 : 0 < n / k := by
      rcases Int.lt_or_le 0 (n / k) with z | z
      · exact z
      · have : k * (n / k) ≤ 0 := Int.mul_nonpos_of_nonneg_of_nonpos (by omega) z
        omega
    have hm1 : n / k ≠ 1 := fun z => by
      rw [z] at e
      omega
    have h3 : d * (n / k) ≤ k * (n / k) := Int.mul_le_mul_of_nonneg_right (by omega) (by omega)
    have h4 : d * (n / k) < d * d := by omega
    have h5 : n / k < d := Int.lt_of_mul_lt_mul_left h4 (by omega)
    refine h (n / k) (by omega) h5 ?_
    rw [e]
    exact Int.emod_eq_zero_of_dvd ⟨k, by rw [Int.mul_ediv_cancel_left _ (by omega : k ≠ 0)]; exact Int.mul_comm _ _⟩
/-- no divisor below d; d is 2 or odd -/
def NoDiv (n d : Int) : Prop := 2 ≤ d ∧ (d = 2 ∨ d % 2 = 1) ∧ ∀ k : Int, 2 ≤ k → k < d → n % k ≠ 0
theorem nodiv2 (n : Int) : NoDiv n 2 := ⟨by omega, .inl rfl, fun k h1 h2 => by omega⟩
theorem mod_of_dvd {n a b : Int} (h : n % b = 0) (hb : b % a = 0) : n % a = 0 := by
  have h1 : b ∣ n := Int.dvd_of_emod_eq_zero h
  have h2 : a ∣ b := Int.dvd_of_emod_eq_zero hb
  exact Int.emod_eq_zero_of_dvd (Int.dvd_trans h2 h1)
theorem nodiv_next {n d : Int} (h : NoDiv n d) (hd : n % d ≠ 0) : NoDiv n (if d = 2 then 3 else d + 2) := by
  obtain ⟨h1, h2, h3⟩ := h
  by_cases e : d = 2
  · rw [if_pos e]
    refine ⟨by omega, .inr rfl, fun k a b => ?_⟩
    have : k = d := by omega
    rw [this]
    exact hd
  · rw [if_neg e]
    refine ⟨by omega, .inr (by omega), fun k a b => ?_⟩
    by_cases c : k < d
    · exact h3 k a c
    · by_cases c2 : k = d
      · rw [c2]
        exact hd
      · intro z
        exact h3 2 (by omega) (by omega) (mod_of_dvd z (by omega))
theorem nodiv_prime {n d : Int} (h : NoDiv n d) (hd : n % d = 0) : PrP d := by
  refine ⟨h.1, fun k a b z => ?_⟩
  exact h.2.2 k a b (mod_of_dvd hd z)
theorem nodiv_of {n u d : Int} (h : NoDiv n d) (hu : n % u = 0) : NoDiv u d := ⟨h.1, h.2.1, fun k a b z => h.2.2 k a b (mod_of_dvd hu z)⟩
theorem nodiv_lt {n d : Int} (h : NoDiv n d) (hn : 2 ≤ n) : d ≤ n := by
  rcases Int.lt_or_le n d with z | z
  · exact absurd Int.emod_self (h.2.2 n hn z)
  · exact z
/-! factors -/
def prodF : List (Int × Nat) → Int
  | [] => 1
  | q :: l => q.1 ^ q.2 * prodF l
theorem prodF_append : ∀ l m : List (Int × Nat), prodF (l ++ m) = prodF l * prodF m
  | [], m => by
    show prodF m = 1 * prodF m
    rw [Int.one_mul]
  | q :: l, m => by
    show q.1 ^ q.2 * prodF (l ++ m) = q.1 ^ q.2 * prodF l * prodF m
    rw [prodF_append l m, Int.mul_assoc]
def Sorted (l : List (Int × Nat)) : Prop := l.Pairwise fun a b => a.1 < b.1
def Primes (l : List (Int × Nat)) : Prop := ∀ q ∈ l, PrP q.1 ∧ 1 ≤ q.2
def FactOf (n : Int) (l : List (Int × Nat)) : Prop := prodF l = n ∧ Sorted l ∧ Primes l
theorem pow_pos_int {p : Int} (h : 0 < p) (e : Nat) : 0 < p ^ e := Int.pow_pos h
theorem pow_ge {p : Int} (h : 2 ≤ p) : ∀ {e : Nat}, 1 ≤ e → 2 ≤ p ^ e
  | 0, h0 => by omega
  | e + 1, _ => by
    rw [Int.pow_succ]
    have h1 : 0 < p ^ e := pow_pos_int (by omega) e
    have h2 : 1 * 2 ≤ p ^ e * p := Int.mul_le_mul (by omega) h (by omega) (by omega)
    omega
theorem prodF_len : ∀ {l : List (Int × Nat)}, Primes l → (2 : Int) ^ l.length ≤ prodF l
  | [], _ => Int.le_refl _
  | q :: l, h => by
    have ih := prodF_len (l := l) fun r hr => h r (List.mem_cons_of_mem _ hr)
    obtain ⟨hp, he⟩ := h q List.mem_cons_self
    have h1 : 2 ≤ q.1 ^ q.2 := pow_ge hp.1 he
    show (2 : Int) ^ (l.length + 1) ≤ q.1 ^ q.2 * prodF l
    rw [Int.pow_succ, Int.mul_comm]
    have h0 : (0 : Int) < 2 ^ l.length := pow_pos_int (by omega) _
    exact Int.mul_le_mul h1 ih (by omega) (by omega)
theorem len_of_prod {l : List (Int × Nat)} (h : Primes l) (hb : prodF l ≤ 1000000000) : l.length < 30 := by
  have h1 := prodF_len h
  rcases Nat.lt_or_ge l.length 30 with z | z
  · exact z
  · have e : l.length = 30 + (l.length - 30) := by omega
    have h3 : (2 : Int) ^ 30 = 1073741824 := by decide
    have h4 : (0 : Int) < 2 ^ (l.length - 30) := pow_pos_int (by omega) _
    rw [e, Int.pow_add, h3] at h1
    omega
end Sf

namespace Sf
open PySem PySem.Spec PyProof.Rows L2
/-- what the module's names hold -/
structure Glob (mg : Str → Option Value) : Prop where
  m_isinstance : mg "isinstance" = none
  m_int : mg "int" = none
  m_bool : mg "bool" = none
  m_abs : mg "abs" = none
  m_tuple : mg "tuple" = none
  m_all : mg "all" = none
  m_len : mg "len" = none
  m_sorted : mg "sorted" = none
  m_set : mg "set" = none
  m_any : mg "any" = none
  m_str : mg "str" = none
  m_zip : mg "zip" = none
  m_max : mg "max" = none
  m_list : mg "list" = none
  m_range : mg "range" = none
  m_repr : mg "repr" = none
  m_min : mg "min" = none
  m_gcd : mg "gcd" = some (.builtin "math.gcd")
  m_TOO_LONG : ∃ t, mg "TOO_LONG" = some (.int 1000000000000000000000000000000000000000000000000000000000000 t)
  m_MAX_NUMBER : ∃ t, mg "MAX_NUMBER" = some (.int 1000000000 t)
  m_MAX_POWER : ∃ t, mg "MAX_POWER" = some (.int 1000 t)
/-- what isinstance(x, int) and not isinstance(x, bool) comes to -/
def IntB (K : PySem.W.Frag) (H : Hp) (x : V) (b : Bool) : Prop := ∃ (t : String) (bi bb : Bool), TyX K H x (.type t) ∧ kitB t "int" = some bi ∧ kitB t "bool" = some bb ∧ b = (bi && !bb)
theorem IntB.int {K : PySem.W.Frag} {H : Hp} (i : Int) : IntB K H (.int i) true := ⟨"int", true, false, .base (.int i), by decide +kernel, by decide +kernel, rfl⟩
theorem IntB.bl {K : PySem.W.Frag} {H : Hp} (i : Bool) : IntB K H (.bl i) false := ⟨"bool", true, true, .base (.bl i), by decide +kernel, by decide +kernel, rfl⟩
theorem IntB.non {K : PySem.W.Frag} {H : Hp} : IntB K H .non false := ⟨"NoneType", false, false, .base .non, by decide +kernel, by decide +kernel, rfl⟩
theorem IntB.str {K : PySem.W.Frag} {H : Hp} (x : Str) : IntB K H (.str x) false := ⟨"str", false, false, .base (.str x), by decide +kernel, by decide +kernel, rfl⟩
theorem IntB.lst {K : PySem.W.Frag} {H : Hp} {a : Addr} {xs : List V} (h : H a = some (.lst xs)) : IntB K H (.ref a) false := ⟨"list", false, false, .base (.lst h), by decide +kernel, by decide +kernel, rfl⟩
theorem IntB.tup {K : PySem.W.Frag} {H : Hp} {a : Addr} {xs : List V} (h : H a = some (.tup xs)) : IntB K H (.ref a) false := ⟨"tuple", false, false, .base (.tup h), by decide +kernel, by decide +kernel, rfl⟩
theorem IntB.dK {K : PySem.W.Frag} {H : Hp} {a : Addr} {xs : List (Key × V)} (h : H a = some (.dK xs)) : IntB K H (.ref a) false := ⟨"dict", false, false, .base (.dK h), by decide +kernel, by decide +kernel, rfl⟩
end Sf

namespace Sf
open PySem PySem.Spec PyProof.Rows L2
section
variable {P : Program} {w : World} {K : PySem.W.Frag} {mg : Str → Option Value} {base : Heap} {f : Addr} {fd : FuncData}
def spIsInt (K : PySem.W.Frag) : Sp := fun vs H Q _ => ∃ (x : V) (b : Bool), vs = [x] ∧ IntB K H x b ∧ Q (.bl b) H
theorem ok_is_integer (F : FnD K "is_integer" "is_integer" s_P_is_integer f fd) (T : Glob mg) : FnOk P w K mg base CX0 1 f fd ["value"] (spIsInt K) := by
  refine F.ok sc_P_is_integer (fun vs H Q E h => ?_) (fun cdv A outer s H vs Q E hr h => ?_)
  · obtain ⟨x, b, rfl, _⟩ := h; rfl
  · obtain ⟨x, b, rfl, ⟨t, bi, bb, ty, h1, h2, rfl⟩, q⟩ := h
    refine ⟨_, PSs.nox (pss_one (ps_ret (pe_and (pe_callB call_isi (by rfl) T.m_isinstance (by decide +kernel) (pa_cons (pv 0) (pa_cons (pe_bltn (v := .ty "int") (u := .type "int") (by rfl) T.m_int (by decide +kernel) rfl) pa_nil))) (pe_one (pe_not (pe_callB call_isi (by rfl) T.m_isinstance (by decide +kernel) (pa_cons (pv 0) (pa_cons (pe_bltn (v := .ty "bool") (u := .type "bool") (by rfl) T.m_bool (by decide +kernel) rfl) pa_nil)))))))), ?_⟩
    refine ⟨_, rfl, _, _, _, _, _, rfl, .ty "int", ty, kit_ty h1, _, rfl, ifb (fun e => ?_) (fun e => ?_)⟩
    · refine ⟨_, rfl, _, _, _, _, _, rfl, .ty "bool", ty, kit_ty h2, _, rfl, ?_⟩
      rw [e] at q
      exact q
    · rw [e] at q
      exact q
end
end Sf

namespace Sf
open PySem PySem.Spec PyProof.Rows L2
section
variable {P : Program} {w : World} {K : PySem.W.Frag} {mg : Str → Option Value} {base : Heap} {f : Addr} {fd : FuncData}
def spCheckNumber : Sp := fun vs H Q _ => ∃ n : Int, vs = [.int n] ∧ n ≠ 0 ∧ -1000000000 ≤ n ∧ n ≤ 1000000000 ∧ Q .non H
theorem ok_check_number (F : FnD K "check_number" "check_number" s_P_check_number f fd) (T : Glob mg) (C_P_is_integer : Cal P w K mg base 1 "is_integer" ["value"] (spIsInt K)) : FnOk P w K mg base CX0 2 f fd ["value"] spCheckNumber := by
  refine F.ok sc_P_check_number (fun vs H Q E h => ?_) (fun cdv A outer s H vs Q E hr h => ?_)
  · obtain ⟨n, rfl, _⟩ := h; rfl
  · obtain ⟨n, rfl, h0, h1, h2, q⟩ := h
    obtain ⟨tM, hc_MAX_NUMBER⟩ := T.m_MAX_NUMBER
    refine ⟨_, PSs.nox (pss_one (ps_if (PW.pt (pw_or (pt_not (pt_val (pe_cal C_P_is_integer (hr.mono (by decide)) (pa_cons (pv 0) pa_nil)))) (pw_or (pt_cmp (pc_eqI (pv 0) pe_int)) (pw_or1 (pt_cmp (pc_gt (pe_callB call_abs (by rfl) T.m_abs (by decide +kernel) (pa_cons (pv 0) pa_nil)) (pe_glob (v := .int 1000000000) rfl hc_MAX_NUMBER ⟨_, rfl⟩))))))) (pss_one ps_never) pss_nil)), ?_⟩
    refine ⟨_, rfl, .int n, true, rfl, .int n, _, rfl, iteF ?_⟩
    refine ⟨_, rfl, _, _, rfl, rfl, _, rfl, ifd (fun e => absurd e h0) (fun _ => ?_)⟩
    refine ⟨_, rfl, n, rfl, _, _, rfl, rfl, _, rfl, ifd (fun e => ?_) (fun e => ?_)⟩
    · exfalso
      split at e <;> omega
    · exact q
end
end Sf

namespace Sf
open PySem PySem.Spec PyProof.Rows L2
section
variable {P : Program} {w : World} {K : PySem.W.Frag} {mg : Str → Option Value} {base : Heap} {f : Addr} {fd : FuncData}
/-- the residue sign by a power -/
def restSign (n p : Int) : Int := if n % p = 0 then 0 else if p = 2 then (if n % 8 = 1 ∨ n % 8 = 7 then 1 else -1) else if n ^ ((p - 1) / 2).toNat % p = 1 then 1 else -1
def spRestSign : Sp := fun vs H Q _ => ∃ n p : Int, vs = [.int n, .int p] ∧ 2 ≤ p ∧ p.natAbs < 2 ^ 1000 ∧ ∀ H', Same H H' → Q (.int (restSign n p)) H'
theorem ok_rest_sign (F : FnD K "rest_sign" "rest_sign" s_P_rest_sign f fd) (C_P_power_modulo : Cal P w K mg base 1 "power_modulo" ["number", "many", "modulus"] spPowMod) : FnOk P w K mg base CX0 2 f fd ["number", "prime"] spRestSign := by
  refine F.ok sc_P_rest_sign (fun vs H Q E h => ?_) (fun cdv A outer s H vs Q E hr h => ?_)
  · obtain ⟨n, p, rfl, _⟩ := h; rfl
  · obtain ⟨n, p, rfl, hp, hb, q⟩ := h
    refine ⟨_, PSs.nox (pss_cons (ps_if (pt_cmp (pc_eqI (pe_op op_mod (pv 0) (pv 1)) pe_int)) (pss_one (ps_ret pe_int)) pss_nil)
      (pss_cons (ps_if (pt_cmp (pc_eqI (pv 1) pe_int)) (pss_one (ps_ret (pe_ifExp (pt_cmpR op_in_seq (pe_op op_mod (pv 0) pe_int) (pe_tup (pa_cons pe_int (pa_cons pe_int pa_nil))) (by rfl)) pe_int (pe_un un_neg pe_int)))) pss_nil)
      (pss_one (ps_ret (pe_ifExp (pt_cmp (pc_eqI (pe_cal C_P_power_modulo (hr.mono (by decide)) (pa_cons (pv 0) (pa_cons (pe_op op_fdivW (pe_op op_sub (pv 1) pe_int) pe_int) (pa_cons (pv 1) pa_nil)))) pe_int)) pe_int (pe_un un_neg pe_int)))))), ?_⟩
    unfold restSign at q
    refine ⟨_, rfl, _, rfl, _, _, rfl, rfl, (by omega), _, _, rfl, rfl, _, rfl, ifd (fun h => ?_) (fun h => ?_)⟩
    · rw [if_pos h] at q
      exact q H (Same.refl H)
    · rw [if_neg h] at q
      refine ⟨_, rfl, _, _, rfl, rfl, _, rfl, ifd (fun h2 => ?_) (fun h2 => ?_)⟩
      · rw [if_pos h2] at q
        refine ⟨_, rfl, _, _, rfl, rfl, (by show (0 : Int) < 8; decide), (by show 2 ≤ sizeLine; decide), fun a ha => ?_⟩
        refine ⟨a, _, rfl, .inr (.inl (.inl upd_same)), rfl, rfl, _, rfl, ?_⟩
        rw [inV_two]
        refine ifd (fun e => ?_) (fun e => ?_)
        · rw [if_pos e] at q
          exact q _ (same_upd ha)
        · rw [if_neg e] at q
          exact ⟨_, rfl, q _ (same_upd ha)⟩
      · rw [if_neg h2] at q
        refine ⟨_, rfl, _, rfl, _, _, rfl, rfl, _, _, rfl, rfl, CDivW.of (by decide) (by decide +kernel), _, rfl, n, (p - 1) / 2, p, rfl, by omega, by omega, hb, _, _, rfl, rfl, _, rfl, ifd (fun h3 => ?_) (fun h3 => ?_)⟩
        · rw [if_pos h3] at q
          exact q H (Same.refl H)
        · rw [if_neg h3] at q
          exact ⟨_, rfl, q H (Same.refl H)⟩
end
end Sf

namespace Sf
open PySem PySem.Spec PyProof.Rows L2
/-- the sack of draws: three numbers, so many draws made -/
def SackO (n : Nat) (xs : List V) : Prop := ∃ a b c : Int, xs = [.int a, .int b, .int c] ∧ 0 ≤ a ∧ a < 10 ^ 400 ∧ 0 ≤ b ∧ b < 1000000000000000000000000 ∧ 0 ≤ c ∧ c ≤ n
theorem sq_upd {K : PySem.W.Frag} {H : Hp} {a p : Addr} {xs : List V} {o : HO} (h : SqL K H a xs) (n : a ≠ p) : SqL K (upd H p o) a xs := by
  rcases h with (h | ⟨u, h⟩) | h
  · exact .inl (.inl (by rw [upd_ne n]; exact h))
  · exact .inl (.inr ⟨u, by rw [upd_ne n]; exact h⟩)
  · exact .inr h
end Sf

namespace Sf
open PySem PySem.Spec PyProof.Rows L2
/-- all but the thing at p stays -/
def Keep (p : Addr) (H H' : Hp) : Prop := ∀ b o, H b = some o → b ≠ p → H' b = some o
theorem Keep.refl (p : Addr) (H : Hp) : Keep p H H := fun _ _ h _ => h
theorem Keep.trans {p : Addr} {H H1 H2 : Hp} (a : Keep p H H1) (b : Keep p H1 H2) : Keep p H H2 := fun c o h n => b c o (a c o h n) n
theorem Keep.same {p : Addr} {H H' : Hp} (s : Same H H') : Keep p H H' := fun c o h _ => s c o h
theorem Keep.upd {p : Addr} {H : Hp} {o : HO} : Keep p H (upd H p o) := fun c u h n => by rw [upd_ne n]; exact h
theorem Keep.new {p q : Addr} {H : Hp} {o : HO} (h : H q = none) : Keep p H (L2.upd H q o) := Keep.same (same_upd h)
/-- the sack stands at p, n draws made at most -/
def Sk (p : Addr) (n : Nat) (H : Hp) : Prop := ∃ xs, H p = some (.lst xs) ∧ SackO n xs
theorem SackO.mono {n m : Nat} {xs : List V} (h : SackO n xs) (l : n ≤ m) : SackO m xs := by
  obtain ⟨a, b, c, e, h1, h2, h3, h4, h5, h6⟩ := h
  exact ⟨a, b, c, e, h1, h2, h3, h4, h5, by omega⟩
theorem Sk.mono {p : Addr} {n m : Nat} {H : Hp} (h : Sk p n H) (l : n ≤ m) : Sk p m H := let ⟨xs, a, b⟩ := h; ⟨xs, a, b.mono l⟩
theorem Sk.same {p : Addr} {n : Nat} {H H' : Hp} (h : Sk p n H) (s : Same H H') : Sk p n H' := let ⟨xs, a, b⟩ := h; ⟨xs, s _ _ a, b⟩
theorem Sk.ne {p q : Addr} {n : Nat} {H : Hp} (h : Sk p n H) (hq : H q = none) : p ≠ q := let ⟨_, a, _⟩ := h; ne_of_none a hq
theorem Keep.free {p q : Addr} {n : Nat} {H H' : Hp} (k : Keep p H H') (s : Sk p n H') (h : H' q = none) : H q = none := by
  cases e : H q with
  | none => rfl
  | some o =>
    have n : q ≠ p := fun z => by
      obtain ⟨_, a, _⟩ := s
      rw [z, a] at h
      cases h
    rw [k q o e n] at h
    cases h
end Sf

namespace Sf
/-! the state of trial division: what was found, what is left -/
structure Trial (N : Int) (l : List (Int × Nat)) (r d : Int) : Prop where
  prod : prodF l * r = N
  pos : 1 ≤ r
  le : r ≤ N
  srt : Sorted l
  prm : Primes l
  low : ∀ q ∈ l, q.1 < d
  nod : NoDiv r d
theorem trial_start {N : Int} (h : 1 ≤ N) : Trial N [] N 2 := ⟨by show 1 * N = N; omega, h, Int.le_refl _, List.Pairwise.nil, (fun _ h => by cases h), (fun _ h => by cases h), nodiv2 N⟩
theorem sorted_snoc {l : List (Int × Nat)} {p : Int} {e : Nat} (h : Sorted l) (hl : ∀ q ∈ l, q.1 < p) : Sorted (l ++ [(p, e)]) := by
  unfold Sorted at *
  rw [List.pairwise_append]
  refine ⟨h, List.pairwise_singleton _ _, fun a ha b hb => ?_⟩
  rw [List.mem_singleton] at hb
  rw [hb]
  exact hl a ha
theorem primes_snoc {l : List (Int × Nat)} {p : Int} {e : Nat} (h : Primes l) (hp : PrP p) (he : 1 ≤ e) : Primes (l ++ [(p, e)]) := fun q hq => by
  rcases List.mem_append.mp hq with z | z
  · exact h q z
  · rw [List.mem_singleton] at z
    rw [z]
    exact ⟨hp, he⟩
theorem prodF_one (p : Int) (e : Nat) : prodF [(p, e)] = p ^ e := by
  show p ^ e * 1 = p ^ e
  rw [Int.mul_one]
theorem next_gt {d : Int} (h : 2 ≤ d) : d < (if d = 2 then 3 else d + 2) := by split <;> omega
theorem trial_pass {N r d : Int} {l : List (Int × Nat)} (h : Trial N l r d) (hd : r % d ≠ 0) : Trial N l r (if d = 2 then 3 else d + 2) :=
  ⟨h.prod, h.pos, h.le, h.srt, h.prm, fun q hq => Int.lt_trans (h.low q hq) (next_gt h.nod.1), nodiv_next h.nod hd⟩
theorem trial_take {N r d u : Int} {m : Nat} {l : List (Int × Nat)} (h : Trial N l r d) (hd : r % d = 0) (e : r = d ^ m * u) (hu : u % d ≠ 0) : Trial N (l ++ [(d, m)]) u (if d = 2 then 3 else d + 2) ∧ 1 ≤ m ∧ u ≤ r := by
  have hd2 := h.nod.1
  have hr := h.pos
  have hm : 1 ≤ m := by
    rcases Nat.eq_zero_or_pos m with z | z
    · subst z
      rw [Int.pow_zero, Int.one_mul] at e
      rw [e] at hd
      exact absurd hd hu
    · exact z
  have hdm : 0 < d ^ m := pow_pos_int (by omega) m
  have hu0 : 1 ≤ u := by
    rcases Int.lt_or_le 0 u with z | z
    · omega
    · have := Int.mul_nonpos_of_nonneg_of_nonpos (Int.le_of_lt hdm) z
      omega
  have hur : u ≤ r := by
    have : 1 * u ≤ d ^ m * u := Int.mul_le_mul_of_nonneg_right (by omega) (by omega)
    omega
  have hdu : r % u = 0 := Int.emod_eq_zero_of_dvd ⟨d ^ m, by rw [e]; exact Int.mul_comm _ _⟩
  refine ⟨⟨?_, hu0, Int.le_trans hur h.le, sorted_snoc h.srt h.low, primes_snoc h.prm (nodiv_prime h.nod hd) hm, fun q hq => ?_, nodiv_next (nodiv_of h.nod hdu) hu⟩, hm, hur⟩
  · rw [prodF_append, prodF_one, Int.mul_assoc, ← e]
    exact h.prod
  · have hn := next_gt hd2
    rcases List.mem_append.mp hq with z | z
    · exact Int.lt_trans (h.low q z) hn
    · rw [List.mem_singleton] at z
      rw [z]
      exact hn
theorem trial_end1 {N d : Int} {l : List (Int × Nat)} (h : Trial N l 1 d) : FactOf N l := ⟨by have := h.prod; rw [Int.mul_one] at this; exact this, h.srt, h.prm⟩
theorem trial_end {N r d : Int} {l : List (Int × Nat)} (h : Trial N l r d) (hr : 1 < r) (hd : r < d * d) : FactOf N (l ++ [(r, 1)]) ∧ ∀ q ∈ l, q.1 < r := by
  have h2 := nodiv_lt h.nod (by omega)
  have hl : ∀ q ∈ l, q.1 < r := fun q hq => Int.lt_of_lt_of_le (h.low q hq) h2
  have hp : PrP r := prp_of_trial (by omega) h.nod.1 h.nod.2.2 hd
  refine ⟨⟨?_, sorted_snoc h.srt hl, primes_snoc h.prm hp (by omega)⟩, hl⟩
  rw [prodF_append, prodF_one, Int.pow_succ, Int.pow_zero, Int.one_mul]
  exact h.prod
theorem prodF_pos {l : List (Int × Nat)} (h : Primes l) : 1 ≤ prodF l := by
  have h1 := prodF_len h
  have h2 : (0 : Int) < 2 ^ l.length := pow_pos_int (by omega) _
  omega
theorem trial_len {N r d : Int} {l : List (Int × Nat)} (h : Trial N l r d) (hN : N ≤ 1000000000) : l.length < 30 := by
  refine len_of_prod h.prm ?_
  have h1 := prodF_pos h.prm
  have h2 := h.prod
  have h3 := h.pos
  have h4 : prodF l * 1 ≤ prodF l * r := Int.mul_le_mul_of_nonneg_left h3 (by omega)
  omega
theorem fact_len {N : Int} {l : List (Int × Nat)} (h : FactOf N l) (hN : N ≤ 1000000000) : l.length < 30 := len_of_prod h.2.2 (by rw [h.1]; exact hN)
/-- the product of the primes with an odd power -/
def oddF : List (Int × Nat) → Int
  | [] => 1
  | q :: l => (if q.2 % 2 = 1 then q.1 else 1) * oddF l
theorem oddF_append : ∀ l m : List (Int × Nat), oddF (l ++ m) = oddF l * oddF m
  | [], m => by
    show oddF m = 1 * oddF m
    rw [Int.one_mul]
  | q :: l, m => by
    show (if q.2 % 2 = 1 then q.1 else 1) * oddF (l ++ m) = (if q.2 % 2 = 1 then q.1 else 1) * oddF l * oddF m
    rw [oddF_append l m, Int.mul_assoc]
theorem pow_split (p : Int) (e : Nat) : p ^ e = (if e % 2 = 1 then p else 1) * (p ^ (e / 2) * p ^ (e / 2)) := by
  have e1 : e = e % 2 + (e / 2 + e / 2) := by omega
  conv => lhs; rw [e1]
  rw [Int.pow_add, Int.pow_add]
  congr 1
  split
  · rename_i h
    rw [h, Int.pow_succ, Int.pow_zero, Int.one_mul]
  · rename_i h
    rw [show e % 2 = 0 by omega, Int.pow_zero]
theorem oddF_bound {l : List (Int × Nat)} : Primes l → 1 ≤ oddF l ∧ oddF l ≤ prodF l := by
  induction l with
  | nil => intro _; exact ⟨Int.le_refl _, Int.le_refl _⟩
  | cons q l ih =>
    intro h
    have ih := ih fun r hr => h r (List.mem_cons_of_mem _ hr)
    obtain ⟨hp, he⟩ := h q List.mem_cons_self
    have hp2 := hp.1
    have h1 : 1 ≤ (if q.2 % 2 = 1 then q.1 else 1) := by split <;> omega
    have h2 : (if q.2 % 2 = 1 then q.1 else 1) ≤ q.1 ^ q.2 := by
      rw [pow_split q.1 q.2]
      have h3 : 0 < q.1 ^ (q.2 / 2) := pow_pos_int (by omega) _
      have h4 : 0 < q.1 ^ (q.2 / 2) * q.1 ^ (q.2 / 2) := Int.mul_pos h3 h3
      have h5 : (if q.2 % 2 = 1 then q.1 else 1) * 1 ≤ (if q.2 % 2 = 1 then q.1 else 1) * (q.1 ^ (q.2 / 2) * q.1 ^ (q.2 / 2)) := Int.mul_le_mul_of_nonneg_left h4 (by omega)
      omega
    show 1 ≤ (if q.2 % 2 = 1 then q.1 else 1) * oddF l ∧ (if q.2 % 2 = 1 then q.1 else 1) * oddF l ≤ q.1 ^ q.2 * prodF l
    refine ⟨?_, Int.mul_le_mul h2 ih.2 (by omega) (by omega)⟩
    have := Int.mul_pos (show 0 < (if q.2 % 2 = 1 then q.1 else 1) by omega) (show 0 < oddF l by omega)
    omega
theorem prodF_take {l : List (Int × Nat)} (h : Primes l) (i : Nat) : prodF (l.take i) ≤ prodF l := by
  have e : prodF l = prodF (l.take i) * prodF (l.drop i) := by rw [← prodF_append, List.take_append_drop]
  have h1 : 1 ≤ prodF (l.take i) := prodF_pos fun q hq => h q (List.mem_of_mem_take hq)
  have h2 : 1 ≤ prodF (l.drop i) := prodF_pos fun q hq => h q (List.mem_of_mem_drop hq)
  have h3 : prodF (l.take i) * 1 ≤ prodF (l.take i) * prodF (l.drop i) := Int.mul_le_mul_of_nonneg_left h2 (by omega)
  omega
theorem self_le_pow {p : Int} (h : 2 ≤ p) : ∀ {e : Nat}, 1 ≤ e → p ≤ p ^ e
  | 0, h0 => by omega
  | e + 1, _ => by
    rw [Int.pow_succ]
    have h1 : 0 < p ^ e := pow_pos_int (by omega) e
    have h2 : 1 * p ≤ p ^ e * p := Int.mul_le_mul_of_nonneg_right (by omega) (by omega)
    omega
theorem prodF_mem : ∀ {l : List (Int × Nat)}, Primes l → ∀ q ∈ l, q.1 ≤ prodF l
  | [], _, q, hq => by cases hq
  | r :: l, h, q, hq => by
    have h1 : 1 ≤ prodF l := prodF_pos fun q hq => h q (List.mem_cons_of_mem _ hq)
    obtain ⟨hp, he⟩ := h r List.mem_cons_self
    have hp2 := hp.1
    have h2 := self_le_pow hp2 he
    show q.1 ≤ r.1 ^ r.2 * prodF l
    rcases List.mem_cons.mp hq with z | z
    · subst z
      have h3 : q.1 ^ q.2 * 1 ≤ q.1 ^ q.2 * prodF l := Int.mul_le_mul_of_nonneg_left h1 (by omega)
      omega
    · have h3 := prodF_mem (l := l) (fun q hq => h q (List.mem_cons_of_mem _ hq)) q z
      have h4 : 1 * prodF l ≤ r.1 ^ r.2 * prodF l := Int.mul_le_mul_of_nonneg_right (by omega) (by omega)
      omega
theorem nat_lt_pow {p : Int} (h : 2 ≤ p) : ∀ e : Nat, (e : Int) < p ^ e
  | 0 => by rw [Int.pow_zero]; decide
  | e + 1 => by
    have ih := nat_lt_pow h e
    rw [Int.pow_succ]
    have h1 : 0 < p ^ e := pow_pos_int (by omega) e
    have h2 : p ^ e * 2 ≤ p ^ e * p := Int.mul_le_mul_of_nonneg_left h (by omega)
    omega
theorem prodF_mem2 : ∀ {l : List (Int × Nat)}, Primes l → ∀ q ∈ l, (q.2 : Int) < prodF l
  | [], _, q, hq => by cases hq
  | r :: l, h, q, hq => by
    have h1 : 1 ≤ prodF l := prodF_pos fun q hq => h q (List.mem_cons_of_mem _ hq)
    obtain ⟨hp, he⟩ := h r List.mem_cons_self
    have hp2 := hp.1
    have h2 := self_le_pow hp2 he
    show (q.2 : Int) < r.1 ^ r.2 * prodF l
    rcases List.mem_cons.mp hq with z | z
    · subst z
      have h3 : q.1 ^ q.2 * 1 ≤ q.1 ^ q.2 * prodF l := Int.mul_le_mul_of_nonneg_left h1 (by omega)
      have h4 := nat_lt_pow hp2 q.2
      omega
    · have h3 := prodF_mem2 (l := l) (fun q hq => h q (List.mem_cons_of_mem _ hq)) q z
      have h4 : 1 * prodF l ≤ r.1 ^ r.2 * prodF l := Int.mul_le_mul_of_nonneg_right (by omega) (by omega)
      omega
end Sf

namespace Sf
open PySem PySem.Spec PyProof.Rows L2
/-- the pairs of a dict of factors -/
def kvsF (l : List (Int × Nat)) : List (Key × V) := l.map fun q => ((Sum.inl q.1 : Key), V.int q.2)
theorem kvsF_none : ∀ {l : List (Int × Nat)} {p : Int}, (∀ q ∈ l, q.1 < p) → valV (kvsF l) (Sum.inl p : Key) = none
  | [], _, _ => rfl
  | q :: l, p, h => by
    show valV (((Sum.inl q.1 : Key), V.int q.2) :: kvsF l) (Sum.inl p : Key) = none
    rw [valV_neg]
    · exact kvsF_none fun r hr => h r (List.mem_cons_of_mem _ hr)
    · intro e
      have e1 : q.1 = p := Sum.inl.inj e
      have := h q List.mem_cons_self
      omega
theorem kvsF_snoc (l : List (Int × Nat)) (p : Int) (e : Nat) : kvsF (l ++ [(p, e)]) = kvsF l ++ [((Sum.inl p : Key), V.int e)] := by
  unfold kvsF
  rw [List.map_append]
  rfl
theorem kvsF_len (l : List (Int × Nat)) : (kvsF l).length = l.length := List.length_map ..
section
variable {P : Program} {w : World} {K : PySem.W.Frag} {mg : Str → Option Value} {base : Heap} {f : Addr} {fd : FuncData}
def absI (n : Int) : Int := if n < 0 then -n else n
def spFactors : Sp := fun vs H Q _ => ∃ n : Int, vs = [.int n] ∧ n ≠ 0 ∧ -1000000000 ≤ n ∧ n ≤ 1000000000 ∧
  ∀ (l : List (Int × Nat)) (d : Addr) (H' : Hp), FactOf (absI n) l → Same H H' → H d = none → H' d = some (.dK (kvsF l)) → Q (.ref d) H'
theorem ok_prime_powers (F : FnD K "prime_powers" "prime_powers" s_P_prime_powers f fd) (T : Glob mg)
    (C_P_stripped : Cal P w K mg base 1 "stripped" ["number", "prime"] spStripped) (C_P_next_divisor : Cal P w K mg base 1 "next_divisor" ["divisor"] spNext) :
    FnOk P w K mg base CX0 2 f fd ["number"] spFactors := by
  refine F.ok sc_P_prime_powers (fun vs H Q E h => ?_) (fun cdv A outer s H vs Q E hr h => ?_)
  · obtain ⟨n, rfl, _⟩ := h; rfl
  · obtain ⟨n, rfl, hn, h1, h2, q⟩ := h
    have hu := hu_of hr
    have hN1 : 1 ≤ absI n := by unfold absI; split <;> omega
    have hN2 : absI n ≤ 1000000000 := by unfold absI; split <;> omega
    refine ⟨_, PSs.nox (pss_cons (ps_set (i := 1) sc_P_prime_powers.nd rfl (Or.inl rfl) (pe_callB call_abs (by rfl) T.m_abs (by decide +kernel) (pa_cons (pv 0) pa_nil)))
      (pss_cons (ps_set (i := 2) sc_P_prime_powers.nd rfl (Or.inl rfl) pe_dnewK)
      (pss_cons (ps_set (i := 3) sc_P_prime_powers.nd rfl (Or.inl rfl) pe_int)
      (pss_cons (ps_while PassesOwn.never (pt_cmp (pc_le (pe_op op_mulW (pv 3) (pv 3)) (pv 1))) (pss_cons (ps_if (pt_cmp (pc_eqI (pe_op op_mod (pv 1) (pv 3)) pe_int)) (pss_one (ps_asg (pe_cal C_P_stripped (hr.mono (by decide)) (pa_cons (pv 1) (pa_cons (pv 3) pa_nil))) (pg_tup (by rfl) (pgs_cons (pg_sub (pv 2) (pv 3) (set_dict hu)) (pgs_cons (pg_name (i := 1) sc_P_prime_powers.nd rfl (Or.inl rfl)) pgs_nil))))) pss_nil)
      (pss_one (ps_set (i := 3) sc_P_prime_powers.nd rfl (Or.inl rfl) (pe_cal C_P_next_divisor (hr.mono (by decide)) (pa_cons (pv 3) pa_nil))))))
      (pss_cons (ps_if (pt_cmp (pc_gt (pv 1) pe_int)) (pss_one (ps_dput hu (pv 2) (pv 1) pe_int rfl)) pss_nil)
      (pss_one (ps_ret (pv 2)))))))), ?_⟩
    refine ⟨_, rfl, n, rfl, fun d hd => ?_⟩
    refine ⟨fun c σ H' => ∃ (l : List (Int × Nat)) (r t : Int), σ = [some (.int n), some (.int r), some (.ref d), some (.int t)] ∧ Same H H' ∧ H' d = some (.dK (kvsF l)) ∧ Trial (absI n) l r t ∧ t ≤ absI n + 2 ∧ c = (r - t + 3).toNat,
      ⟨_, [], absI n, 2, rfl, same_upd hd, upd_same, trial_start hN1, by omega, rfl⟩, ?_⟩
    rintro c σ H' ⟨l, r, t, rfl, hs, hdd, ht, htN, rfl⟩
    have t2 := ht.nod.1
    have rN := ht.le
    have r1 := ht.pos
    have hlen := trial_len ht hN2
    have tb : t.natAbs < 2 ^ 3000 := lt3000s (by omega) (by omega)
    have htt : t * 2 ≤ t * t := Int.mul_le_mul_of_nonneg_left t2 (by omega)
    refine ⟨_, rfl, _, rfl, _, _, rfl, rfl, CMulW.of tb tb, _, rfl, _, _, rfl, rfl, _, rfl, ifd (fun h => ⟨_, fun _ _ z => z, ?_⟩) (fun h => ?_)⟩
    · have tr : t ≤ r := nodiv_lt ht.nod (by omega)
      refine ⟨_, rfl, _, rfl, _, _, rfl, rfl, (by omega), _, _, rfl, rfl, _, rfl, ifd (fun h2 => ?_) (fun h2 => ?_)⟩
      · refine ⟨_, rfl, _, rfl, r, t, rfl, by omega, t2, tb, fun m u a hst ha => ?_⟩
        obtain ⟨k1, k2, k3⟩ := trial_take ht h2 hst.1 hst.2
        have nad : d ≠ a := ne_of_none hdd ha
        refine ⟨a, _, rfl, .inl (.inl upd_same), rfl, _, _, rfl, _, rfl, _, rfl, d, _, rfl, DPut.k (k := Sum.inl t) (by rw [upd_ne nad]; exact hdd) (by rw [kvsF_len]; exact small1000 (by omega)), _, _, rfl, rfl, ?_⟩
        refine ⟨_, rfl, t, rfl, ?_⟩
        refine ⟨_, ?_, l ++ [(t, m)], u, _, rfl, ?_, ?_, k1, ?_, rfl⟩
        · split <;> omega
        · intro b o e
          have h3 := hs b o e
          have nb : b ≠ d := ne_of_none e hd
          rw [upd_ne nb, upd_ne (ne_of_none h3 ha)]
          exact h3
        · rw [upd_same, putK_new _ (kvsF_none ht.low), kvsF_snoc]
        · split <;> omega
      · refine ⟨_, rfl, t, rfl, ?_⟩
        refine ⟨_, ?_, l, r, _, rfl, hs, hdd, trial_pass ht h2, ?_, rfl⟩
        · split <;> omega
        · split <;> omega
    · refine ⟨_, rfl, _, _, rfl, rfl, _, rfl, ifd (fun h3 => ?_) (fun h3 => ?_)⟩
      · obtain ⟨k1, k2⟩ := trial_end ht (by omega) (by omega)
        refine ⟨_, rfl, _, rfl, d, _, rfl, DPut.k (k := Sum.inl r) hdd (by rw [kvsF_len]; exact small1000 (by omega)), ?_⟩
        refine ⟨_, rfl, q _ d _ k1 (fun b o e => ?_) hd ?_⟩
        · rw [upd_ne (ne_of_none e hd)]
          exact hs b o e
        · rw [upd_same, putK_new _ (kvsF_none k2), kvsF_snoc]
          rfl
      · have hr : r = 1 := by omega
        subst hr
        exact ⟨_, rfl, q l d H' (trial_end1 ht) hs hd hdd⟩
theorem ok_factors (F : FnD K "factors" "factors" s_P_factors f fd) (C_P_check_number : Cal P w K mg base 2 "check_number" ["value"] spCheckNumber)
    (C_P_prime_powers : Cal P w K mg base 2 "prime_powers" ["number"] spFactors) :
    FnOk P w K mg base CX0 3 f fd ["number"] spFactors := by
  refine F.ok sc_P_factors (fun vs H Q E h => ?_) (fun cdv A outer s H vs Q E hr h => ?_)
  · obtain ⟨n, rfl, _⟩ := h; rfl
  · obtain ⟨n, rfl, hn, h1, h2, q⟩ := h
    refine ⟨_, PSs.nox (pss_cons (ps_expr (pe_cal C_P_check_number (hr.mono (by decide)) (pa_cons (pv 0) pa_nil)))
      (pss_one (ps_ret (pe_cal C_P_prime_powers (hr.mono (by decide)) (pa_cons (pv 0) pa_nil))))), ?_⟩
    exact ⟨_, rfl, n, rfl, hn, h1, h2, _, rfl, n, rfl, hn, h1, h2, fun l d H1 hf hs hd hdd => q l d H1 hf hs hd hdd⟩
end
end Sf

namespace Sf
/-! a prime divides a product only if it divides a factor -/
theorem PrP.pos {p : Int} (h : PrP p) : 0 < p := by have := h.1; omega
theorem gcd_of_prime {p : Int} (h : PrP p) {a : Int} (ha : ¬ p ∣ a) : Nat.Coprime p.natAbs a.natAbs := by
  have hp := h.1
  have h1 : Nat.gcd p.natAbs a.natAbs ∣ p.natAbs := Nat.gcd_dvd_left ..
  have h2 : Nat.gcd p.natAbs a.natAbs ∣ a.natAbs := Nat.gcd_dvd_right ..
  have h0 : 0 < Nat.gcd p.natAbs a.natAbs := Nat.gcd_pos_of_pos_left _ (by omega)
  have hle : Nat.gcd p.natAbs a.natAbs ≤ p.natAbs := Nat.le_of_dvd (by omega) h1
  unfold Nat.Coprime
  rcases Nat.lt_or_ge (Nat.gcd p.natAbs a.natAbs) 2 with z | z
  · omega
  · rcases Nat.lt_or_ge (Nat.gcd p.natAbs a.natAbs) p.natAbs with z2 | z2
    · exfalso
      refine h.2 (Nat.gcd p.natAbs a.natAbs : Int) (by omega) (by omega) ?_
      refine Int.emod_eq_zero_of_dvd ?_
      have : ((Nat.gcd p.natAbs a.natAbs : Nat) : Int) ∣ ((p.natAbs : Nat) : Int) := Int.ofNat_dvd.mpr h1
      rwa [Int.natAbs_of_nonneg (by omega : 0 ≤ p)] at this
    · exfalso
      have e : Nat.gcd p.natAbs a.natAbs = p.natAbs := by omega
      rw [e] at h2
      exact ha (Int.natAbs_dvd_natAbs.mp h2)
theorem prime_mul {p : Int} (h : PrP p) {a b : Int} (hd : p ∣ a * b) : p ∣ a ∨ p ∣ b := by
  by_cases ha : p ∣ a
  · exact .inl ha
  · refine .inr ?_
    have h1 : p.natAbs ∣ a.natAbs * b.natAbs := by
      rw [← Int.natAbs_mul]
      exact Int.natAbs_dvd_natAbs.mpr hd
    exact Int.natAbs_dvd_natAbs.mp (Nat.Coprime.dvd_of_dvd_mul_left (gcd_of_prime h ha) h1)
theorem prime_one {p : Int} (h : PrP p) : ¬ p ∣ 1 := fun z => by
  have h1 := Int.le_of_dvd (by omega) z
  have := h.1
  omega
theorem prime_pow {p a : Int} (h : PrP p) : ∀ {e : Nat}, p ∣ a ^ e → p ∣ a
  | 0, z => absurd (by rwa [Int.pow_zero] at z) (prime_one h)
  | e + 1, z => by
    rw [Int.pow_succ] at z
    rcases prime_mul h z with y | y
    · exact prime_pow h y
    · exact y
theorem prime_dvd_prime {p q : Int} (hp : PrP p) (hq : PrP q) (h : p ∣ q) : p = q := by
  have h1 := hp.1
  have h2 := hq.1
  have h3 := Int.le_of_dvd (by omega) h
  rcases Int.lt_or_le p q with z | z
  · exact absurd (Int.emod_eq_zero_of_dvd h) (hq.2 p h1 z)
  · omega
theorem prime_prodF {p : Int} (h : PrP p) : ∀ {l : List (Int × Nat)}, Primes l → p ∣ prodF l → ∃ e, (p, e) ∈ l
  | [], _, z => absurd z (prime_one h)
  | q :: l, hl, z => by
    rcases prime_mul h (show p ∣ q.1 ^ q.2 * prodF l from z) with y | y
    · have e := prime_dvd_prime h (hl q List.mem_cons_self).1 (prime_pow h y)
      exact ⟨q.2, by rw [e]; exact List.mem_cons_self⟩
    · obtain ⟨e, he⟩ := prime_prodF h (fun r hr => hl r (List.mem_cons_of_mem _ hr)) y
      exact ⟨e, List.mem_cons_of_mem _ he⟩
theorem pow_cancel {p : Int} (h : PrP p) {R S : Int} (hR : ¬ p ∣ R) (hS : ¬ p ∣ S) : ∀ {a b : Nat}, p ^ a * R = p ^ b * S → a = b ∧ R = S
  | 0, 0, e => ⟨rfl, by rwa [Int.pow_zero, Int.one_mul, Int.one_mul] at e⟩
  | 0, b + 1, e => by
    rw [Int.pow_zero, Int.one_mul, Int.pow_succ, Int.mul_assoc] at e
    refine absurd ?_ hR
    rw [e, Int.mul_comm, Int.mul_assoc]
    exact Int.dvd_mul_right ..
  | a + 1, 0, e => by
    rw [Int.pow_zero, Int.one_mul, Int.pow_succ, Int.mul_assoc] at e
    refine absurd ?_ hS
    rw [← e, Int.mul_comm, Int.mul_assoc]
    exact Int.dvd_mul_right ..
  | a + 1, b + 1, e => by
    have h0 := h.pos
    rw [Int.pow_succ, Int.pow_succ, Int.mul_comm (p ^ a), Int.mul_comm (p ^ b), Int.mul_assoc, Int.mul_assoc] at e
    obtain ⟨h1, h2⟩ := pow_cancel h hR hS (Int.eq_of_mul_eq_mul_left (by omega) e)
    exact ⟨by omega, h2⟩
/-! one number, one factorization -/
def Distinct (l : List (Int × Nat)) : Prop := (l.map (·.1)).Nodup
theorem distinct_of_sorted {l : List (Int × Nat)} (h : Sorted l) : Distinct l := by
  unfold Distinct List.Nodup
  rw [List.pairwise_map]
  exact h.imp fun h e => by omega
theorem distinct_perm {l m : List (Int × Nat)} (h : l.Perm m) (d : Distinct l) : Distinct m := by
  unfold Distinct at *
  exact (h.map _).nodup_iff.mp d
theorem prodF_perm {l m : List (Int × Nat)} (h : l.Perm m) : prodF l = prodF m := by
  induction h with
  | nil => rfl
  | cons x _ ih => show x.1 ^ x.2 * _ = x.1 ^ x.2 * _; rw [ih]
  | swap x y l => show y.1 ^ y.2 * (x.1 ^ x.2 * _) = x.1 ^ x.2 * (y.1 ^ y.2 * _); exact Int.mul_left_comm ..
  | trans _ _ a b => exact a.trans b
theorem oddF_perm {l m : List (Int × Nat)} (h : l.Perm m) : oddF l = oddF m := by
  induction h with
  | nil => rfl
  | cons x _ ih => show (if x.2 % 2 = 1 then x.1 else 1) * _ = (if x.2 % 2 = 1 then x.1 else 1) * _; rw [ih]
  | swap x y l => exact Int.mul_left_comm ..
  | trans _ _ a b => exact a.trans b
theorem not_dvd_rest {p : Int} {e : Nat} {l : List (Int × Nat)} (hp : Primes ((p, e) :: l)) (hd : Distinct ((p, e) :: l)) : ¬ p ∣ prodF l := fun z => by
  obtain ⟨e', he⟩ := prime_prodF (hp (p, e) List.mem_cons_self).1 (fun r hr => hp r (List.mem_cons_of_mem _ hr)) z
  unfold Distinct at hd
  rw [List.map_cons, List.nodup_cons] at hd
  exact hd.1 (List.mem_map.mpr ⟨(p, e'), he, rfl⟩)
theorem fact_unique : ∀ {l m : List (Int × Nat)}, Primes l → Distinct l → Primes m → Distinct m → prodF l = prodF m → l.Perm m
  | [], m, _, _, hm, _, e => by
    cases m with
    | nil => exact List.Perm.nil
    | cons q m =>
      have h1 := prodF_len hm
      rw [← e] at h1
      have h2 : (0 : Int) < 2 ^ m.length := pow_pos_int (by omega) _
      rw [List.length_cons, Int.pow_succ] at h1
      have h3 : prodF [] = 1 := rfl
      omega
  | (p, a) :: l, m, hl, dl, hm, dm, e => by
    have hp := (hl (p, a) List.mem_cons_self).1
    have ha := (hl (p, a) List.mem_cons_self).2
    have hdv : p ∣ prodF m := by
      rw [← e]
      show p ∣ p ^ a * prodF l
      obtain ⟨k, rfl⟩ : ∃ k, a = k + 1 := ⟨a - 1, by have : 1 ≤ a := ha; omega⟩
      rw [Int.pow_succ, Int.mul_comm (p ^ k), Int.mul_assoc]
      exact Int.dvd_mul_right ..
    obtain ⟨b, hb⟩ := prime_prodF hp hm hdv
    have hperm := List.perm_cons_erase hb
    have hm2 : Primes ((p, b) :: m.erase (p, b)) := fun r hr => hm r (hperm.mem_iff.mpr hr)
    have dm2 : Distinct ((p, b) :: m.erase (p, b)) := distinct_perm hperm dm
    have e2 : p ^ a * prodF l = p ^ b * prodF (m.erase (p, b)) := e.trans (prodF_perm hperm)
    obtain ⟨h1, h2⟩ := pow_cancel hp (not_dvd_rest hl dl) (not_dvd_rest hm2 dm2) e2
    subst h1
    have ih := fact_unique (l := l) (m := m.erase (p, a)) (fun r hr => hl r (List.mem_cons_of_mem _ hr)) ((List.nodup_cons.mp dl).2) (fun r hr => hm2 r (List.mem_cons_of_mem _ hr)) ((List.nodup_cons.mp dm2).2) h2
    exact (ih.cons (p, a)).trans hperm.symm
/-! the square-free part -/
def oddL (l : List (Int × Nat)) : List (Int × Nat) := (l.filter fun q => q.2 % 2 == 1).map fun q => (q.1, 1)
theorem oddL_prod : ∀ l : List (Int × Nat), prodF (oddL l) = oddF l ∧ oddF (oddL l) = oddF l
  | [] => ⟨rfl, rfl⟩
  | q :: l => by
    obtain ⟨h1, h2⟩ := oddL_prod l
    unfold oddL at *
    by_cases h : q.2 % 2 = 1
    · rw [List.filter_cons_of_pos (by simp [h]), List.map_cons]
      show q.1 ^ 1 * _ = (if q.2 % 2 = 1 then q.1 else 1) * _ ∧ (if (1 : Nat) % 2 = 1 then q.1 else 1) * _ = (if q.2 % 2 = 1 then q.1 else 1) * _
      rw [if_pos h, h1, h2, Int.pow_succ, Int.pow_zero, Int.one_mul]
      exact ⟨rfl, rfl⟩
    · rw [List.filter_cons_of_neg (by simp [h])]
      show _ = (if q.2 % 2 = 1 then q.1 else 1) * _ ∧ _ = (if q.2 % 2 = 1 then q.1 else 1) * _
      rw [if_neg h, h1, h2, Int.one_mul]
      exact ⟨rfl, rfl⟩
theorem oddL_primes {l : List (Int × Nat)} (h : Primes l) : Primes (oddL l) := fun q hq => by
  obtain ⟨r, hr, e⟩ := List.mem_map.mp hq
  rw [← e]
  exact ⟨(h r (List.mem_filter.mp hr).1).1, Nat.le_refl _⟩
theorem oddL_distinct {l : List (Int × Nat)} (h : Distinct l) : Distinct (oddL l) := by
  unfold Distinct oddL
  rw [List.map_map]
  have : ((fun x : Int × Nat => x.1) ∘ fun q => (q.1, 1)) = fun q : Int × Nat => q.1 := rfl
  rw [this]
  exact h.sublist (List.filter_sublist.map _)
def rootF : List (Int × Nat) → Int
  | [] => 1
  | q :: l => q.1 ^ (q.2 / 2) * rootF l
theorem rootF_append : ∀ l m : List (Int × Nat), rootF (l ++ m) = rootF l * rootF m
  | [], m => by show rootF m = 1 * rootF m; rw [Int.one_mul]
  | q :: l, m => by
    show q.1 ^ (q.2 / 2) * rootF (l ++ m) = q.1 ^ (q.2 / 2) * rootF l * rootF m
    rw [rootF_append l m, Int.mul_assoc]
theorem odd_root : ∀ l : List (Int × Nat), oddF l * rootF l * rootF l = prodF l
  | [] => rfl
  | q :: l => by
    have ih := odd_root l
    show (if q.2 % 2 = 1 then q.1 else 1) * oddF l * (q.1 ^ (q.2 / 2) * rootF l) * (q.1 ^ (q.2 / 2) * rootF l) = q.1 ^ q.2 * prodF l
    rw [pow_split q.1 q.2, ← ih]
    generalize (if q.2 % 2 = 1 then q.1 else 1) = c
    generalize q.1 ^ (q.2 / 2) = g
    generalize oddF l = o
    generalize rootF l = r
    simp only [Int.mul_comm, Int.mul_left_comm, Int.mul_assoc]
theorem rootF_bound : ∀ {l : List (Int × Nat)}, Primes l → 1 ≤ rootF l ∧ rootF l ≤ prodF l
  | [], _ => ⟨Int.le_refl _, Int.le_refl _⟩
  | q :: l, h => by
    have ih := rootF_bound (l := l) fun r hr => h r (List.mem_cons_of_mem _ hr)
    have hp2 := (h q List.mem_cons_self).1.1
    have h1 : 0 < q.1 ^ (q.2 / 2) := pow_pos_int (by omega) _
    have h2 : q.1 ^ (q.2 / 2) ≤ q.1 ^ q.2 := by
      have e : q.2 = q.2 / 2 + (q.2 - q.2 / 2) := by omega
      have h3 : 0 < q.1 ^ (q.2 - q.2 / 2) := pow_pos_int (by omega) _
      have h4 : q.1 ^ (q.2 / 2) * 1 ≤ q.1 ^ (q.2 / 2) * q.1 ^ (q.2 - q.2 / 2) := Int.mul_le_mul_of_nonneg_left (by omega) (by omega)
      rw [← Int.pow_add, ← e] at h4
      omega
    show 1 ≤ q.1 ^ (q.2 / 2) * rootF l ∧ q.1 ^ (q.2 / 2) * rootF l ≤ q.1 ^ q.2 * prodF l
    refine ⟨?_, Int.mul_le_mul h2 ih.2 (by omega) (by omega)⟩
    have := Int.mul_pos h1 (show 0 < rootF l by omega)
    omega
theorem primes_take {l : List (Int × Nat)} (h : Primes l) (i : Nat) : Primes (l.take i) := fun r hr => h r (List.mem_of_mem_take hr)
theorem rootF_take_pos {l : List (Int × Nat)} (h : Primes l) (i j : Nat) {q : Int} (hq : 2 ≤ q := by omega) : 1 ≤ rootF (l.take i) * q ^ j := by
  have h1 := (rootF_bound (primes_take h i)).1
  have h2 : 0 < q ^ j := pow_pos_int (by omega) _
  have := Int.mul_pos (show 0 < rootF (l.take i) by omega) h2
  omega
theorem pow_le_pow {p : Int} (h : 1 ≤ p) {a b : Nat} (hab : a ≤ b) : p ^ a ≤ p ^ b := by
  have e : b = a + (b - a) := by omega
  have h1 : 0 < p ^ a := pow_pos_int (by omega) _
  have h2 : 0 < p ^ (b - a) := pow_pos_int (by omega) _
  have h4 : p ^ a * 1 ≤ p ^ a * p ^ (b - a) := Int.mul_le_mul_of_nonneg_left (by omega) (by omega)
  rw [← Int.pow_add, ← e] at h4
  omega
theorem rootF_take_le {l : List (Int × Nat)} (h : Primes l) {i j : Nat} (hi : i < l.length) (hj : j < l[i].2 / 2) : rootF (l.take i) * l[i].1 ^ j ≤ prodF l := by
  have hp2 := (h _ (List.getElem_mem hi)).1.1
  have h1 := rootF_bound (primes_take h (i + 1))
  have e : rootF (l.take (i + 1)) = rootF (l.take i) * l[i].1 ^ (l[i].2 / 2) := by
    rw [List.take_add_one, List.getElem?_eq_getElem hi, rootF_append]
    show _ = _
    congr 1
    show l[i].1 ^ (l[i].2 / 2) * 1 = _
    rw [Int.mul_one]
  have h2 := (rootF_bound (primes_take h i)).1
  have h3 : l[i].1 ^ j ≤ l[i].1 ^ (l[i].2 / 2) := pow_le_pow (by omega) (by omega)
  have h4 : rootF (l.take i) * l[i].1 ^ j ≤ rootF (l.take i) * l[i].1 ^ (l[i].2 / 2) := Int.mul_le_mul_of_nonneg_left h3 (by omega)
  have h5 := prodF_take h (i + 1)
  rw [← e] at h4
  omega
theorem sq_not_dvd {l : List (Int × Nat)} (h : Primes l) (d : Distinct l) {q : Int × Nat} (hq : q ∈ l) : ¬ (q.1 * q.1) ∣ oddF l := fun z => by
  have hp := (h q hq).1
  have hperm := List.perm_cons_erase hq
  have h2 : Primes (q :: l.erase q) := fun r hr => h r (hperm.mem_iff.mpr hr)
  have d2 : Distinct (q :: l.erase q) := distinct_perm hperm d
  rw [oddF_perm hperm] at z
  have h3 : q.1 ∣ oddF (l.erase q) := by
    obtain ⟨k, hk⟩ := z
    have hk2 : (if q.2 % 2 = 1 then q.1 else 1) * oddF (l.erase q) = q.1 * q.1 * k := hk
    by_cases c : q.2 % 2 = 1
    · rw [if_pos c, Int.mul_assoc] at hk2
      exact ⟨k, Int.eq_of_mul_eq_mul_left (by have := hp.pos; omega) hk2⟩
    · rw [if_neg c, Int.one_mul, Int.mul_assoc] at hk2
      exact ⟨q.1 * k, hk2⟩
  have h4 : q.1 ∣ prodF (l.erase q) := by
    rw [← odd_root]
    exact Int.dvd_mul_of_dvd_left (Int.dvd_mul_of_dvd_left h3)
  obtain ⟨p, e⟩ := q
  exact not_dvd_rest h2 d2 h4
end Sf

namespace Sf
open PySem PySem.Spec PyProof.Rows L2
/-- the rests of squares, and the sign by them -/
def sqs (p : Int) : List Int := (List.range (p - 1).toNat).map fun i => ((1 : Int) + (i : Nat)) * (1 + (i : Nat)) % p
theorem sqs_at {p : Int} {i : Nat} (h : i < (p - 1).toNat) : (sqs p)[i]? = some (((1 : Int) + (i : Nat)) * (1 + (i : Nat)) % p) := by
  unfold sqs
  rw [List.getElem?_map, List.getElem?_range h]
  rfl
def lawSign (n p : Int) : Int := if n % p = 0 then 0 else if p = 2 then (if n % 8 = 1 ∨ n % 8 = 7 then 1 else -1) else if n % p ∈ sqs p then 1 else -1
end Sf

namespace Sf
/-! residues by tables -/
def maskOf (p : Nat) : List Nat → Nat
  | [] => 0
  | x :: l => maskOf p l ||| 2 ^ (x * x % p)
theorem maskOf_bit (p r : Nat) : ∀ l : List Nat, (maskOf p l).testBit r = l.any fun x => x * x % p == r
  | [] => Nat.zero_testBit r
  | x :: l => by
    unfold maskOf
    rw [Nat.testBit_or, maskOf_bit p r l, Nat.testBit_two_pow, List.any_cons, Bool.or_comm]
    rfl
def euler (p : Nat) : Bool :=
  let m := maskOf p (List.range' 1 (p - 1))
  (List.range' 1 (p - 1)).all fun r => (r ^ ((p - 1) / 2) % p == 1) == m.testBit r && (r ^ ((p - 1) / 2) % p == 1 || r ^ ((p - 1) / 2) % p == p - 1)
theorem sqs_nat {p r : Nat} : ((r : Int) ∈ sqs p) ↔ (List.range' 1 (p - 1)).any (fun x => x * x % p == r) = true := by
  unfold sqs
  rw [List.mem_map, List.any_eq_true]
  constructor
  · rintro ⟨i, hi, e⟩
    rw [List.mem_range] at hi
    refine ⟨1 + i, by rw [List.mem_range'_1]; omega, ?_⟩
    rw [beq_iff_eq]
    have e2 : (((1 + i) * (1 + i) % p : Nat) : Int) = (r : Int) := by
      rw [← e]
      push_cast
      rfl
    exact Int.ofNat.inj e2
  · rintro ⟨x, hx, e⟩
    rw [List.mem_range'_1] at hx
    refine ⟨x - 1, by rw [List.mem_range]; omega, ?_⟩
    rw [beq_iff_eq] at e
    have e1 : (1 : Int) + ((x - 1 : Nat) : Int) = (x : Int) := by omega
    rw [e1, ← e]
    push_cast
    rfl
theorem emod_cast {n : Int} {p : Nat} (hp : 0 < p) : ∃ r : Nat, r < p ∧ n % p = (r : Int) := by
  have h1 := Int.emod_nonneg n (by omega : (p : Int) ≠ 0)
  have h2 := Int.emod_lt_of_pos n (by omega : (0 : Int) < p)
  exact ⟨(n % p).toNat, by omega, by omega⟩
theorem half_cast (p : Nat) (hp : 1 ≤ p) : ((((p : Int) - 1) / 2).toNat) = (p - 1) / 2 := by omega
theorem pow_rest {n : Int} {p r : Nat} (k : Nat) (e : n % p = (r : Int)) : n ^ k % p = ((r ^ k % p : Nat) : Int) := by
  rw [← pow_mod, e]
  push_cast
  rfl
theorem euler_at {p : Nat} (h : euler p = true) {r : Nat} (h1 : 1 ≤ r) (h2 : r < p) : (r ^ ((p - 1) / 2) % p = 1 ↔ (r : Int) ∈ sqs p) ∧ (r ^ ((p - 1) / 2) % p = 1 ∨ r ^ ((p - 1) / 2) % p = p - 1) := by
  unfold euler at h
  have h3 := List.all_eq_true.mp h r (by rw [List.mem_range'_1]; omega)
  rw [Bool.and_eq_true, maskOf_bit] at h3
  obtain ⟨h4, h5⟩ := h3
  refine ⟨?_, by simpa using h5⟩
  rw [sqs_nat]
  have h6 := beq_iff_eq.mp h4
  rw [← h6, beq_iff_eq]
theorem sign_eq {p : Nat} (hp : 3 ≤ p) (h : euler p = true) (n : Int) : restSign n p = lawSign n p := by
  unfold restSign lawSign
  by_cases h0 : n % p = 0
  · rw [if_pos h0, if_pos h0]
  · rw [if_neg h0, if_neg h0, if_neg (by omega : ¬ (p : Int) = 2), if_neg (by omega : ¬ (p : Int) = 2)]
    obtain ⟨r, hr, e⟩ := emod_cast (n := n) (by omega : 0 < p)
    have h1 : 1 ≤ r := by
      rcases Nat.eq_zero_or_pos r with z | z
      · rw [z] at e
        exact absurd e h0
      · exact z
    have h2 := (euler_at h h1 hr).1
    rw [half_cast p (by omega), pow_rest _ e, e]
    by_cases c : r ^ ((p - 1) / 2) % p = 1
    · rw [if_pos (h2.mp c), if_pos (by rw [c]; rfl)]
    · rw [if_neg (fun z => c (h2.mpr z)), if_neg (fun z => c (by omega))]
theorem sign_eq2 (n : Int) : restSign n 2 = lawSign n 2 := by
  unfold restSign lawSign
  rfl
theorem sign_mul {p : Nat} (hp : 3 ≤ p) (h : euler p = true) (hq : PrP p) (a b : Int) : restSign (a * b) p = restSign a p * restSign b p := by
  unfold restSign
  have hn : ¬ (p : Int) = 2 := by omega
  by_cases ha : a % p = 0
  · have hab : a * b % p = 0 := Int.emod_eq_zero_of_dvd (Int.dvd_mul_of_dvd_left (Int.dvd_of_emod_eq_zero ha))
    rw [if_pos ha, if_pos hab, Int.zero_mul]
  · by_cases hb : b % p = 0
    · have hab : a * b % p = 0 := Int.emod_eq_zero_of_dvd (Int.dvd_mul_of_dvd_right (Int.dvd_of_emod_eq_zero hb))
      rw [if_pos hb, if_pos hab, Int.mul_zero]
    · have hab : ¬ a * b % p = 0 := fun z => by
        rcases prime_mul hq (Int.dvd_of_emod_eq_zero z) with y | y
        · exact ha (Int.emod_eq_zero_of_dvd y)
        · exact hb (Int.emod_eq_zero_of_dvd y)
      rw [if_neg ha, if_neg hb, if_neg hab, if_neg hn, if_neg hn, if_neg hn, half_cast p (by omega)]
      obtain ⟨r, hr, er⟩ := emod_cast (n := a) (by omega : 0 < p)
      obtain ⟨t, ht, et⟩ := emod_cast (n := b) (by omega : 0 < p)
      have r1 : 1 ≤ r := by
        rcases Nat.eq_zero_or_pos r with z | z
        · rw [z] at er
          exact absurd er ha
        · exact z
      have t1 : 1 ≤ t := by
        rcases Nat.eq_zero_or_pos t with z | z
        · rw [z] at et
          exact absurd et hb
        · exact z
      have e1 := (euler_at h r1 hr).2
      have e2 := (euler_at h t1 ht).2
      have p1 := pow_rest ((p - 1) / 2) er
      have p2 := pow_rest ((p - 1) / 2) et
      have pm : (a * b) ^ ((p - 1) / 2) % p = ((a ^ ((p - 1) / 2) % p) * (b ^ ((p - 1) / 2) % p)) % p := by rw [Int.mul_pow, Int.mul_emod]
      have c1 : ((p - 1 : Nat) : Int) = (p : Int) - 1 := by omega
      have q1 : ((p : Int) - 1) * ((p : Int) - 1) % p = 1 := by
        have : ((p : Int) - 1) * ((p : Int) - 1) = 1 + p * (p - 2) := by
          have e3 : (p : Int) * (p - 2) = p * p - p * 2 := Int.mul_sub ..
          rw [e3, Int.sub_mul, Int.mul_sub]
          omega
        rw [this, Int.add_mul_emod_self_left]
        exact Int.emod_eq_of_lt (by omega) (by omega)
      have q2 : ((p : Int) - 1) % p = p - 1 := Int.emod_eq_of_lt (by omega) (by omega)
      have n1 : ¬ ((p : Int) - 1) = 1 := by omega
      rw [pm, p1, p2]
      rcases e1 with e1 | e1 <;> rcases e2 with e2 | e2 <;> rw [e1, e2]
      · have : ((1 : Nat) : Int) * ((1 : Nat) : Int) % p = 1 := Int.emod_eq_of_lt (by decide) (by show (1 : Int) < p; omega)
        rw [this]
        rfl
      · rw [c1, show ((1 : Nat) : Int) * ((p : Int) - 1) = p - 1 by omega, q2, if_neg n1]
        rfl
      · rw [c1, show ((p : Int) - 1) * ((1 : Nat) : Int) = p - 1 by omega, q2, if_neg n1]
        rfl
      · rw [c1, q1, if_neg n1]
        rfl
theorem sign_mul2 (a b : Int) : restSign (a * b) 2 = restSign a 2 * restSign b 2 := by
  have key : ∀ r : Fin 8, ∀ t : Fin 8, restSign ((r.val : Int) * (t.val : Int)) 2 = restSign r.val 2 * restSign t.val 2 := by decide +kernel
  have red : ∀ n : Int, restSign n 2 = restSign (n % 8) 2 := fun n => by
    unfold restSign
    have h1 : n % 8 % 2 = n % 2 := by omega
    have h2 : n % 8 % 8 = n % 8 := by omega
    rw [h1, h2]
    rfl
  have k2 : ∀ n : Int, ∃ r : _root_.Fin 8, n % 8 = (r.val : Int) := fun n => ⟨⟨(n % 8).toNat, by omega⟩, by show n % 8 = ((n % 8).toNat : Int); omega⟩
  obtain ⟨r, hr⟩ := k2 a
  obtain ⟨t, ht⟩ := k2 b
  rw [red (a * b), Int.mul_emod, ← red, red a, red b, hr, ht]
  exact key r t
end Sf

namespace Sf
open PySem PySem.Spec PyProof.Rows L2
/-! lists and tuples of ints as data -/
theorem lay_ints : ∀ ns : List Int, PyData.canLayAll0 (ns.map PyData.int) = true ∧ PyData.depthAll (ns.map PyData.int) = 0
  | [] => ⟨rfl, rfl⟩
  | n :: ns => by
    obtain ⟨h1, h2⟩ := lay_ints ns
    refine ⟨?_, ?_⟩
    · show (true && PyData.canLayAll0 (ns.map PyData.int)) = true
      rw [h1]
      rfl
    · show max 0 (PyData.depthAll (ns.map PyData.int)) = 0
      rw [h2]
      rfl
theorem shp_list (ns : List Int) : SeqAt.shaped (.list (ns.map PyData.int)) = true := by
  obtain ⟨h1, h2⟩ := lay_ints ns
  show (PyData.canLayAll0 (ns.map PyData.int) && decide (PyData.depthAll (ns.map PyData.int) + 1 ≤ 64)) = true
  rw [h1, h2]
  rfl
theorem shp_tup (ns : List Int) : SeqAt.shaped (.tuple (ns.map PyData.int)) = true := by
  obtain ⟨h1, h2⟩ := lay_ints ns
  show (PyData.canLayAll0 (ns.map PyData.int) && decide (PyData.depthAll (ns.map PyData.int) + 1 ≤ 64)) = true
  rw [h1, h2]
  rfl
theorem eqv_ints : ∀ a b : List Int, PyData.eqvAll (a.map PyData.int) (b.map PyData.int) = decide (a = b)
  | [], [] => rfl
  | [], _ :: _ => rfl
  | _ :: _, [] => rfl
  | x :: a, y :: b => by
    show ((x == y) && PyData.eqvAll (a.map PyData.int) (b.map PyData.int)) = _
    rw [eqv_ints a b, Bool.eq_iff_iff]
    simp only [Bool.and_eq_true, beq_iff_eq, decide_eq_true_eq, List.cons.injEq]
theorem dpAll_ints (K : PySem.W.Frag) (H : Hp) : ∀ ns : List Int, DpAll K H (ns.map V.int) (ns.map PyData.int)
  | [] => .nil
  | n :: ns => .cons (.int n) (dpAll_ints K H ns)
theorem dp_list {K : PySem.W.Frag} {H : Hp} {a : Addr} {ns : List Int} (h : SqL K H a (ns.map V.int)) : Dp K H (.ref a) (.list (ns.map PyData.int)) := .lst h (dpAll_ints K H ns)
theorem dp_tup {K : PySem.W.Frag} {H : Hp} {a : Addr} {ns : List Int} (h : SqT K H a (ns.map V.int)) : Dp K H (.ref a) (.tuple (ns.map PyData.int)) := .tup h (dpAll_ints K H ns)
end Sf

namespace Sf
theorem strip_unique {n p : Int} (hp : PrP p) {m m' : Nat} {u u' : Int} (h : Strip n p m u) (h' : Strip n p m' u') : m = m' ∧ u = u' :=
  pow_cancel hp (fun z => h.2 (Int.emod_eq_zero_of_dvd z)) (fun z => h'.2 (Int.emod_eq_zero_of_dvd z)) (h.1.symm.trans h'.1)
theorem strip_ne {n p : Int} {m : Nat} {u : Int} (h : Strip n p m u) : u ≠ 0 := fun z => h.2 (by rw [z]; exact Int.zero_emod _)
theorem strip_le {n p : Int} (hp : 2 ≤ p) {m : Nat} {u : Int} (h : Strip n p m u) : u.natAbs ≤ n.natAbs ∧ (m : Int) < n.natAbs + 1 := by
  have h1 := h.1
  have hu := strip_ne h
  have hpm : 0 < p ^ m := pow_pos_int (by omega) m
  have e : n.natAbs = (p ^ m).natAbs * u.natAbs := by rw [h1]; exact Int.natAbs_mul _ _
  have g1 : 1 ≤ (p ^ m).natAbs := by omega
  have g2 : 1 ≤ u.natAbs := by omega
  have g3 : 1 * u.natAbs ≤ (p ^ m).natAbs * u.natAbs := Nat.mul_le_mul_right _ g1
  have g4 : (p ^ m).natAbs * 1 ≤ (p ^ m).natAbs * u.natAbs := Nat.mul_le_mul_left _ g2
  have g5 := nat_lt_pow hp m
  omega
/-- the sign at a prime by what is stripped -/
def sgnAt (p : Int) (s t : Nat) (u v : Int) : Int :=
  if p = 2 then (if ((u - 1) / 2 * ((v - 1) / 2) + s * ((v * v - 1) / 8) + t * ((u * u - 1) / 8)) % 2 = 1 then -1 else 1)
  else (if s * t % 2 = 1 then restSign (-1) p else 1) * (if t % 2 = 1 then restSign u p else 1) * (if s % 2 = 1 then restSign v p else 1)
def HSign (a b p r : Int) : Prop := (p = 0 ∧ r = if a < 0 ∧ b < 0 then -1 else 1) ∨ (p ≠ 0 ∧ ∃ (s t : Nat) (u v : Int), Strip a p s u ∧ Strip b p t v ∧ r = sgnAt p s t u v)
theorem hsign_unique {a b p r r' : Int} (hp : p = 0 ∨ PrP p) (h : HSign a b p r) (h' : HSign a b p r') : r = r' := by
  rcases h with ⟨h0, h1⟩ | ⟨h0, s, t, u, v, h1, h2, h3⟩
  · rcases h' with ⟨_, g1⟩ | ⟨g0, _⟩
    · rw [h1, g1]
    · exact absurd h0 g0
  · rcases h' with ⟨g0, _⟩ | ⟨_, s', t', u', v', g1, g2, g3⟩
    · exact absurd g0 h0
    · have hp := hp.resolve_left h0
      obtain ⟨e1, e2⟩ := strip_unique hp h1 g1
      obtain ⟨e3, e4⟩ := strip_unique hp h2 g2
      rw [h3, g3, e1, e2, e3, e4]
theorem sgnAt_comm (p : Int) (s t : Nat) (u v : Int) : sgnAt p s t u v = sgnAt p t s v u := by
  unfold sgnAt
  by_cases h : p = 2
  · rw [if_pos h, if_pos h]
    have e : (u - 1) / 2 * ((v - 1) / 2) + s * ((v * v - 1) / 8) + t * ((u * u - 1) / 8) = (v - 1) / 2 * ((u - 1) / 2) + t * ((u * u - 1) / 8) + s * ((v * v - 1) / 8) := by
      rw [Int.mul_comm ((u - 1) / 2)]
      omega
    rw [e]
  · rw [if_neg h, if_neg h, Nat.mul_comm s t, Int.mul_assoc, Int.mul_assoc]
    congr 1
    exact Int.mul_comm _ _
theorem hsign_comm {a b p r : Int} (h : HSign a b p r) : HSign b a p r := by
  rcases h with ⟨h0, h1⟩ | ⟨h0, s, t, u, v, h1, h2, h3⟩
  · refine .inl ⟨h0, ?_⟩
    rw [h1]
    by_cases c : a < 0 ∧ b < 0
    · rw [if_pos c, if_pos c.symm]
    · rw [if_neg c, if_neg (fun z => c z.symm)]
  · exact .inr ⟨h0, t, s, v, u, h2, h1, by rw [h3]; exact sgnAt_comm ..⟩
theorem rest_small (n p : Int) : -1 ≤ restSign n p ∧ restSign n p ≤ 1 := by
  unfold restSign
  split
  · decide
  · split
    · split <;> decide
    · split <;> decide
end Sf

namespace Sf
open PySem PySem.Spec PyProof.Rows L2
section
variable {P : Program} {w : World} {K : PySem.W.Frag} {mg : Str → Option Value} {base : Heap} {f : Addr} {fd : FuncData}
def spQuarter : Sp := fun vs H Q _ => ∃ u : Int, vs = [.int u] ∧ Q (.int ((u - 1) / 2)) H
theorem ok_quarter (F : FnD K "quarter" "quarter" s_P_quarter f fd) : FnOk P w K mg base CX0 1 f fd ["unit"] spQuarter := by
  refine F.ok sc_P_quarter (fun vs H Q E h => ?_) (fun cdv A outer s H vs Q E hr h => ?_)
  · obtain ⟨n, rfl, _⟩ := h; rfl
  · obtain ⟨n, rfl, q⟩ := h
    refine ⟨_, PSs.nox (pss_one (ps_ret (pe_op op_fdivW (pe_op op_sub (pv 0) pe_int) pe_int))), ?_⟩
    exact ⟨_, rfl, _, _, rfl, rfl, _, _, rfl, rfl, CDivW.of (by decide) (by decide +kernel), q⟩
def spEighth : Sp := fun vs H Q _ => ∃ u : Int, vs = [.int u] ∧ u.natAbs < 2 ^ 3000 ∧ Q (.int ((u * u - 1) / 8)) H
theorem ok_eighth (F : FnD K "eighth" "eighth" s_P_eighth f fd) : FnOk P w K mg base CX0 1 f fd ["unit"] spEighth := by
  refine F.ok sc_P_eighth (fun vs H Q E h => ?_) (fun cdv A outer s H vs Q E hr h => ?_)
  · obtain ⟨n, rfl, _⟩ := h; rfl
  · obtain ⟨n, rfl, hb, q⟩ := h
    refine ⟨_, PSs.nox (pss_one (ps_ret (pe_op op_fdivW (pe_op op_sub (pe_op op_mulW (pv 0) (pv 0)) pe_int) pe_int))), ?_⟩
    exact ⟨_, rfl, _, rfl, _, _, rfl, rfl, CMulW.of hb hb, _, _, rfl, rfl, _, _, rfl, rfl, CDivW.of (by decide) (by decide +kernel), q⟩
structure SgnP (two : Bool) (vs : List V) (H : Hp) (Q : VK) : Prop where
  ex : ∃ a b p : Int, vs = (if two then [.int a, .int b] else [.int a, .int b, .int p]) ∧ (two = true → p = 2) ∧ (two = false → p ≠ 2) ∧ a ≠ 0 ∧ b ≠ 0 ∧ a.natAbs ≤ 1000000000 ∧ b.natAbs ≤ 1000000000 ∧ 2 ≤ p ∧ p ≤ 1000000000 ∧
    ∀ (s t : Nat) (u v : Int) (H' : Hp), Strip a p s u → Strip b p t v → Same H H' → Q (.int (sgnAt p s t u v)) H'
def spSgn (two : Bool) : Sp := fun vs H Q _ => SgnP two vs H Q
theorem small_mul {a b A B : Int} (ha : a.natAbs ≤ A.natAbs) (hb : b.natAbs ≤ B.natAbs) : (a * b).natAbs ≤ (A * B).natAbs := by
  rw [Int.natAbs_mul, Int.natAbs_mul]
  exact Nat.mul_le_mul ha hb
theorem ok_sign_at_two (F : FnD K "sign_at_two" "sign_at_two" s_P_sign_at_two f fd) (C_P_stripped : Cal P w K mg base 1 "stripped" ["number", "prime"] spStripped) (C_P_quarter : Cal P w K mg base 1 "quarter" ["unit"] spQuarter) (C_P_eighth : Cal P w K mg base 1 "eighth" ["unit"] spEighth) :
    FnOk P w K mg base CX0 2 f fd ["a", "b"] (spSgn true) := by
  refine F.ok sc_P_sign_at_two (fun vs H Q E h => ?_) (fun cdv A outer s H vs Q E hr h => ?_)
  · obtain ⟨a, b, p, rfl, _⟩ := h.ex; rfl
  · obtain ⟨a, b, p, rfl, h2, _, a0, b0, a1, b1, _, _, q⟩ := h.ex
    obtain rfl : p = 2 := h2 rfl
    refine ⟨_, PSs.nox (pss_cons (ps_asg (pe_cal C_P_stripped (hr.mono (by decide)) (pa_cons (pv 0) (pa_cons pe_int pa_nil))) (pg_tup (by rfl) (pgs_cons (pg_name (i := 2) sc_P_sign_at_two.nd rfl (Or.inl rfl)) (pgs_cons (pg_name (i := 3) sc_P_sign_at_two.nd rfl (Or.inl rfl)) pgs_nil))))
      (pss_cons (ps_asg (pe_cal C_P_stripped (hr.mono (by decide)) (pa_cons (pv 1) (pa_cons pe_int pa_nil))) (pg_tup (by rfl) (pgs_cons (pg_name (i := 4) sc_P_sign_at_two.nd rfl (Or.inl rfl)) (pgs_cons (pg_name (i := 5) sc_P_sign_at_two.nd rfl (Or.inl rfl)) pgs_nil))))
      (pss_cons (ps_set (i := 6) sc_P_sign_at_two.nd rfl (Or.inl rfl) (pe_op op_add (pe_op op_add (pe_op op_mulW (pe_cal C_P_quarter (hr.mono (by decide)) (pa_cons (pv 3) pa_nil)) (pe_cal C_P_quarter (hr.mono (by decide)) (pa_cons (pv 5) pa_nil))) (pe_op op_mulW (pv 2) (pe_cal C_P_eighth (hr.mono (by decide)) (pa_cons (pv 5) pa_nil)))) (pe_op op_mulW (pv 4) (pe_cal C_P_eighth (hr.mono (by decide)) (pa_cons (pv 3) pa_nil)))))
      (pss_one (ps_ret (pe_ifExp (pt_cmp (pc_eqI (pe_op op_mod (pv 6) pe_int) pe_int)) (pe_un un_neg pe_int) pe_int)))))), ?_⟩
    have tb : (2 : Int).natAbs < 2 ^ 3000 := by decide +kernel
    refine ⟨_, rfl, a, 2, rfl, a0, by decide, tb, fun s u x1 st1 hx1 => ⟨x1, _, rfl, .inl (.inl upd_same), rfl, _, _, rfl, _, _, rfl, rfl, ?_⟩⟩
    refine ⟨_, rfl, b, 2, rfl, b0, by decide, tb, fun t v x2 st2 hx2 => ⟨x2, _, rfl, .inl (.inl upd_same), rfl, _, _, rfl, _, _, rfl, rfl, ?_⟩⟩
    have l1 := strip_le (by decide) st1
    have l2 := strip_le (by decide) st2
    have ub : u.natAbs < 2 ^ 3000 := lt3000s (by omega) (by omega)
    have vb : v.natAbs < 2 ^ 3000 := lt3000s (by omega) (by omega)
    have uu : (u * u).natAbs ≤ 1000000000000000000 := by
      have := small_mul (a := u) (b := u) (A := 1000000000) (B := 1000000000) (by omega) (by omega)
      exact this
    have vv : (v * v).natAbs ≤ 1000000000000000000 := by
      have := small_mul (a := v) (b := v) (A := 1000000000) (B := 1000000000) (by omega) (by omega)
      exact this
    refine ⟨_, rfl, u, rfl, _, rfl, v, rfl, _, _, rfl, rfl, CMulW.of (lt3000s (by omega) (by omega)) (lt3000s (by omega) (by omega)), _, rfl, _, rfl, v, rfl, vb, _, _, rfl, rfl, CMulW.of (lt3000s (by omega) (by omega)) (lt3000s (by omega) (by omega)), _, _, rfl, rfl, _, rfl, _, rfl, u, rfl, ub, _, _, rfl, rfl, CMulW.of (lt3000s (by omega) (by omega)) (lt3000s (by omega) (by omega)), _, _, rfl, rfl, ?_⟩
    have z := q s t u v (upd (upd H x1 (.tup [.int s, .int u])) x2 (.tup [.int t, .int v])) st1 st2 ((same_upd hx1).trans (same_upd hx2))
    unfold sgnAt at z
    rw [if_pos rfl] at z
    refine ⟨_, rfl, _, _, rfl, rfl, (by show (0 : Int) < 2; decide), _, _, rfl, rfl, _, rfl, ifd (fun h => ?_) (fun h => ?_)⟩
    · rw [if_pos h] at z
      exact ⟨_, rfl, z⟩
    · rw [if_neg h] at z
      exact z
theorem mul1 (a : Int) : 1 * a = a := Int.one_mul a
theorem ok_sign_at_odd (F : FnD K "sign_at_odd" "sign_at_odd" s_P_sign_at_odd f fd) (C_P_stripped : Cal P w K mg base 1 "stripped" ["number", "prime"] spStripped) (C_P_rest_sign : Cal P w K mg base 2 "rest_sign" ["number", "prime"] spRestSign) :
    FnOk P w K mg base CX0 3 f fd ["a", "b", "prime"] (spSgn false) := by
  refine F.ok sc_P_sign_at_odd (fun vs H Q E h => ?_) (fun cdv A outer s H vs Q E hr h => ?_)
  · obtain ⟨a, b, p, rfl, _⟩ := h.ex; rfl
  · obtain ⟨a, b, p, rfl, _, hp2, a0, b0, a1, b1, p2, p9, q⟩ := h.ex
    have pn : p ≠ 2 := hp2 rfl
    refine ⟨_, PSs.nox (pss_cons (ps_asg (pe_cal C_P_stripped (hr.mono (by decide)) (pa_cons (pv 0) (pa_cons (pv 2) pa_nil))) (pg_tup (by rfl) (pgs_cons (pg_name (i := 3) sc_P_sign_at_odd.nd rfl (Or.inl rfl)) (pgs_cons (pg_name (i := 4) sc_P_sign_at_odd.nd rfl (Or.inl rfl)) pgs_nil))))
      (pss_cons (ps_asg (pe_cal C_P_stripped (hr.mono (by decide)) (pa_cons (pv 1) (pa_cons (pv 2) pa_nil))) (pg_tup (by rfl) (pgs_cons (pg_name (i := 5) sc_P_sign_at_odd.nd rfl (Or.inl rfl)) (pgs_cons (pg_name (i := 6) sc_P_sign_at_odd.nd rfl (Or.inl rfl)) pgs_nil))))
      (pss_cons (ps_set (i := 7) sc_P_sign_at_odd.nd rfl (Or.inl rfl) pe_int)
      (Evl.pss_cut (ps_if (pt_cmp (pc_eqI (pe_op op_mod (pe_op op_mulW (pv 3) (pv 5)) pe_int) pe_int)) (pss_one (ps_set (i := 7) sc_P_sign_at_odd.nd rfl (Or.inl rfl) (pe_op op_mulW (pv 7) (pe_cal C_P_rest_sign (hr.mono (by decide)) (pa_cons (pe_un un_neg pe_int) (pa_cons (pv 2) pa_nil)))))) pss_nil)
      (Evl.pss_cut (ps_if (pt_cmp (pc_eqI (pe_op op_mod (pv 5) pe_int) pe_int)) (pss_one (ps_set (i := 7) sc_P_sign_at_odd.nd rfl (Or.inl rfl) (pe_op op_mulW (pv 7) (pe_cal C_P_rest_sign (hr.mono (by decide)) (pa_cons (pv 4) (pa_cons (pv 2) pa_nil)))))) pss_nil)
      (pss_cons (ps_if (pt_cmp (pc_eqI (pe_op op_mod (pv 3) pe_int) pe_int)) (pss_one (ps_set (i := 7) sc_P_sign_at_odd.nd rfl (Or.inl rfl) (pe_op op_mulW (pv 7) (pe_cal C_P_rest_sign (hr.mono (by decide)) (pa_cons (pv 6) (pa_cons (pv 2) pa_nil)))))) pss_nil)
      (pss_one (ps_ret (pv 7))))))))), ?_⟩
    have tb : p.natAbs < 2 ^ 3000 := lt3000s (by omega) (by omega)
    have tb1 : p.natAbs < 2 ^ 1000 := Nat.lt_trans (by omega : p.natAbs < 2000000000) (by decide +kernel)
    refine ⟨_, rfl, _, rfl, a, p, rfl, a0, p2, tb, fun s u x1 st1 hx1 => ⟨x1, _, rfl, .inl (.inl upd_same), rfl, _, _, rfl, _, _, rfl, rfl, ?_⟩⟩
    refine ⟨_, rfl, _, rfl, b, p, rfl, b0, p2, tb, fun t v x2 st2 hx2 => ⟨x2, _, rfl, .inl (.inl upd_same), rfl, _, _, rfl, _, _, rfl, rfl, ?_⟩⟩
    have l1 := strip_le p2 st1
    have l2 := strip_le p2 st2
    have k0 : Same H (upd (upd H x1 (.tup [.int s, .int u])) x2 (.tup [.int t, .int v])) := (same_upd hx1).trans (same_upd hx2)
    have est : ((s : Int) * (t : Int)) = ((s * t : Nat) : Int) := (Int.natCast_mul s t).symm
    have hst : ((s : Int) * (t : Int)) % 2 = 1 ↔ s * t % 2 = 1 := by rw [est]; omega
    have r1 := rest_small (-1) p
    have r2 := rest_small u p
    have r3 := rest_small v p
    have z := fun H' k => q s t u v H' st1 st2 k
    unfold sgnAt at z
    rw [if_neg pn] at z
    refine ⟨fun σ' H' => σ' = [some (.int a), some (.int b), some (.int p), some (.int s), some (.int u), some (.int t), some (.int v), some (.int (if s * t % 2 = 1 then restSign (-1) p else 1))] ∧ Same H H', ?_, ?_⟩
    · refine ⟨_, rfl, _, rfl, _, _, rfl, rfl, CMulW.of (lt3000s (by omega) (by omega)) (lt3000s (by omega) (by omega)), _, _, rfl, rfl, (by show (0 : Int) < 2; decide), _, _, rfl, rfl, _, rfl, ifd (fun h => ?_) (fun h => ?_)⟩
      · have h' := hst.mp h
        rw [if_pos h']
        exact ⟨_, rfl, 1, rfl, _, rfl, -1, p, rfl, p2, tb1, fun H' k => ⟨_, _, rfl, rfl, CMulW.of (lt3000s (by decide) (by decide)) (lt3000s (by omega) (by omega)), (by show [some (V.int a), some (.int b), some (.int p), some (.int s), some (.int u), some (.int t), some (.int v), some (.int (1 * restSign (-1) p))] = _; rw [mul1]), k0.trans k⟩⟩
      · have h' := fun z => h (hst.mpr z)
        rw [if_neg h']
        exact ⟨rfl, k0⟩
    rintro σ' H1 ⟨rfl, k1⟩
    have b1 : -1 ≤ (if s * t % 2 = 1 then restSign (-1) p else 1) ∧ (if s * t % 2 = 1 then restSign (-1) p else 1) ≤ 1 := by split <;> omega
    have b2 : -1 ≤ (if t % 2 = 1 then restSign u p else 1) ∧ (if t % 2 = 1 then restSign u p else 1) ≤ 1 := by split <;> omega
    generalize (if s * t % 2 = 1 then restSign (-1) p else 1) = x at z b1
    refine ⟨fun σ' H' => σ' = [some (.int a), some (.int b), some (.int p), some (.int s), some (.int u), some (.int t), some (.int v), some (.int (x * (if t % 2 = 1 then restSign u p else 1)))] ∧ Same H H', ?_, ?_⟩
    · refine ⟨_, rfl, _, _, rfl, rfl, (by show (0 : Int) < 2; decide), _, _, rfl, rfl, _, rfl, ifd (fun h => ?_) (fun h => ?_)⟩
      · have h' : t % 2 = 1 := by omega
        rw [if_pos h']
        exact ⟨_, rfl, _, rfl, _, rfl, u, p, rfl, p2, tb1, fun H' k => ⟨_, _, rfl, rfl, CMulW.of (lt3000s (by omega) (by omega)) (lt3000s (by omega) (by omega)), rfl, k1.trans k⟩⟩
      · have h' : ¬ t % 2 = 1 := by omega
        rw [if_neg h', Int.mul_one]
        exact ⟨rfl, k1⟩
    rintro σ' H2 ⟨rfl, k2⟩
    generalize (if t % 2 = 1 then restSign u p else 1) = y at z b2
    have b3 : (x * y).natAbs ≤ 1 := small_mul (A := 1) (B := 1) (by omega) (by omega)
    refine ⟨_, rfl, _, _, rfl, rfl, (by show (0 : Int) < 2; decide), _, _, rfl, rfl, _, rfl, ifd (fun h => ?_) (fun h => ?_)⟩
    · have h' : s % 2 = 1 := by omega
      rw [if_pos h'] at z
      exact ⟨_, rfl, _, rfl, _, rfl, v, p, rfl, p2, tb1, fun H' k => ⟨_, _, rfl, rfl, CMulW.of (lt3000s (by omega) (by omega)) (lt3000s (by omega) (by omega)), _, rfl, z _ (k2.trans k)⟩⟩
    · have h' : ¬ s % 2 = 1 := by omega
      rw [if_neg h', Int.mul_one] at z
      exact ⟨_, rfl, z _ k2⟩
structure SignP (vs : List V) (H : Hp) (Q : VK) : Prop where
  ex : ∃ a b p : Int, vs = [.int a, .int b, .int p] ∧ a ≠ 0 ∧ b ≠ 0 ∧ a.natAbs ≤ 1000000000 ∧ b.natAbs ≤ 1000000000 ∧ (p = 0 ∨ PrP p ∧ p ≤ 1000000000) ∧ ∀ (r : Int) (H' : Hp), HSign a b p r → Same H H' → Q (.int r) H'
def spSign : Sp := fun vs H Q _ => SignP vs H Q
theorem ok_sign (F : FnD K "sign" "sign" s_P_sign f fd) (C_P_sign_at_two : Cal P w K mg base 2 "sign_at_two" ["a", "b"] (spSgn true)) (C_P_sign_at_odd : Cal P w K mg base 3 "sign_at_odd" ["a", "b", "prime"] (spSgn false)) :
    FnOk P w K mg base CX0 4 f fd ["a", "b", "place"] spSign := by
  refine F.ok sc_P_sign (fun vs H Q E h => ?_) (fun cdv A outer s H vs Q E hr h => ?_)
  · obtain ⟨a, b, p, rfl, _⟩ := h.ex; rfl
  · obtain ⟨a, b, p, rfl, a0, b0, a1, b1, hp, q⟩ := h.ex
    refine ⟨_, PSs.nox (pss_cons (ps_if (pt_cmp (pc_eqI (pv 2) pe_int)) (pss_one (ps_ret (pe_ifExp (PW.pt (pw_and (pt_cmp (pc_lt (pv 0) pe_int)) (pw_and1 (pt_cmp (pc_lt (pv 1) pe_int))))) (pe_un un_neg pe_int) pe_int))) pss_nil)
      (pss_cons (ps_if (pt_cmp (pc_eqI (pv 2) pe_int)) (pss_one (ps_ret (pe_cal C_P_sign_at_two (hr.mono (by decide)) (pa_cons (pv 0) (pa_cons (pv 1) pa_nil))))) pss_nil)
      (pss_one (ps_ret (pe_cal C_P_sign_at_odd (hr.mono (by decide)) (pa_cons (pv 0) (pa_cons (pv 1) (pa_cons (pv 2) pa_nil)))))))), ?_⟩
    refine ⟨_, rfl, _, _, rfl, rfl, _, rfl, ifd (fun h => ?_) (fun h => ?_)⟩
    · have z := fun r e => q r H (.inl ⟨h, e⟩) (Same.refl H)
      refine ⟨_, rfl, _, _, rfl, rfl, _, rfl, ifd (fun h1 => ⟨_, rfl, _, _, rfl, rfl, _, rfl, ifd (fun h2 => ?_) (fun h2 => ?_)⟩) (fun h1 => ?_)⟩
      · exact ⟨_, rfl, z _ (by rw [if_pos ⟨h1, h2⟩])⟩
      · exact z _ (by rw [if_neg (fun c => h2 c.2)])
      · exact z _ (by rw [if_neg (fun c => h1 c.1)])
    · have hp := hp.resolve_left h
      have p2 := hp.1.1
      refine ⟨_, rfl, _, _, rfl, rfl, _, rfl, ifd (fun h2 => ?_) (fun h2 => ?_)⟩
      · have h2 : p = 2 := h2
        subst h2
        exact ⟨_, rfl, _, rfl, ⟨a, b, 2, rfl, fun _ => rfl, fun z => Bool.noConfusion z, a0, b0, a1, b1, by decide, by decide, fun s t u v H' h3 h4 k => q _ H' (.inr ⟨h, s, t, u, v, h3, h4, rfl⟩) k⟩⟩
      · exact ⟨_, rfl, _, rfl, _, rfl, ⟨a, b, p, rfl, fun z => Bool.noConfusion z, fun _ => h2, a0, b0, a1, b1, p2, hp.2, fun s t u v H' h3 h4 k => q _ H' (.inr ⟨h, s, t, u, v, h3, h4, rfl⟩) k⟩⟩
end
end Sf

namespace Sf
open PySem PySem.Spec PyProof.Rows L2
theorem strip_exists {n p : Int} (hn : n ≠ 0) (hp : 2 ≤ p) : ∃ (m : Nat) (u : Int), Strip n p m u := by
  generalize hN : n.natAbs = N
  induction N using Nat.strongRecOn generalizing n with
  | ind N ih =>
    by_cases h : n % p = 0
    · obtain ⟨l1, l2, l3⟩ := strip_less hn hp h
      obtain ⟨m, u, e, hu⟩ := ih _ (by omega) l2 rfl
      refine ⟨m + 1, u, ?_, hu⟩
      rw [Int.pow_succ, Int.mul_comm (p ^ m) p, Int.mul_assoc, ← e]
      exact l3
    · exact ⟨0, n, by rw [Int.pow_zero, Int.one_mul], h⟩
theorem odd_sq8 {w : Int} (h : w % 2 ≠ 0) : w * w % 8 = 1 := by
  have h1 : w % 8 = 1 ∨ w % 8 = 3 ∨ w % 8 = 5 ∨ w % 8 = 7 := by omega
  rw [Int.mul_emod]
  rcases h1 with e | e | e | e <;> rw [e] <;> decide
/-- the same unit, up to what the sign sees -/
def Alike (p u v : Int) : Prop := if p = 2 then u % 8 = v % 8 else restSign u p = restSign v p
theorem half_par {u v : Int} (h : u % 8 = v % 8) : ((u - 1) / 2) % 2 = ((v - 1) / 2) % 2 := by omega
theorem w_par {u v : Int} (h : u % 8 = v % 8) : ((u * u - 1) / 8) % 2 = ((v * v - 1) / 8) % 2 := by
  have e : u = v + 8 * ((u - v) / 8) := by omega
  generalize (u - v) / 8 = k at e
  have e2 : u * u = v * v + 16 * (v * k + 4 * (k * k)) := by rw [e]; grind
  omega
theorem par_mul (a b c d : Int) (h1 : a % 2 = c % 2) (h2 : b % 2 = d % 2) : (a * b) % 2 = (c * d) % 2 := by
  rw [Int.mul_emod, h1, h2, ← Int.mul_emod]
theorem sgn_congr {p : Int} {s t s' t' : Nat} {u v u' v' : Int} (hs : s % 2 = s' % 2) (ht : t % 2 = t' % 2) (hu : Alike p u u') (hv : Alike p v v') : sgnAt p s t u v = sgnAt p s' t' u' v' := by
  unfold sgnAt
  unfold Alike at hu hv
  by_cases h : p = 2
  · rw [if_pos h] at hu hv ⊢
    rw [if_pos h]
    have h1 := par_mul _ _ _ _ (half_par hu) (half_par hv)
    have h2 := par_mul (s : Int) ((v * v - 1) / 8) (s' : Int) ((v' * v' - 1) / 8) (by omega) (w_par hv)
    have h3 := par_mul (t : Int) ((u * u - 1) / 8) (t' : Int) ((u' * u' - 1) / 8) (by omega) (w_par hu)
    have e : ((u - 1) / 2 * ((v - 1) / 2) + s * ((v * v - 1) / 8) + t * ((u * u - 1) / 8)) % 2 = ((u' - 1) / 2 * ((v' - 1) / 2) + s' * ((v' * v' - 1) / 8) + t' * ((u' * u' - 1) / 8)) % 2 := by omega
    rw [e]
  · rw [if_neg h] at hu hv ⊢
    rw [if_neg h, hu, hv, hs, ht, Nat.mul_mod s t, hs, ht, ← Nat.mul_mod]
theorem rest_unit {w p : Int} (h : w % p ≠ 0) : restSign w p * restSign w p = 1 := by
  unfold restSign
  rw [if_neg h]
  split
  · split <;> decide
  · split <;> decide
theorem alike_sq {p u w : Int} (hp : PrP p) (he : p = 2 ∨ ∃ q : Nat, p = q ∧ 3 ≤ q ∧ euler q = true) (hw : w % p ≠ 0) : Alike p (u * (w * w)) u := by
  unfold Alike
  by_cases h : p = 2
  · rw [if_pos h, Int.mul_emod, odd_sq8 (by rw [← h]; exact hw), Int.mul_one, Int.emod_emod_of_dvd _ (Int.dvd_refl _)]
  · rw [if_neg h]
    obtain ⟨q, rfl, h3, e⟩ := he.resolve_left h
    rw [sign_mul h3 e hp, sign_mul h3 e hp, rest_unit hw, Int.mul_one]
theorem strip_sq {p n m k u u' : Int} {s s' : Nat} (hp : PrP p) (hk : k ≠ 0) (e : n = m * (k * k)) (h : Strip n p s u) (h' : Strip m p s' u') : ∃ w : Int, w % p ≠ 0 ∧ u = u' * (w * w) ∧ s % 2 = s' % 2 := by
  obtain ⟨c, w, hw⟩ := strip_exists hk hp.1
  refine ⟨w, hw.2, ?_⟩
  have hs : Strip n p (s' + 2 * c) (u' * (w * w)) := by
    constructor
    · rw [e, h'.1, hw.1, Int.pow_add, Nat.two_mul, Int.pow_add]
      grind
    · intro z
      have d := Int.dvd_of_emod_eq_zero z
      rcases prime_mul hp d with d | d
      · exact h'.2 (Int.emod_eq_zero_of_dvd d)
      · rcases prime_mul hp d with d | d <;> exact hw.2 (Int.emod_eq_zero_of_dvd d)
  obtain ⟨e1, e2⟩ := strip_unique hp h hs
  exact ⟨e2, by omega⟩
theorem hsign_bare {a b a' b' p r : Int} (hp : PrP p) (he : p = 2 ∨ ∃ q : Nat, p = q ∧ 3 ≤ q ∧ euler q = true) (ha : ∃ k, k ≠ 0 ∧ a = a' * (k * k)) (hb : ∃ k, k ≠ 0 ∧ b = b' * (k * k)) (a0 : a' ≠ 0) (b0 : b' ≠ 0) (h : HSign a b p r) : HSign a' b' p r := by
  have p2 := hp.1
  rcases h with ⟨h0, _⟩ | ⟨h0, s, t, u, v, h1, h2, h3⟩
  · omega
  · obtain ⟨s', u', g1⟩ := strip_exists a0 p2
    obtain ⟨t', v', g2⟩ := strip_exists b0 p2
    obtain ⟨k, k0, e⟩ := ha
    obtain ⟨j, j0, f⟩ := hb
    obtain ⟨w, w0, w1, w2⟩ := strip_sq hp k0 e h1 g1
    obtain ⟨x, x0, x1, x2⟩ := strip_sq hp j0 f h2 g2
    refine .inr ⟨h0, s', t', u', v', g1, g2, ?_⟩
    rw [h3]
    exact sgn_congr w2 x2 (by rw [w1]; exact alike_sq hp he w0) (by rw [x1]; exact alike_sq hp he x0)
theorem rest_mod {n p : Int} (h : p ≠ 2) : restSign (n % p) p = restSign n p := by
  unfold restSign
  rw [Int.emod_emod_of_dvd _ (Int.dvd_refl p), if_neg h, if_neg h, pow_mod]
end Sf

namespace Sf
open PySem PySem.Spec PyProof.Rows L2
/-- the ascending places where the sign is -1 -/
def PlacesOf (a b : Int) (l : List Int) : Prop := l.Pairwise (· < ·) ∧ ∀ p : Int, p ∈ l ↔ (p = 0 ∨ PrP p) ∧ HSign a b p (-1)
theorem asc_unique : ∀ {l m : List Int}, l.Pairwise (· < ·) → m.Pairwise (· < ·) → (∀ x, x ∈ l ↔ x ∈ m) → l = m
  | [], [], _, _, _ => rfl
  | [], y :: m, _, _, h => absurd ((h y).mpr List.mem_cons_self) (by simp)
  | x :: l, [], _, _, h => absurd ((h x).mp List.mem_cons_self) (by simp)
  | x :: l, y :: m, h1, h2, h => by
    obtain ⟨a1, a2⟩ := List.pairwise_cons.mp h1
    obtain ⟨b1, b2⟩ := List.pairwise_cons.mp h2
    have e : x = y := by
      have c1 := (h x).mp List.mem_cons_self
      have c2 := (h y).mpr List.mem_cons_self
      rcases List.mem_cons.mp c1 with c1 | c1
      · exact c1
      · rcases List.mem_cons.mp c2 with c2 | c2
        · exact c2.symm
        · have := a1 y c2
          have := b1 x c1
          omega
    subst e
    rw [asc_unique a2 b2 fun z => ?_]
    constructor
    · intro hz
      rcases List.mem_cons.mp ((h z).mp (List.mem_cons_of_mem _ hz)) with e | e
      · have := a1 z hz
        omega
      · exact e
    · intro hz
      rcases List.mem_cons.mp ((h z).mpr (List.mem_cons_of_mem _ hz)) with e | e
      · have := b1 z hz
        omega
      · exact e
theorem places_unique {a b : Int} {l m : List Int} (h : PlacesOf a b l) (h' : PlacesOf a b m) : l = m := asc_unique h.1 h'.1 fun x => (h.2 x).trans (h'.2 x).symm
/-- at an odd prime that divides neither number the sign is 1 -/
theorem sign_far {a b p r : Int} (hp : PrP p) (h2 : p ≠ 2) (ha : a % p ≠ 0) (hb : b % p ≠ 0) (h : HSign a b p r) : r = 1 := by
  rcases h with ⟨h0, _⟩ | ⟨_, s, t, u, v, g1, g2, g3⟩
  · have := hp.1
    omega
  · have e1 := strip_unique hp g1 ⟨by rw [Int.pow_zero, Int.one_mul], ha⟩
    have e2 := strip_unique hp g2 ⟨by rw [Int.pow_zero, Int.one_mul], hb⟩
    rw [g3, e1.1, e2.1]
    unfold sgnAt
    rw [if_neg h2]
    rfl
theorem hsign_some {a b p : Int} (ha : a ≠ 0) (hb : b ≠ 0) (hp : p = 0 ∨ PrP p) : ∃ r, HSign a b p r := by
  rcases hp with e | hp
  · exact ⟨_, .inl ⟨e, rfl⟩⟩
  · obtain ⟨s, u, h1⟩ := strip_exists ha hp.1
    obtain ⟨t, v, h2⟩ := strip_exists hb hp.1
    have := hp.1
    exact ⟨_, .inr ⟨by omega, s, t, u, v, h1, h2, rfl⟩⟩
theorem abs_mod {n p : Int} (h : absI n % p = 0) : n % p = 0 := by
  unfold absI at h
  split at h
  · have d := Int.dvd_of_emod_eq_zero h
    exact Int.emod_eq_zero_of_dvd ((Int.dvd_neg).mp d)
  · exact h
theorem mod_abs {n p : Int} (h : n % p = 0) : absI n % p = 0 := by
  unfold absI
  split
  · exact Int.emod_eq_zero_of_dvd ((Int.dvd_neg).mpr (Int.dvd_of_emod_eq_zero h))
  · exact h
/-- a prime divides a number exactly if it is one of its factors -/
theorem fact_keys {n p : Int} {l : List (Int × Nat)} (h : FactOf n l) (hp : PrP p) : p ∈ l.map (·.1) ↔ n % p = 0 := by
  constructor
  · intro hm
    obtain ⟨q, hq, e⟩ := List.mem_map.mp hm
    subst e
    obtain ⟨i, hi, e⟩ := List.mem_iff_getElem.mp hq
    obtain ⟨k, hk⟩ : ∃ k, q.2 = k + 1 := ⟨q.2 - 1, by have := (h.2.2 q hq).2; omega⟩
    have : ∀ (l : List (Int × Nat)), q ∈ l → q.1 ∣ prodF l := fun l hl => by
      induction l with
      | nil => cases hl
      | cons x l ih =>
        show q.1 ∣ x.1 ^ x.2 * prodF l
        rcases List.mem_cons.mp hl with e | e
        · subst e
          rw [hk, Int.pow_succ, Int.mul_assoc]
          exact Int.dvd_trans (Int.dvd_mul_right _ _) (Int.dvd_mul_left _ _)
        · exact Int.dvd_trans (ih e) (Int.dvd_mul_left _ _)
    have d := this l hq
    rw [h.1] at d
    exact Int.emod_eq_zero_of_dvd d
  · intro hm
    have d := Int.dvd_of_emod_eq_zero hm
    rw [← h.1] at d
    obtain ⟨e, he⟩ := prime_prodF hp h.2.2 d
    exact List.mem_map.mpr ⟨_, he, rfl⟩
/-- the places out of 0 and the divisors -/
theorem places_of {a b : Int} {la lb : List (Int × Nat)} {D : List Int} (ha : a ≠ 0) (hb : b ≠ 0) (fa : FactOf (absI a) la) (fb : FactOf (absI b) lb) (hD : D.Pairwise (· < ·)) (hm : ∀ k, k ∈ D ↔ k ∈ 2 :: (la.map (·.1) ++ lb.map (·.1)))
    : (∀ k ∈ 0 :: D, k = 0 ∨ PrP k) ∧ ∀ {l : List Int} (hl : l.Sublist (0 :: D)) (hs : ∀ k, k ∈ l ↔ k ∈ 0 :: D ∧ HSign a b k (-1)), PlacesOf a b l := by
  have hP : ∀ k ∈ 0 :: D, k = 0 ∨ PrP k := fun k hk => by
    rcases List.mem_cons.mp hk with e | e
    · exact .inl e
    · rcases List.mem_cons.mp ((hm k).mp e) with e | e
      · exact .inr (e ▸ prp_of_trial (d := 2) (by decide) (by decide) (fun k a b => by omega) (by decide))
      · rcases List.mem_append.mp e with e | e
        · obtain ⟨q, hq, e⟩ := List.mem_map.mp e
          exact .inr (e ▸ (fa.2.2 q hq).1)
        · obtain ⟨q, hq, e⟩ := List.mem_map.mp e
          exact .inr (e ▸ (fb.2.2 q hq).1)
  refine ⟨hP, fun {l} hl hs => ⟨?_, fun p => ?_⟩⟩
  · refine List.Pairwise.sublist hl (List.pairwise_cons.mpr ⟨fun k hk => ?_, hD⟩)
    rcases List.mem_cons.mp ((hm k).mp hk) with e | e
    · omega
    · rcases hP k (List.mem_cons_of_mem _ hk) with e2 | e2
      · rcases List.mem_append.mp e with e | e
        · obtain ⟨q, hq, e⟩ := List.mem_map.mp e
          have := (fa.2.2 q hq).1.1
          omega
        · obtain ⟨q, hq, e⟩ := List.mem_map.mp e
          have := (fb.2.2 q hq).1.1
          omega
      · have := e2.1
        omega
  · rw [hs]
    constructor
    · rintro ⟨h1, h2⟩
      exact ⟨hP p h1, h2⟩
    · rintro ⟨h1, h2⟩
      refine ⟨?_, h2⟩
      rcases h1 with e | hp
      · rw [e]
        exact List.mem_cons_self
      · by_cases c : p ∈ D
        · exact List.mem_cons_of_mem _ c
        · exfalso
          rw [hm, List.mem_cons, List.mem_append, fact_keys fa hp, fact_keys fb hp] at c
          have n2 : p ≠ 2 := fun z => c (.inl z)
          have := sign_far hp n2 (fun z => c (.inr (.inl (mod_abs z)))) (fun z => c (.inr (.inr (mod_abs z)))) h2
          exact absurd this (by decide)
end Sf

namespace Sf
open PySem PySem.Spec PyProof.Rows L2
section
variable {P : Program} {w : World} {A : Around} {E : Value → Shared → Prop} {s : Shared}
/-- a set that is just made -/
abbrev nso (w : World) : Obj := { cls := .type "set", dict := none, data := .set #[] 0 (.fresh 0 0 (!w.params.followText "set-order")) }
abbrev nsh (w : World) (s : Shared) : Heap := s.heap.push (nso w)
/-- the first half: the set's loop over a list of ints -/
theorem set_loop {l : Addr} {its : Array Value} (ns : List Int) (hh : A.handled = none) (hl : s.heap.IsList l its) (hi : IntsAre its.toList ns) (hb : ns.length + 1 < scanBound)
    {R : Result → Shared → Prop} (hR : ∀ (h' : Heap) (tk c : Nat), SetR w h' s.heap.objs.size (fun j => decide (j ∈ ns)) c → c ≤ ns.length → (∀ b o, s.heap.get? b = some o → h'.get? b = some o) → R (.ok (.ret .none)) { s with heap := h', toks := tk }) :
    codeAny (model P w) A (.builtin "set.update.loop" ⟨[.ref s.heap.objs.size, .ref (nsh w s).objs.size], []⟩) R { s with heap := (nsh w s).push { cls := .type "list_iterator", data := .fields #[.ref l, .int 0 0] } } := by
  have sz : its.size = ns.length := (Array.length_toList (xs := its)).symm.trans (IntsAre.length hi)
  obtain ⟨ol, ho, r⟩ := hl
  have lt : l < s.heap.objs.size := Heap.lt_size ho
  have e1 : (nsh w s).objs.size = s.heap.objs.size + 1 := Heap.size_push ..
  have n1 : l ≠ (nsh w s).objs.size := by rw [e1]; exact Nat.ne_of_lt (Nat.lt_succ_of_lt lt)
  have n2 : ¬ s.heap.objs.size ∈ [(nsh w s).objs.size, l] := by
    rw [e1]
    intro z
    rcases List.mem_cons.mp z with z | z
    · exact absurd z (Nat.ne_of_lt (Nat.lt_succ_self _))
    · exact absurd (List.mem_singleton.mp z) (Nat.ne_of_gt lt)
  have isl : (nsh w s).IsList l its := ⟨ol, Heap.get?_push_of_some _ ho, r⟩
  have hA : A.in1.handled = none := by simp [hh]
  refine set_update_ints ((Walks.list hA _ l n1 its).toS) s.heap.objs.size n2 ns sz hb (fun i v hv => ?_) (its.size - 0) 0 _ rfl (Nat.zero_le _) ⟨⟨_, Heap.get?_push_size _ rfl, rfl, rfl⟩, isl.push _⟩ ?_ fun t c hm hc hS => ?_
  · have hlt : i < ns.length := sz ▸ (Array.getElem?_eq_some_iff.mp hv).1
    obtain ⟨t, e⟩ := IntsAre.int_at hi i v (by rw [Array.getElem?_toList]; exact hv)
    exact ⟨ns[i], t, List.getElem?_eq_getElem hlt, by rw [e, List.getD_eq_getElem?_getD, List.getElem?_eq_getElem hlt] <;> rfl⟩
  · refine ⟨0, Nat.le_refl 0, setR_new_at ?_⟩
    exact Heap.get?_push_of_some _ (Heap.get?_push_size _ rfl)
  · obtain ⟨h', g', d', t', o'⟩ := t
    cases (show g' = s.gens from hm.gens)
    cases (show d' = s.drawn from hm.drawn)
    cases (show o' = s.os from hm.os)
    refine hR h' t' c hS (sz ▸ hc) fun b o e => ?_
    have hb0 : b < s.heap.objs.size := Heap.lt_size e
    refine hm.heap b o (fun z => ?_) (Heap.get?_push_of_some _ (Heap.get?_push_of_some _ e))
    rcases List.mem_cons.mp z with z | z
    · exact absurd z (Nat.ne_of_lt hb0)
    · exact absurd ((List.mem_singleton.mp z).trans e1) (Nat.ne_of_lt (Nat.lt_succ_of_lt hb0))
set_option maxHeartbeats 8000000 in
theorem set_init {l : Addr} {its : Array Value} (ns : List Int) (hh : A.handled = none) (hl : s.heap.IsList l its) (hi : IntsAre its.toList ns) (hb : ns.length + 1 < scanBound) :
    codeAny (model P w) A (.call (.builtin "set.__init__") ⟨[.ref s.heap.objs.size, .ref l], []⟩) (wants (fun r t => r = .none ∧ ∃ h' tk c, t = { s with heap := h', toks := tk } ∧ SetR w h' s.heap.objs.size (fun j => decide (j ∈ ns)) c ∧ c ≤ ns.length ∧
      (∀ b o, s.heap.get? b = some o → h'.get? b = some o)) E) { s with heap := nsh w s } := by
  have hS : (nsh w s).get? s.heap.objs.size = some (nso w) := Heap.get?_push_size _ rfl
  have hT : Shared.TypeIs { s with heap := nsh w s } (.ref s.heap.objs.size) "set" := ⟨_, hS, rfl⟩
  refine codeAny_call_builtin F.called_set.init.plain F.entry_set_init (check_set_init_1 hT ?_)
  obtain ⟨⟨oc, odct, odat, osl⟩, ho, hc, n0, hd⟩ := hl
  cases hc
  cases hd
  have ho' : (nsh w s).get? l = some { cls := .type "list", dict := odct, data := .seq its n0, slots := osl } := Heap.get?_push_of_some _ ho
  have isl : (nsh w s).IsList l its := ⟨_, ho', rfl, n0, rfl⟩
  have g1 := F.sub_list_set
  have g2 := F.sub_list_frozenset
  have g3 : (Value.type "list" == Value.type "dict") = false := by decide
  unfold Builtin.«set.__init__» noKeywords Builtin.Frozenset.updateFrom
  generalize hPI : pyIter = it
  wp_walk
  subst hPI
  refine wpAny_pyIter_list isl ?_
  refine wpAny_bind (wpAny_runValue (set_loop (A := A.in1) ns (by simp [hh]) ⟨_, ho, rfl, n0, rfl⟩ hi hb fun h' tk c a b k => ?_))
  exact wpAny_pure (wpAny_pure ⟨rfl, h', tk, c, rfl, a, b, k⟩)
end
end Sf
namespace Sf
open PySem PySem.Spec PyProof.Rows L2
section
variable {P : Program} {w : World} {A : Around} {E : Value → Shared → Prop} {s : Shared}
set_option maxHeartbeats 8000000 in
theorem set_call {l : Addr} {its : Array Value} (ns : List Int) {Q : Value → Shared → Prop} (hh : A.handled = none) (hl : s.heap.IsList l its) (hi : IntsAre its.toList ns) (hb : ns.length + 1 < scanBound)
    (h : ∀ (h' : Heap) (tk c : Nat), SetR w h' s.heap.objs.size (fun j => decide (j ∈ ns)) c → c ≤ ns.length → (∀ b o, s.heap.get? b = some o → h'.get? b = some o) → Q (.ref s.heap.objs.size) { s with heap := h', toks := tk }) :
    wpAny (model P w) A (call (.type "set") [.ref l]) Q E s := by
  obtain ⟨c, tl, g0⟩ := F.called_set.mro
  have g1 := F.called_set.made
  have g2 := F.called_set.sub
  have g3 := F.called_set.notType
  have g4 := F.called_set.canCreate
  have g5 := F.typeCall_set_1 (.ref l)
  have g6 := F.called_set.init.lookup
  refine wpAny_call (codeAny_of_tree ?_)
  show wpAny _ _ (callAny (.type "set") _) _ _ _
  refine wpAny_pure ⟨Code.quiet_builtin _ (by decide +kernel), codeAny_builtin F.entry_type_call ?_⟩
  rw [Around.under_plain (weight_type_call_type "set" [.ref l] []) rfl]
  repeat (any_goals (first | assumption | wp_step))
  refine codeAny_mono (code_set_led1 (.ref l) (E := E) (Q₁ := fun ob t => ob = .ref s.heap.objs.size ∧ t = { s with heap := nsh w s }) ⟨rfl, rfl⟩) fun r t hr => ?_
  cases r with
  | error e => exact hr
  | ok fl =>
    cases fl with
    | ret ob =>
      obtain ⟨rfl, rfl⟩ := hr
      have hT : Shared.TypeIs { s with heap := nsh w s } (.ref s.heap.objs.size) "set" := ⟨_, Heap.get?_push_size _ rfl, rfl⟩
      have g7 := F.called_set.init.bind (.ref s.heap.objs.size)
      repeat (any_goals (first | assumption | wp_step))
      refine codeAny_mono (set_init (E := E) ns (by simp [hh]) hl hi hb) fun r t hr => ?_
      cases r with
      | error e => exact hr
      | ok fl =>
        cases fl with
        | ret v =>
          obtain ⟨rfl, h', tk, c', rfl, a1, a2, a3⟩ := hr
          repeat (any_goals (first | assumption | wp_step))
          exact h _ _ _ a1 a2 a3
        | _ => exact hr.elim
    | _ => exact hr.elim
end
section
variable {X : Cx} {e : Expr} {es : List Expr} {te : TE} {t : TA} {p : Pos}
/-- set(xs), xs a list of ints -/
def rSetL (K : PySem.W.Frag) (w : World) : List V → Hp → VK → Prop := fun xs H Q => ∃ (a : Addr) (ns : List Int), xs = [.ref a] ∧ SqL K H a (ns.map V.int) ∧ ns.length ≤ 1000 ∧ ∀ (q : Addr) (n : Nat), n ≤ ns.length → H q = none → Q (.ref q) (upd H q (SetO w q (fun j => decide (j ∈ ns)) n))
theorem cr_setL (hc : X.calm = true) : CallR X (.type "set") (rSetL X.K X.w) := by
  intro pins s σ H xs us Q I r h
  obtain ⟨a, ns, rfl, hs, hz, q⟩ := h
  obtain ⟨its, rv, pl, _⟩ := I.list hs
  rw [Vals.ref1 r]
  refine set_call ns (I.ok.hd hc) pl.isList (by simpa using rv.ints) (by unfold scanBound; omega) fun h' tk c R hcn k => ?_
  exact ⟨.ref _, upd H s.heap.objs.size (SetO X.w s.heap.objs.size (fun j => decide (j ∈ ns)) c), I.laid (t' := tk) k (Nat.le_refl _) (setO_new R), rfl, q _ c hcn (I.hok.fresh (Nat.le_refl _))⟩
/-- *d in a display, d a dict -/
theorem star_dict {pins : List (Addr × Obj)} {σ : L2.St} {H : Hp} {s : Shared} {a : Addr} {kvs : List (Key × V)} {E : Value → Shared → Prop} {Q : List Value → Shared → Prop} (hc : X.calm = true) (I : Inv X pins σ H s) (h : Rd H a (.dK kvs))
    (hQ : ∀ us s', Inv X pins σ H s' → Vals (kvs.map fun kv => kV kv.1) us → Q us s') : PySem.W.StarOf (model X.prog X.w) X.A E (.ref a) Q s := by
  obtain ⟨z, lo, vs, rel, dd⟩ := dk_rd I.hok h
  obtain ⟨ep, hat⟩ := dd.dictAt
  have ek : (kvs.map fun kv => kV kv.1) = vs.map fun p => kV p.1 := by
    have e := congrArg (List.map kV) rel.keys
    rw [List.map_map, List.map_map] at e
    exact e
  have z : wpAny (model X.prog X.w) X.A (collect (.ref a)) Q E s := by
    refine PySem.W.kdu_collect (A := X.A) (PySem.W.kdl_dict (knd := mixKind X.prog X.w) (kvs := vs) (ep := ep) lo) (I.ok.hd hc) hat (by rw [← rel.length]; exact z) fun h' tk acc hk hacc => ?_
    refine hQ _ _ (I.kept (t' := tk) hk) ?_
    rw [ek]
    exact keys_at (by rw [Array.length_toList]; exact hacc.1) fun j v e => hacc.2 j v (by rw [← Array.getElem?_toList]; exact e)
  unfold PySem.W.StarOf notIterableAtAll
  exact wpAny_bind (wpAny_specialOf dd.typeIs PySem.F.slot_dict_iter.lookup (wpAny_pure ⟨rfl, z⟩))
def tStarD (te : TE) (t : TA) : TA := fun σ H Q => te σ H fun x H1 => ∃ p kvs, x = V.ref p ∧ Rd H1 p (.dK kvs) ∧ t σ H1 fun ys H2 => Q ((kvs.map fun kv => kV kv.1) ++ ys) H2
theorem pa_starD (hc : X.calm = true) (he : PE X e te) (hr : PA X es t) (hs : starEach (.Starred e p :: es) X.env = (true, eval e X.env) :: starEach es X.env := by rfl) : PA X (.Starred e p :: es) (tStarD te t) :=
  ⟨fun pos pins s σ H Q I h => PySem.W.items_star (thn (he.run pins s σ H _ I h) fun v s1 ⟨y, H1, I1, ry, a, kvs, ey, hx, q⟩ => by
    subst ey
    cases (show v = Value.ref a from ry)
    exact star_dict hc I1 hx fun us s2 I2 rv => thn (hr.run pos pins s2 σ H1 _ I2 q) fun ws s3 ⟨vs, H3, I3, r3, q3⟩ => ⟨_, H3, I3, rv.append r3, q3⟩) hs⟩
end
end Sf

namespace Sf
open PySem PySem.Spec PyProof.Rows L2
section
variable {P : Program} {w : World} {K : PySem.W.Frag} {mg : Str → Option Value} {base : Heap} {f : Addr} {fd : FuncData}
theorem keys_ints (l : List (Int × Nat)) : ((kvsF l).map fun kv => kV kv.1) = (l.map (·.1)).map V.int := by
  unfold kvsF
  rw [List.map_map, List.map_map]
  rfl
structure PlacesP (vs : List V) (H : Hp) (Q : VK) : Prop where
  ex : ∃ a b : Int, vs = [.int a, .int b] ∧ a ≠ 0 ∧ b ≠ 0 ∧ a.natAbs ≤ 1000000000 ∧ b.natAbs ≤ 1000000000 ∧ ∀ (l : List Int) (p : Addr) (H' : Hp), PlacesOf a b l → l.length ≤ 62 → Same H H' → H p = none → H' p = some (.tup (l.map V.int)) → Q (.ref p) H'
def spPlaces : Sp := fun vs H Q _ => PlacesP vs H Q
theorem ok_signed_places (F : FnD K "signed_places" "signed_places" s_P_signed_places f fd) (T : Glob mg) (C_P_check_number : Cal P w K mg base 2 "check_number" ["value"] spCheckNumber) (C_P_factors : Cal P w K mg base 3 "factors" ["number"] spFactors) (C_P_sign : Cal P w K mg base 4 "sign" ["a", "b", "place"] spSign) :
    FnOk P w K mg base CX0 5 f fd ["a", "b"] spPlaces := by
  refine F.ok sc_P_signed_places (fun vs H Q E h => ?_) (fun cdv A outer s H vs Q E hr h => ?_)
  · obtain ⟨a, b, rfl, _⟩ := h.ex; rfl
  · obtain ⟨a, b, rfl, a0, b0, a1, b1, q⟩ := h.ex
    have hu := hu_of hr
    refine ⟨_, PSs.nox (pss_cons (ps_expr (pe_cal C_P_check_number (hr.mono (by decide)) (pa_cons (pv 0) pa_nil)))
      (pss_cons (ps_expr (pe_cal C_P_check_number (hr.mono (by decide)) (pa_cons (pv 1) pa_nil)))
      (pss_cons (ps_set (i := 2) sc_P_signed_places.nd rfl (Or.inl rfl) (pe_callB (cr_sortedSet rfl) (by rfl) T.m_sorted (by decide +kernel) (pa_cons (pe_callTy (cr_setL rfl) (by rfl) T.m_set (by decide +kernel) (pa_cons (pe_lst (pa_cons pe_int (pa_starD rfl (pe_cal C_P_factors (hr.mono (by decide)) (pa_cons (pv 0) pa_nil)) (pa_starD rfl (pe_cal C_P_factors (hr.mono (by decide)) (pa_cons (pv 1) pa_nil)) pa_nil)))) pa_nil)) pa_nil)))
      (pss_one (ps_ret (pe_callTy call_tuple_of (by rfl) T.m_tuple (by decide +kernel) (pa_cons (pe_lc rfl sc_P_signed_places.nd (own := [("place", 3)]) (pi_list (pe_lst (pa_cons pe_int (StX.pa_star (pv 2) pa_nil)))) (blkOk_by (N := ["a", "b", "divisors", "place"]) (sc := defScope s_P_signed_places) (by decide +kernel)) (fun _ _ _ _ _ => pg_name (i := 3) sc_P_signed_places.nd rfl (Or.inl rfl)) (fun _ _ _ _ _ => pts_one (pt_cmp (pc_eqI (pe_cal C_P_sign (hr.mono (by decide)) (pa_cons (pv 0) (pa_cons (pv 1) (pa_cons (pv 3) pa_nil)))) (pe_un un_neg pe_int)))) (fun _ _ _ _ _ => (pv 3))) pa_nil))))))), ?_⟩
    refine ⟨_, rfl, a, rfl, a0, by omega, by omega, _, rfl, b, rfl, b0, by omega, by omega, ?_⟩
    refine ⟨_, rfl, a, rfl, a0, by omega, by omega, fun la da H1 fa e1 na hda => ⟨da, kvsF la, rfl, .inl hda, ?_⟩⟩
    refine ⟨_, rfl, b, rfl, b0, by omega, by omega, fun lb db H2 fb e2 nb hdb => ⟨db, kvsF lb, rfl, .inl hdb, ?_⟩⟩
    have A2 : absI a ≤ 1000000000 := by unfold absI; split <;> omega
    have B2 : absI b ≤ 1000000000 := by unfold absI; split <;> omega
    have hla := fact_len fa A2
    have hlb := fact_len fb B2
    generalize hns : (2 : Int) :: (la.map (·.1) ++ lb.map (·.1)) = ns
    have hlen : ns.length ≤ 61 := by
      rw [← hns, List.length_cons, List.length_append, List.length_map, List.length_map]
      omega
    have hitems : V.int 2 :: ((kvsF la).map (fun kv => kV kv.1) ++ ((kvsF lb).map (fun kv => kV kv.1) ++ [])) = ns.map V.int := by
      rw [← hns, keys_ints, keys_ints, List.append_nil, List.map_cons, List.map_append]
    refine ⟨?_, fun x hx => ?_⟩
    · show (V.int 2 :: ((kvsF la).map (fun kv => kV kv.1) ++ ((kvsF lb).map (fun kv => kV kv.1) ++ []))).length ≤ sizeLine
      rw [hitems, List.length_map]
      exact Nat.le_trans hlen (by decide)
    refine ⟨x, ns, rfl, SqL.of ?_, by omega, fun y n hn hy => ?_⟩
    · rw [upd_same, ← hitems]
    refine ⟨y, _, n, rfl, upd_same, by omega, fun D z hD hm hDl hz => ?_⟩
    have hP0 := places_of (D := D) a0 b0 fa fb hD (fun k => (hm k).trans (by rw [← hns]; exact decide_eq_true_iff))
    have eH : Same H (upd (upd (upd H2 x (.lst (V.int 2 :: ((kvsF la).map (fun kv => kV kv.1) ++ ((kvsF lb).map (fun kv => kV kv.1) ++ []))))) y (SetO w y (fun j => decide (j ∈ ns)) n)) z (.lst (D.map V.int))) :=
      (((e1.trans e2).trans (same_upd hx)).trans (same_upd hy)).trans (same_upd hz)
    refine ⟨_, rfl, z, _, rfl, .inr (SqL.of upd_same), ?_, fun c hc => ?_⟩
    · refine Nat.le_trans (?_ : _ ≤ 70) (by decide)
      show (V.int 0 :: (D.map V.int ++ [])).length ≤ 70
      rw [List.append_nil, List.length_cons, List.length_map]
      omega
    have eL : V.int 0 :: (D.map V.int ++ []) = (0 :: D).map V.int := by rw [List.append_nil]; rfl
    rw [eL]
    have eH2 := eH.trans (same_upd (o := .lst ((0 :: D).map V.int)) hc)
    refine ⟨c, rfl, ⟨_, SqL.of upd_same⟩, fun d hd => ?_⟩
    have hdH : H d = none := eH2.free hd
    have ncd : c ≠ d := fun z => by
      rw [← z, upd_same] at hd
      cases hd
    refine lc_list (K := K) (a := c) (xs := (0 :: D).map V.int) (fun i H' => Same H H' ∧ SqL K H' c ((0 :: D).map V.int) ∧ ∃ m : List Int, H' d = some (.lst (m.map V.int)) ∧ m.Sublist ((0 :: D).take i) ∧ ∀ k, k ∈ m ↔ k ∈ (0 :: D).take i ∧ HSign a b k (-1)) ⟨eH2.trans (same_upd hd), sq_upd (SqL.of upd_same) ncd, [], upd_same, List.Sublist.refl _, fun k => ⟨fun z => (by cases z), fun z => absurd z.1 (by simp)⟩⟩ (fun i H' _ hp => hp.2.1) (fun i v H' hv hp => ?_) (fun H' hp => ?_)
    · obtain ⟨e5, hL, m, hmd, msub, hmm⟩ := hp
      obtain ⟨k, hk, rfl⟩ : ∃ k, (0 :: D)[i]? = some k ∧ v = V.int k := by
        rw [List.getElem?_map] at hv
        cases e : (0 :: D)[i]? with
        | none => rw [e] at hv; cases hv
        | some z => rw [e] at hv; exact ⟨z, rfl, (Option.some.inj hv).symm⟩
      have kP := hP0.1 k (List.mem_of_getElem? hk)
      have kB : k ≤ 1000000000 := by
        rcases List.mem_cons.mp (List.mem_of_getElem? hk) with e | e
        · omega
        · have e := (hm k).mp e
          rw [decide_eq_true_iff, ← hns] at e
          rcases List.mem_cons.mp e with e | e
          · omega
          · rcases List.mem_append.mp e with e | e
            · obtain ⟨r, hr, rfl⟩ := List.mem_map.mp e
              have := prodF_mem fa.2.2 r hr
              rw [fa.1] at this
              omega
            · obtain ⟨r, hr, rfl⟩ := List.mem_map.mp e
              have := prodF_mem fb.2.2 r hr
              rw [fb.1] at this
              omega
      have et : (0 :: D).take (i + 1) = (0 :: D).take i ++ [k] := by rw [List.take_add_one, hk]; rfl
      refine ⟨rfl, ⟨_, rfl, _, rfl, _, rfl, ⟨a, b, k, rfl, a0, b0, a1, b1, kP.imp id fun z => ⟨z, kB⟩, fun r H6 hr e6 => ?_⟩⟩⟩
      refine ⟨1, rfl, _, _, rfl, rfl, _, rfl, ifd (fun h => ?_) (fun h => ?_)⟩
      · have h : r = -1 := h
        subst h
        refine ⟨_, rfl, m.map V.int, e6 _ _ hmd, ?_, ?_, sq_upd (e6.seq hL) ncd, m ++ [k], ?_, ?_, fun j => ?_⟩
        · rw [List.length_map]
          have := msub.length_le
          rw [List.length_take, List.length_cons] at this
          exact Nat.lt_of_le_of_lt (by omega : m.length ≤ 70) (by decide)
        · intro b' o e
          rw [upd_ne (ne_of_none e hdH)]
          exact e6 _ _ (e5 _ _ e)
        · rw [upd_same, List.map_append]; rfl
        · rw [et]
          exact msub.append (List.Sublist.refl _)
        · rw [et, List.mem_append, List.mem_append, hmm, List.mem_singleton]
          constructor
          · rintro (h | h)
            · exact ⟨.inl h.1, h.2⟩
            · exact ⟨.inr h, h ▸ hr⟩
          · rintro ⟨h | h, h2⟩
            · exact .inl ⟨h, h2⟩
            · exact .inr h
      · refine ⟨e5.trans e6, e6.seq hL, m, e6 _ _ hmd, ?_, fun j => ?_⟩
        · rw [et]
          exact msub.trans (List.sublist_append_left _ _)
        · rw [et, List.mem_append, hmm, List.mem_singleton]
          constructor
          · rintro h
            exact ⟨.inl h.1, h.2⟩
          · rintro ⟨h1 | h1, h2⟩
            · exact ⟨h1, h2⟩
            · subst h1
              exact absurd (hsign_unique kP hr h2) h
    · obtain ⟨e5, hL, m, hmd, msub, hmm⟩ := hp
      rw [List.length_map, List.take_length] at msub hmm
      refine ⟨d, m.map V.int, rfl, .inl ⟨SqL.of hmd, fun t ht => ?_⟩⟩
      have hl := hP0.2 msub hmm
      have ml := msub.length_le
      rw [List.length_cons] at ml
      exact q m t _ hl (by omega) (e5.trans (same_upd ht)) (e5.free ht) upd_same
end
end Sf

namespace Sf
open PySem PySem.Spec PyProof.Rows L2
section
variable {X : Cx} {CX : CXT} {n : Nat} {f C : Addr} {fd : FuncData} {ps : List Str} {sp : Sp} {E : XK} {op : Operator}
/-- no value of ours stands for "not implemented" -/
theorem cmpBack {v : V} {u : Value} {s : Shared} {Q : Value → Shared → Prop} (r : RelV v u) (q : Q u s) : PySem.W.CmpBack Q u s := by
  cases v with
  | non => cases (show u = Value.none from r); exact q
  | bl b => cases (show u = Value.bool b from r); exact q
  | int i => obtain ⟨t, rfl⟩ := (show ∃ t, u = Value.int i t from r); exact q
  | str x => obtain ⟨t, rfl⟩ := (show ∃ t, u = Value.str x t from r); exact q
  | byt b => obtain ⟨t, rfl⟩ := (show ∃ t, u = Value.bytes b t from r); exact q
  | flt b => obtain ⟨t, rfl⟩ := (show ∃ t, u = Value.float b t from r); exact q
  | ref a => cases (show u = Value.ref a from r); exact q
  | ty t => cases (show u = Value.type t from r); exact q
/-- an instance of the class at C -/
def Ins (H : Hp) (a C : Addr) : Prop := ∃ dx fs, H a = some (.ins C dx fs)
theorem ins_inst {pins : List (Addr × Obj)} {σ : L2.St} {H : Hp} {s : Shared} {a : Addr} (I : Inv X pins σ H s) (h : Ins H a C) : ∃ (ox : Obj) (od : Obj), PySem.W.InstAt s.heap a ox C (some od) := by
  obtain ⟨dx, fs, ea⟩ := h
  obtain ⟨mA, O, _⟩ := ins_get I.hok ea
  obtain ⟨od, J, _⟩ := O.look
  exact ⟨_, od, J⟩
/-- x op y, both of one own class that says what op is -/
def rOwn (C : Addr) (sp : Sp) (E : XK) : R2 := fun x y H Q => ∃ a b, x = .ref a ∧ y = .ref b ∧ Ins H a C ∧ Ins H b C ∧ sp [.ref a, .ref b] H Q E
theorem op_own (M : Meth X.K C (PySem.dunder op.info.2) f) (F : FnOk X.prog X.w X.K X.mg X.base CX n f fd ps sp) (hr : Room n X.A) (hb : Binds X.K fd ps []) (hx : Passes CX X E) (hc : PySem.W.selfFirst X.K C = true) : OpR X (binaryOp op) (rOwn C sp E) := by
  intro pins s σ H x y v u Q I rx ry h
  obtain ⟨a, b, rfl, rfl, ha, hb', q⟩ := h
  cases (show v = Value.ref a from rx)
  cases (show u = Value.ref b from ry)
  obtain ⟨ox, od, J⟩ := ins_inst I ha
  obtain ⟨oy, oe, J'⟩ := ins_inst I hb'
  obtain ⟨m, hF⟩ := I.fr
  refine PySem.W.binop_K hF I.ok.mod.kin J J'.type hc M.at_ M.fn (wpAny_mono (run_fn (us := [.ref a, .ref b]) (vs := [.ref a, .ref b]) F hr hb .nil hx I (.cons rfl (.cons rfl .nil)) q) (fun w s' h => ?_) fun _ _ z => z)
  obtain ⟨z, H', I', rz, qz⟩ := id h
  exact cmpBack rz h
/-- x op n, n an int -/
def rOwnI (C : Addr) (sp : Sp) (E : XK) : R2 := fun x y H Q => ∃ a i, x = .ref a ∧ y = .int i ∧ Ins H a C ∧ sp [.ref a, .int i] H Q E
theorem op_ownI {fo ro : Option Value} (M : Meth X.K C (PySem.dunder op.info.2) f) (F : FnOk X.prog X.w X.K X.mg X.base CX n f fd ps sp) (hr : Room n X.A) (hb : Binds X.K fd ps []) (hx : Passes CX X E) (hc : PySem.W.selfFirst X.K C = true)
    (nr : NoAttr X.K C (dunderR op.info.2)) (hsub : PySem.W.subIn X.K (.type "int") (.ref C) = some false) (h1 : PySem.W.findIn X.K (.type "int") (PySem.dunder op.info.2) = some fo) (h2 : PySem.W.findIn X.K (.type "int") (dunderR op.info.2) = some ro) :
    OpR X (binaryOp op) (rOwnI C sp E) := by
  intro pins s σ H x y v u Q I rx ry h
  obtain ⟨a, i, rfl, rfl, ha, q⟩ := h
  cases (show v = Value.ref a from rx)
  obtain ⟨t, rfl⟩ := (show ∃ t, u = Value.int i t from ry)
  obtain ⟨ox, od, J⟩ := ins_inst I ha
  obtain ⟨m, hF⟩ := I.fr
  refine PySem.W.ksp_binT (T := "int") hF I.ok.mod.kin J rfl hc M.at_ M.fn nr (.inl rfl) h1 h2 hsub (wpAny_mono (run_fn (us := [.ref a, .int i t]) (vs := [.ref a, .int i]) F hr hb .nil hx I (.cons rfl (.cons ⟨t, rfl⟩ .nil)) q) (fun w s' h => ?_) fun _ _ z => z)
  obtain ⟨z, H', I', rz, qz⟩ := id h
  exact cmpBack rz h
/-- -x -/
def rOwn1 (C : Addr) (sp : Sp) (E : XK) : V → Hp → VK → Prop := fun x H Q => ∃ a, x = .ref a ∧ Ins H a C ∧ sp [.ref a] H Q E
theorem un_own (M : Meth X.K C "__neg__" f) (F : FnOk X.prog X.w X.K X.mg X.base CX n f fd ps sp) (hr : Room n X.A) (hb : Binds X.K fd ps []) (hx : Passes CX X E) : UnR X (unaryOp .USub) (rOwn1 C sp E) := by
  intro pins s σ H x v Q I rx h
  obtain ⟨a, rfl, ha, q⟩ := h
  cases (show v = Value.ref a from rx)
  obtain ⟨ox, od, J⟩ := ins_inst I ha
  obtain ⟨m, hF⟩ := I.fr
  exact PySem.W.ksp_neg hF I.ok.mod.kin J M.at_ M.fn (run_fn (us := [.ref a]) (vs := [.ref a]) F hr hb .nil hx I (.cons rfl .nil) q)
/-- the truth of an own object -/
theorem tru_own (M : Meth X.K C "__bool__" f) (F : FnOk X.prog X.w X.K X.mg X.base CX n f fd ps sp) (hr : Room n X.A) (hb : Binds X.K fd ps []) (hx : Passes CX X E) :
    TruR X (fun x H Q => ∃ a, x = .ref a ∧ Ins H a C ∧ sp [.ref a] H (fun v H' => ∃ k, v = .bl k ∧ Q k H') E) := by
  intro pins s σ H x v Q I rx h
  obtain ⟨a, rfl, ha, q⟩ := h
  cases (show v = Value.ref a from rx)
  obtain ⟨ox, od, J⟩ := ins_inst I ha
  obtain ⟨m, hF⟩ := I.fr
  refine PySem.W.truthy_K hF I.ok.mod.kin J M.at_ M.fn (wpAny_mono (run_fn (us := [.ref a]) (vs := [.ref a]) F hr hb .nil hx I (.cons rfl .nil) q) (fun w s' h => ?_) fun _ _ z => z)
  obtain ⟨z, H', I', rz, k, rfl, qz⟩ := h
  cases (show w = Value.bool k from rz)
  exact ⟨H', I', qz⟩
/-- x == y by an own __eq__, y of the same class -/
theorem eq_own (M : Meth X.K C "__eq__" f) (F : FnOk X.prog X.w X.K X.mg X.base CX n f fd ps sp) (hr : Room n X.A) (hb : Binds X.K fd ps []) (hx : Passes CX X E) : OpR X (compareOp .Eq) (rOwn C sp E) := by
  intro pins s σ H x y v u Q I rx ry h
  obtain ⟨a, b, rfl, rfl, ha, hb', q⟩ := h
  cases (show v = Value.ref a from rx)
  cases (show u = Value.ref b from ry)
  obtain ⟨ox, od, J⟩ := ins_inst I ha
  obtain ⟨oy, oe, J'⟩ := ins_inst I hb'
  obtain ⟨m, hF⟩ := I.fr
  show wpAny (model X.prog X.w) X.A (richCompare .Eq _ _) (EP X pins σ Q) X.xe s
  refine PySem.W.cmp_K (op := .Eq) (tb := .ref C) hr.units0 hF I.ok.mod.kin J J'.type (by simp [PySem.W.notFirst]) M.at_ M.fn (wpAny_mono (run_fn (us := [.ref a, .ref b]) (vs := [.ref a, .ref b]) F hr hb .nil hx I (.cons rfl (.cons rfl .nil)) q) (fun w s' h => ?_) fun _ _ z => z)
  obtain ⟨z, H', I', rz, qz⟩ := id h
  exact cmpBack rz h
/-- x == n by an own __eq__, n an int -/
theorem eq_ownI (M : Meth X.K C "__eq__" f) (F : FnOk X.prog X.w X.K X.mg X.base CX n f fd ps sp) (hr : Room n X.A) (hb : Binds X.K fd ps []) (hx : Passes CX X E) (hsub : PySem.W.subIn X.K (.type "int") (.ref C) = some false) : OpR X (compareOp .Eq) (rOwnI C sp E) := by
  intro pins s σ H x y v u Q I rx ry h
  obtain ⟨a, i, rfl, rfl, ha, q⟩ := h
  cases (show v = Value.ref a from rx)
  obtain ⟨t, rfl⟩ := (show ∃ t, u = Value.int i t from ry)
  obtain ⟨ox, od, J⟩ := ins_inst I ha
  obtain ⟨m, hF⟩ := I.fr
  show wpAny (model X.prog X.w) X.A (richCompare .Eq _ _) (EP X pins σ Q) X.xe s
  refine PySem.W.cmp_K (op := .Eq) (tb := .type "int") hr.units0 hF I.ok.mod.kin J (PySem.W.Looks.of_pure rfl) (by unfold PySem.W.notFirst; rw [hsub]; simp) M.at_ M.fn (wpAny_mono (run_fn (us := [.ref a, .int i t]) (vs := [.ref a, .int i]) F hr hb .nil hx I (.cons rfl (.cons ⟨t, rfl⟩ .nil)) q) (fun w s' h => ?_) fun _ _ z => z)
  obtain ⟨z, H', I', rz, qz⟩ := id h
  exact cmpBack rz h
/-- a def called somewhere below the running body -/
theorem run_sub {A : Around} {pins : List (Addr × Obj)} {σ : L2.St} {H : Hp} {s : Shared} {Q : VK} {us : List Value} {vs : List V} (F : FnOk X.prog X.w X.K X.mg X.base CX n f fd ps sp) (sb : Sub X n A) (hb : Binds X.K fd ps []) (hx : Passes CX X E)
    (I : Inv X pins σ H s) (r : Vals vs us) (h : sp vs H Q E) : wpAny (model X.prog X.w) A (call (.ref f) us) (EP X pins σ Q) X.xe s := by
  have e0 : Env0 X.prog X.w X.K X.mg X.base A X.stack s H := by
    have e := I.env0
    exact ⟨by rw [sb.fr]; exact e.frames, e.mod, e.bs, e.bsz, e.funs, e.frf, e.hok, e.bare⟩
  have hl : us.length = ps.length := by rw [← r.length]; exact F.len _ _ _ _ h
  refine wpAny_call (codeAny_mono (F.run A X.stack s H ⟨us, []⟩ us vs Q E sb.room e0 (by
    have := hb s us I.kIn (by rw [List.append_nil]; exact hl)
    rw [List.append_nil] at this
    exact this) r h) fun r s' hq => ?_)
  cases r with
  | error e => exact hx pins σ H s e s' I hq
  | ok fl =>
    cases fl with
    | ret u => exact I.after hq
    | next => exact False.elim hq
    | brk => exact False.elim hq
    | cont => exact False.elim hq
section
variable {K : PySem.W.Frag} {s : Shared} {x : Addr} {ox : Obj} {od : Option Obj} {name : Str} {id : String} {A : Around} {Ee : Value → Shared → Prop}
theorem ifBound_B {M : Model} {args : List Value} {Q : Option Value → Shared → Prop} (Y : K.In s.heap) (I : PySem.W.InstAt s.heap x ox C od) (hs : PySem.W.findIn K (.ref C) name = some (some (.builtin id)))
    (hb : ∀ self, bindSpecial (.builtin id) self = pure (.builtin id, [self])) (h : wpAny M A (call (.builtin id) (.ref x :: args)) (fun v => Q (some v)) Ee s) : wpAny M A (callSpecialIfBound? (.ref x) name args) Q Ee s := by
  simp only [callSpecialIfBound?, bindSpecialIfBound?]
  refine wpAny_holding (wpAny_bind (wpAny_bind (wpAny_bind (I.type.here ((PySem.W.looks_findIn Y hs).here ?_)))))
  have z : wpAny M A (call (.builtin id) ([.ref x] ++ args) >>= fun v => pure (some v)) Q Ee s := wpAny_bind (wpAny_mono h (fun _ _ w => wpAny_pure w) fun _ _ w => w)
  refine wpAny_bind (wpAny_askSetting (wpAny_ite ?_))
  split
  · exact wpAny_bind ((PySem.W.Looks.of_pure (hb _)).here (wpAny_pure (by exact z)))
  · exact wpAny_tryCatch (wpAny_bind ((PySem.W.Looks.of_pure (hb _)).here (wpAny_pure (by exact z))))
end
/-- x != y: object.__ne__ asks the own __eq__ -/
theorem ne_own_core {a : Addr} {b : V} {bu tb : Value} {pins : List (Addr × Obj)} {σ : L2.St} {H : Hp} {s : Shared} {Q : VK} (M : Meth X.K C "__eq__" f) (F : FnOk X.prog X.w X.K X.mg X.base CX n f fd ps sp) (hr : Room (n + 1) X.A) (hb : Binds X.K fd ps []) (hx : Passes CX X E)
    (hn : PySem.W.findIn X.K (.ref C) "__ne__" = some (some (.builtin "object.__ne__"))) (hm : PySem.W.mroIn X.K C (.type "object") = some true) (I : Inv X pins σ H s) (ha : Ins H a C) (rb : RelV b bu)
    (hT : PySem.W.Looks (model X.prog X.w) s.heap (typeOf bu) tb) (hF : PySem.W.notFirst X.K C tb = true)
    (q : sp [.ref a, b] H (fun v H' => ∃ k, v = .bl k ∧ Q (.bl (!k)) H') E) : wpAny (model X.prog X.w) X.A (richCompare .NotEq (.ref a) bu) (EP X pins σ Q) X.xe s := by
  obtain ⟨ox, od, J⟩ := ins_inst I ha
  have Y := I.kIn
  have one : wpAny (model X.prog X.w) X.A (tryCompare (.ref a) "__ne__" bu) (fun r s' => ∃ k : Bool, r = some (Value.bool k) ∧ EP X pins σ Q (.bool k) s') X.xe s := by
    unfold tryCompare
    refine wpAny_bind (ifBound_B Y J hn PySem.F.cmp_object.ne.bind ?_)
    refine wpAny_call (codeAny_call_builtin PySem.F.cmp_object.ne.plain PySem.F.cmpEntry_ne (PySem.W.check_slot (i := "object.__ne__") (owner := "object") (n := "__ne__") PySem.F.cmpKind_ne PySem.F.cmpSplit_ne (J.type.andThen (PySem.W.looks_mroIn Y hm)) (PySem.F.cmpArgs_ne _ _) ?_))
    unfold Builtin.«object.__ne__»
    refine wpAny_bind (m := slotArgs "__ne__" 1 _) (wpAny_pure ?_)
    refine wpAny_bind (m := cRoomFor _ _) (wpAny_cRoomFor hr.in1.units0 ?_)
    refine wpAny_bind (m := callSpecialIfBound? (.ref a) (Str.ofString "__eq__") _) (PySem.W.ifBound_K Y J M.at_ M.fn (wpAny_mono (run_sub (us := [.ref a, bu]) (vs := [.ref a, b]) F (Sub.in1 ⟨hr, rfl⟩) hb hx I (.cons rfl (.cons rb .nil)) q) (fun w s' h => ?_) fun _ _ z => z))
    obtain ⟨z, H', I', rz, k, rfl, qz⟩ := h
    cases (show w = Value.bool k from rz)
    refine wpAny_bind (m := truthy (.bool _)) (wpAny_truthy_bool ?_)
    refine wpAny_pure ?_
    exact wpAny_pure ⟨!k, rfl, .bl (!k), H', I', rfl, qz⟩
  unfold richCompare
  simp only [oneThing_ref]
  refine wpAny_holding (wpAny_bind (wpAny_cRoomFor hr.units0 ?_))
  refine wpAny_bind (J.type.here (wpAny_bind (hT.here ?_)))
  have fin : ∀ (r : Option Value) (s' : Shared), (∃ k : Bool, r = some (Value.bool k) ∧ EP X pins σ Q (.bool k) s') → ∃ v, r = some v ∧ EP X pins σ Q v s' := fun r s' ⟨k, e, h⟩ => ⟨_, e, h⟩
  split
  · rename_i c
    have e : PySem.W.subIn X.K tb (.ref C) = some false := by
      rcases Bool.or_eq_true_iff.mp hF with e | e
      · rw [beq_iff_eq.mp e] at c; simp at c
      · exact beq_iff_eq.mp e
    refine wpAny_bind ((PySem.W.looks_subIn Y e).here ?_)
    simp only [Bool.false_eq_true, if_false]
    refine wpAny_bind (wpAny_mono one (fun r s' z => ?_) fun _ _ e => e)
    obtain ⟨v, rfl, hq⟩ := fin r s' z
    exact wpAny_pure hq
  · refine wpAny_bind (wpAny_pure ?_)
    simp only [Bool.false_eq_true, if_false]
    refine wpAny_bind (wpAny_mono one (fun r s' z => ?_) fun _ _ e => e)
    obtain ⟨v, rfl, hq⟩ := fin r s' z
    exact wpAny_pure hq
/-- x != y, both of one own class -/
def rOwnNe (C : Addr) (sp : Sp) (E : XK) : R2 := fun x y H Q => ∃ a b, x = .ref a ∧ y = .ref b ∧ Ins H a C ∧ Ins H b C ∧ sp [.ref a, .ref b] H (fun v H' => ∃ k, v = .bl k ∧ Q (.bl (!k)) H') E
theorem ne_own (M : Meth X.K C "__eq__" f) (F : FnOk X.prog X.w X.K X.mg X.base CX n f fd ps sp) (hr : Room (n + 1) X.A) (hb : Binds X.K fd ps []) (hx : Passes CX X E)
    (hn : PySem.W.findIn X.K (.ref C) "__ne__" = some (some (.builtin "object.__ne__"))) (hm : PySem.W.mroIn X.K C (.type "object") = some true) : OpR X (compareOp .NotEq) (rOwnNe C sp E) := by
  intro pins s σ H x y v u Q I rx ry h
  obtain ⟨a, b, rfl, rfl, ha, hb', q⟩ := h
  cases (show v = Value.ref a from rx)
  obtain ⟨oy, oe, J'⟩ := ins_inst I hb'
  cases (show u = Value.ref b from ry)
  exact ne_own_core (b := .ref b) M F hr hb hx hn hm I ha rfl J'.type (by simp [PySem.W.notFirst]) q
/-- x != n, n an int -/
def rOwnNeI (C : Addr) (sp : Sp) (E : XK) : R2 := fun x y H Q => ∃ a i, x = .ref a ∧ y = .int i ∧ Ins H a C ∧ sp [.ref a, .int i] H (fun v H' => ∃ k, v = .bl k ∧ Q (.bl (!k)) H') E
theorem ne_ownI (M : Meth X.K C "__eq__" f) (F : FnOk X.prog X.w X.K X.mg X.base CX n f fd ps sp) (hr : Room (n + 1) X.A) (hb : Binds X.K fd ps []) (hx : Passes CX X E)
    (hn : PySem.W.findIn X.K (.ref C) "__ne__" = some (some (.builtin "object.__ne__"))) (hm : PySem.W.mroIn X.K C (.type "object") = some true) (hsub : PySem.W.subIn X.K (.type "int") (.ref C) = some false) : OpR X (compareOp .NotEq) (rOwnNeI C sp E) := by
  intro pins s σ H x y v u Q I rx ry h
  obtain ⟨a, i, rfl, rfl, ha, q⟩ := h
  cases (show v = Value.ref a from rx)
  obtain ⟨t, rfl⟩ := (show ∃ t, u = Value.int i t from ry)
  exact ne_own_core (b := .int i) M F hr hb hx hn hm I ha ⟨t, rfl⟩ (PySem.W.Looks.of_pure rfl) (by unfold PySem.W.notFirst; rw [hsub]; simp) q
/-- bool(x), x of an own class -/
theorem bool_own (M : Meth X.K C "__bool__" f) (F : FnOk X.prog X.w X.K X.mg X.base CX n f fd ps sp) (hr : Room (n + 3) X.A) (hb : Binds X.K fd ps []) (hx : Passes CX X E) :
    CallR X (.type "bool") (fun xs H Q => ∃ a, xs = [.ref a] ∧ Ins H a C ∧ sp [.ref a] H (fun v H' => ∃ k, v = .bl k ∧ Q v H') E) := by
  intro pins s σ H xs us Q I r h
  obtain ⟨a, rfl, ha, q⟩ := h
  rw [Vals.ref1 r]
  obtain ⟨ox, od, J⟩ := ins_inst I ha
  obtain ⟨m, hF⟩ := I.fr
  refine callType_codes (T := "bool") (Bi := Builtin.«object.__init__») (Q₁ := fun r t => ∃ k : Bool, r = .bool k ∧ EP X pins σ Q r t) PySem.F.called_bool (PySem.F.typeCall_bool_1 _) PySem.F.entry_object_init ?_ ?_
  · refine codeAny_of_tree ?_
    show wpAny _ X.A.in1.in1 (checkBuiltinCall "bool.__new__" ⟨[.type "bool", .ref a], []⟩ >>= fun _ => again (.builtin "bool.__new__" ⟨[.type "bool", .ref a], []⟩)) _ _ s
    refine wpAny_bind (wpAny_of_eq (PySem.F.newCall_bool_1 _) (wpAny_pure ⟨plainId_quiet (by decide +kernel) _, codeAny_builtin PySem.F.entry_bool_new ?_⟩))
    rw [Around.under_plainId (by decide +kernel) _]
    have key : wpAny (model X.prog X.w) X.A.in1.in1 (truthy (.ref a)) (fun k t => EP X pins σ Q (.bool k) t) X.xe s := by
      refine PySem.W.truthy_K hF I.ok.mod.kin J M.at_ M.fn (wpAny_mono (run_sub (us := [.ref a]) (vs := [.ref a]) F (Sub.in1 (Sub.in1 ⟨hr.mono (by omega), rfl⟩)) hb hx I (.cons rfl .nil) q) (fun w s' h => ?_) fun _ _ z => z)
      obtain ⟨z, H', I', rz, k, rfl, qz⟩ := h
      cases (show w = Value.bool k from rz)
      exact ⟨.bl k, H', I', rfl, qz⟩
    have f1 := PySem.F.conv_sub_bool
    unfold Builtin.«bool.__new__»
    generalize hTR : truthy = TR at key ⊢
    wp_walk
    refine wpAny_mono key (fun k t h => ?_) fun _ _ z => z
    exact wpAny_pure ⟨k, rfl, h⟩
  · rintro obj t ⟨k, rfl, h⟩
    exact ⟨PySem.typeIs_bool _ _, PySem.F.args_object_init_2 _ _, object_init_meets PySem.F.called_bool.init.lookup PySem.F.called_bool.made (by decide) X.prog X.w X.A.in1 _ t ⟨PySem.typeIs_bool _ _, rfl, h⟩⟩
/-- str(x), x of an own class -/
theorem str_own (M : Meth X.K C "__str__" f) (F : FnOk X.prog X.w X.K X.mg X.base CX n f fd ps sp) (hr : Room (n + 3) X.A) (hb : Binds X.K fd ps []) (hx : Passes CX X E) :
    CallR X (.type "str") (fun xs H Q => ∃ a, xs = [.ref a] ∧ Ins H a C ∧ sp [.ref a] H (fun v H' => ∃ k, v = .str k ∧ Q v H') E) := by
  intro pins s σ H xs us Q I r h
  obtain ⟨a, rfl, ha, q⟩ := h
  rw [Vals.ref1 r]
  obtain ⟨ox, od, J⟩ := ins_inst I ha
  have Y := I.kIn
  refine callType_codes (T := "str") (Bi := Builtin.«object.__init__») (Q₁ := fun r t => ∃ y u, r = .str y u ∧ EP X pins σ Q r t) PySem.F.called_str (PySem.F.typeCall_str_1 _) PySem.F.entry_object_init ?_ ?_
  · refine codeAny_of_tree ?_
    show wpAny _ X.A.in1.in1 (checkBuiltinCall "str.__new__" ⟨[.type "str", .ref a], []⟩ >>= fun _ => again (.builtin "str.__new__" ⟨[.type "str", .ref a], []⟩)) _ _ s
    refine wpAny_bind (wpAny_of_eq (PySem.F.newCall_str_1 _) (wpAny_pure ⟨plainId_quiet (by decide +kernel) _, codeAny_builtin PySem.F.entry_str_new ?_⟩))
    rw [Around.under_plainId (by decide +kernel) _]
    have key : wpAny (model X.prog X.w) X.A.in1.in1 (PySem.Builtin.Str.strOf (.ref a)) (fun v t => ∃ y u, v = Value.str y u ∧ EP X pins σ Q v t) X.xe s := by
      unfold PySem.Builtin.Str.strOf
      rw [show PySem.Builtin.Str.isExactStr (.ref a) = false from rfl]
      refine wpAny_bind (m := cRoomFor _ _) (wpAny_cRoomFor hr.in1.in1.units0 ?_)
      refine wpAny_bind (m := callSpecial? (.ref a) (Str.ofString "__str__")) (PySem.W.special_fn Y J M.at_ (beq_iff_eq.mp M.fn) (wpAny_mono (run_sub (us := [.ref a]) (vs := [.ref a]) F (Sub.in1 (Sub.in1 ⟨hr.mono (by omega), rfl⟩)) hb hx I (.cons rfl .nil) q) (fun w s' h => ?_) fun _ _ z => z))
      obtain ⟨z, H', I', rz, k, rfl, qz⟩ := h
      obtain ⟨u, rfl⟩ := (show ∃ t, w = Value.str k t from rz)
      exact wpAny_pure ⟨k, u, rfl, .str k, H', I', ⟨u, rfl⟩, qz⟩
    have f1 : isSubtype (.type "str") (.type "str") = pure true := isSubtype_str_str
    unfold Builtin.«str.__new__»
    generalize hTR : PySem.Builtin.Str.strOf = TR at key ⊢
    wp_walk
    refine wpAny_mono key (fun v t h => ?_) fun _ _ z => z
    obtain ⟨y, u, rfl, h⟩ := h
    exact wpAny_pure ⟨y, u, rfl, h⟩
  · rintro obj t ⟨y, u, rfl, h⟩
    exact ⟨PySem.typeIs_str _ _ _, PySem.F.args_object_init_2 _ _, object_init_meets PySem.F.called_str.init.lookup PySem.F.called_str.made (by decide) X.prog X.w X.A.in1 _ t ⟨PySem.typeIs_str _ _ _, rfl, h⟩⟩
end
end Sf

namespace Sf
open PySem PySem.Spec PyProof.Rows L2
section
variable {X : Cx} {o : Expr} {f : Str} {pos : Pos} {to : TE}
/-- o.f = .. as a target -/
def gAttr (K : PySem.W.Frag) (to : TE) (f : Str) : TG := fun y σ H Q => to σ H fun x H1 => ∃ a C dx fs, x = .ref a ∧ H1 a = some (.ins C dx fs) ∧ Cls K C ∧ NoAttr K C f ∧ fs.length < 1000 ∧ Q σ (upd H1 a (.ins C dx (putF f y fs)))
theorem pg_attr (ho : PE X o to) : PG X (.Attribute o f pos) (gAttr X.K to f) := by
  refine ⟨fun pins s σ H v u Q I r h => ?_⟩
  rw [arm_assign_Attribute]
  refine wpAny_bind (wpAny_holding (thn (ho.run pins s σ H _ I h) fun ov s1 ⟨x, H1, I1, r1, a, C, dx, fs, ex, ea, c, nn, l, q⟩ => ?_))
  subst ex
  cases (show ov = Value.ref a from r1)
  refine wpAny_bind (wpAny_standAt (wpAny_bind (wpAny_holding (setattr_ok I1 ea c nn l r fun s2 I2 => ?_))))
  exact wpAny_release ⟨σ, _, I2, q⟩
end
end Sf

namespace Sf
open PySem PySem.Spec PyProof.Rows L2
section
variable {X : Cx}
def CDivZ (_ j : Int) : Prop := j ≠ 0 ∧ j.natAbs.log2 < 9000
/-- // by a divisor of any sign -/
theorem op_fdivZ : OpR X (binaryOp .FloorDiv) (rI CDivZ fun i j => .int (i.fdiv j)) := opI fun _ _ _ _ _ _ _ hc q => floordiv_int hc.1 q (.inl (PyProof.noPylong_of_log2 hc.2))
theorem CDivZ.of {i j : Int} (h : j ≠ 0) (hb : j.natAbs < 2 ^ 8000) : CDivZ i j := ⟨h, Nat.lt_of_lt_of_le ((Nat.log2_lt (by omega)).mpr hb) (by decide)⟩
theorem gcd_args5 (a b c d e : Value) : argsOk "math.gcd" ⟨[a, b, c, d, e], []⟩ := by unfold argsOk; kernel_rfl
theorem gcd_run5 (a b c d e : Int) (ta tb tc td te : Tok) : Gives (Builtin.«math.gcd» ⟨[.int a ta, .int b tb, .int c tc, .int d td, .int e te], []⟩) (.int ((((((Nat.gcd 0 a.natAbs).gcd b.natAbs).gcd c.natAbs).gcd d.natAbs).gcd e.natAbs : Nat) : Int)) :=
  .of_wp fun M A E s Q h => by
    obtain ⟨hp, g, d, tk, os⟩ := s
    wp_walk
    exact ⟨_, rfl, h⟩
/-- gcd of five integers -/
def rGcd5 : List V → Hp → VK → Prop := fun vs H Q => ∃ a b c d e : Int, vs = [.int a, .int b, .int c, .int d, .int e] ∧ Q (.int (((((a.natAbs.gcd b.natAbs).gcd c.natAbs).gcd d.natAbs).gcd e.natAbs : Nat) : Int)) H
theorem cr_gcd5 : CallR X (.builtin "math.gcd") rGcd5 := by
  intro pins s σ H xs us Q I r h
  obtain ⟨a, b, c, d, e, rfl, q⟩ := h
  cases r with
  | cons r1 r => cases r with
    | cons r2 r => cases r with
      | cons r3 r => cases r with
        | cons r4 r => cases r with
          | cons r5 r =>
            cases r
            obtain ⟨t1, rfl⟩ := r1
            obtain ⟨t2, rfl⟩ := r2
            obtain ⟨t3, rfl⟩ := r3
            obtain ⟨t4, rfl⟩ := r4
            obtain ⟨t5, rfl⟩ := r5
            have g := gcd_run5 a b c d e t1 t2 t3 t4 t5
            rw [Nat.gcd_zero_left] at g
            exact call_function_meets PySem.W.MGF.kind_gcd PySem.W.MGF.plain_gcd PySem.W.MGF.entry_gcd (gcd_args5 _ _ _ _ _) g.meets ⟨.int _, H, I.tok _, ⟨_, rfl⟩, q⟩
/-- x(e, ..), x a name of the module that holds a built-in function -/
theorem pe_callGB {r : List V → Hp → VK → Prop} {t : TA} {x : Str} {id : String} {e : Expr} {es : List Expr} {p pos : Pos} (hc : CallR X (.builtin id) r) (hg : Gl X x) (hm : X.mg x = some (.builtin id)) (ha : PA X (e :: es) t) (hdb : (x == ("__debug__" : Str)) = false := by decide)
    (he : starEach (e :: es) X.env = (false, eval e X.env) :: starEach es X.env := by rfl) (hpl : (backTo pos (starEach es X.env)).any (·.1) = false := by rfl) : PE X (.Call (.Name x p) (e :: es) [] pos) (tCB r t) := by
  refine ⟨fun pins s σ H Q I h => ?_⟩
  refine wpAny_Call_Name_kw (ld_glob I hg hm ?_ hdb)
  exact PyProof.Rows.callWith_builtin1 (thn (ha.run pos pins s σ H _ I h) fun us s1 ⟨vs, H1, I1, r1, q1⟩ => hc pins s1 σ H1 vs us Q I1 r1 q1) he hpl
end
end Sf

namespace Sf
open PySem PySem.Spec PyProof.Rows L2
/-- an own class, ready to be called with so many arguments; ds fills up -/
structure CalC (P : Program) (w : World) (K : PySem.W.Frag) (mg : Str → Option Value) (base : Heap) (k : Nat) (x : Str) (C : Addr) (ps : List Str) (ds : List V) (sp : Sp) where
  f : Addr
  fd : FuncData
  us : List Value
  ok : FnOk P w K mg base CX0 k f fd ps sp
  mkr : Mk K C f
  g : mg x = some (.ref C)
  b : Binds K fd ps us
  d : Vals ds us
/-- a method, ready to be called -/
structure CalM (P : Program) (w : World) (K : PySem.W.Frag) (mg : Str → Option Value) (base : Heap) (k : Nat) (m : Str) (C : Addr) (ps : List Str) (sp : Sp) where
  f : Addr
  fd : FuncData
  ok : FnOk P w K mg base CX0 k f fd ps sp
  me : Meth K C m f
  b : Binds K fd ps []
theorem _root_.L2.Meth.cast {K : PySem.W.Frag} {C f : Addr} {m m' : Str} (M : Meth K C m f) (e : m = m') : Meth K C m' f := e ▸ M
section
variable {X : Cx} {k : Nat} {x m : Str} {C : Addr} {ps : List Str} {ds : List V} {sp : Sp} {e o : Expr} {es : List Expr} {t : TA} {ta : TE} {p pos apos : Pos}
theorem pe_new (N : CalC X.prog X.w X.K X.mg X.base k x C ps ds sp) (hr : Room (k + 1) X.A) (ha : PA X (e :: es) t) (hg : Gl X x := by rfl) (hdb : (x == ("__debug__" : Str)) = false := by decide)
    (he : starEach (e :: es) X.env = (false, eval e X.env) :: starEach es X.env := by rfl) (hpl : (backTo pos (starEach es X.env)).any (·.1) = false := by rfl) :
    PE X (.Call (.Name x p) (e :: es) [] pos) (tMake C sp ds E0 t) :=
  pe_make N.mkr N.ok hr hg N.g N.b N.d pass0 ha hdb he hpl
end
/-- what the text says of a class whose objects are told by fields alone -/
structure OwnK (K : PySem.W.Frag) (C : Addr) : Prop where
  cls : Cls K C
  sf : PySem.W.selfFirst K C = true
  si : PySem.W.subIn K (.type "int") (.ref C) = some false
  ne : PySem.W.findIn K (.ref C) "__ne__" = some (some (.builtin "object.__ne__"))
  mo : PySem.W.mroIn K C (.type "object") = some true
  ca : PySem.W.findIn K (.ref C) "__class__" = some (some (.builtin "object.__class__"))
  cg : PySem.W.specialIn K (.builtin "object.__class__") "__get__" = some (some (.builtin "getset_descriptor.__get__"))
  ct : PySem.W.takesIn K (.builtin "object.__class__") = some true
  kk : PySem.W.kitOne K (.ref C) (.ref C) = some true
  ki : PySem.W.kitOne K (.type "int") (.ref C) = some false
theorem OwnK.ty {K : PySem.W.Frag} {C : Addr} {H : Hp} {a : Addr} (o : OwnK K C) (h : Ins H a C) : TyX K H (.ref a) (.ref C) := by
  obtain ⟨dx, fs, e⟩ := h
  exact .base (.ins e o.cls o.ca o.cg o.ct o.mo)
theorem ownB_ok {K : PySem.W.Frag} {x : Str} (c : Cls K (He.ga K x)) (h : ownB K x = true) : OwnK K (He.ga K x) := by
  obtain ⟨h1, h⟩ := He.ba h
  obtain ⟨h2, h⟩ := He.ba h
  obtain ⟨h3, h⟩ := He.ba h
  obtain ⟨h4, h⟩ := He.ba h
  obtain ⟨h5, h⟩ := He.ba h
  obtain ⟨h6, h⟩ := He.ba h
  obtain ⟨h7, h⟩ := He.ba h
  obtain ⟨h8, h9⟩ := He.ba h
  exact ⟨c, h1, of_decide_eq_true h2, He.eqO_ok h3, of_decide_eq_true h4, He.eqO_ok h5, He.eqO_ok h6, of_decide_eq_true h7, of_decide_eq_true h8, of_decide_eq_true h9⟩
/-- e.f where K is told from outside (within a comprehension) -/
theorem pe_fldK {X : Cx} {K : PySem.W.Frag} {e : Expr} {f : Str} {pos : Pos} {ta : TE} (hK : X.K = K) (he : PE X e ta) (hb : attributeBase e f X.env (eval e X.env) = eval e X.env) : PE X (.Attribute e f pos) (tFld K ta f) := hK ▸ pe_fld he hb
theorem pg_tupK {X : Cx} {K : PySem.W.Frag} {es : List Expr} {k : Nat} {t : TGs} {n : Nat} {pos : Pos} (hK : X.K = K) (hc : X.calm = true) (h : PGs X es t)
    (hn : (assignEach es X.env).length = n := by rfl) (hst : (assignEach es X.env).findIdx? (·.1) = none := by rfl) : PG X (.Tuple es k pos) (gTup K n t) := hK ▸ pg_tup hc h hn hst
theorem walk_zipT {K : PySem.W.Frag} {a b : Addr} {xs ys : List V} {n : Nat} (h1 : xs.length = n) (h2 : ys.length = n) : Walk (RZ.ItzT K a b) n (fun H => SqT K H a xs ∧ SqT K H b ys) (YPair (fun i => xs[i]?) (fun i => ys[i]?)) :=
  ⟨fun i H hi q => ⟨xs, ys, xs[i], ys[i], q.1, q.2, by simp, by simp⟩, fun H q => ⟨xs, ys, q.1, q.2, .inl (Nat.le_of_eq h1)⟩, fun i H x H' hi q y => by
    obtain ⟨T, u, v, e, hT, eH, g1, g2⟩ := y
    exact ⟨T, u, v, e, hT, eH, g1 xs q.1, g2 ys q.2⟩⟩
theorem ifnb {b : Bool} {A B : Prop} (h1 : b = false → A) (h2 : b = true → B) : if (!b) = true then A else B := by
  cases b with
  | false => exact h1 rfl
  | true => exact h2 rfl
end Sf

namespace Sf
open PySem PySem.Spec PyProof.Rows L2
def sgnI (t : Int) : Int := if t = 0 then 0 else if t > 0 then 1 else -1
/-- lowest terms -/
def LowT (t b t' b' : Int) : Prop := 0 < b' ∧ t * b' = t' * b ∧ t'.natAbs.gcd b'.natAbs = 1
theorem low_of {t b : Int} (hb : b ≠ 0) : (((t.natAbs.gcd b.natAbs : Nat) : Int) ≠ 0) ∧ LowT t b (t.fdiv (if b < 0 then -((t.natAbs.gcd b.natAbs : Nat) : Int) else ((t.natAbs.gcd b.natAbs : Nat) : Int))) (b.fdiv (if b < 0 then -((t.natAbs.gcd b.natAbs : Nat) : Int) else ((t.natAbs.gcd b.natAbs : Nat) : Int))) := by
  have g0 : 0 < t.natAbs.gcd b.natAbs := Nat.gcd_pos_of_pos_right _ (by omega)
  obtain ⟨u, hu⟩ := (Int.natAbs_dvd_natAbs.mp (show t.natAbs.gcd b.natAbs ∣ t.natAbs from Nat.gcd_dvd_left _ _) : ((t.natAbs.gcd b.natAbs : Nat) : Int) ∣ t)
  obtain ⟨v, hv⟩ := (Int.natAbs_dvd_natAbs.mp (show t.natAbs.gcd b.natAbs ∣ b.natAbs from Nat.gcd_dvd_right _ _) : ((t.natAbs.gcd b.natAbs : Nat) : Int) ∣ b)
  refine ⟨by omega, ?_⟩
  have hc : (t.natAbs / (t.natAbs.gcd b.natAbs)).gcd (b.natAbs / (t.natAbs.gcd b.natAbs)) = 1 := by
    rw [Nat.gcd_div (Nat.gcd_dvd_left _ _) (Nat.gcd_dvd_right _ _), Nat.div_self g0]
  generalize t.natAbs.gcd b.natAbs = g at *
  have gi : (0 : Int) < g := by omega
  have eu : t.natAbs / g = u.natAbs := by
    rw [hu, Int.natAbs_mul, Int.natAbs_natCast, Nat.mul_div_cancel_left _ g0]
  have ev : b.natAbs / g = v.natAbs := by
    rw [hv, Int.natAbs_mul, Int.natAbs_natCast, Nat.mul_div_cancel_left _ g0]
  rw [eu, ev] at hc
  by_cases c : b < 0
  · rw [if_pos c]
    have e1 : t.fdiv (-(g : Int)) = -u := by
      rw [show t = (-(g : Int)) * (-u) by rw [Int.neg_mul_neg]; exact hu]
      exact Int.mul_fdiv_cancel_left _ (by omega)
    have e2 : b.fdiv (-(g : Int)) = -v := by
      rw [show b = (-(g : Int)) * (-v) by rw [Int.neg_mul_neg]; exact hv]
      exact Int.mul_fdiv_cancel_left _ (by omega)
    rw [e1, e2]
    refine ⟨?_, ?_, by rw [Int.natAbs_neg, Int.natAbs_neg]; exact hc⟩
    · by_cases v0 : 0 ≤ v
      · have := Int.mul_nonneg (Int.le_of_lt gi) v0
        omega
      · omega
    · rw [hu, hv]; grind
  · rw [if_neg c]
    have e1 : t.fdiv (g : Int) = u := by
      rw [hu]
      exact Int.mul_fdiv_cancel_left _ (by omega)
    have e2 : b.fdiv (g : Int) = v := by
      rw [hv]
      exact Int.mul_fdiv_cancel_left _ (by omega)
    rw [e1, e2]
    refine ⟨?_, ?_, hc⟩
    · by_cases v0 : v ≤ 0
      · have := Int.mul_nonneg (Int.le_of_lt gi) (show 0 ≤ -v by omega)
        rw [Int.mul_neg] at this
        omega
      · omega
    · rw [hu, hv]; grind
section
variable {P : Program} {w : World} {K : PySem.W.Frag} {mg : Str → Option Value} {base : Heap} {f : Addr} {fd : FuncData} {CR : Addr}
def spPassed (K : PySem.W.Frag) : Sp := fun vs H Q _ => ∃ (x : V) (b : Bool), vs = [x] ∧ IntB K H x b ∧ (b = true ↔ ∃ n, x = .int n) ∧ ∀ r : Bool, (r = true ↔ ∃ n : Int, x = .int n ∧ n.natAbs < 10 ^ 60) → Q (.bl r) H
theorem ok_is_passed (F : FnD K "is_passed" "is_passed" s_P_is_passed f fd) (T : Glob mg) (C_P_is_integer : Cal P w K mg base 1 "is_integer" ["value"] (spIsInt K)) : FnOk P w K mg base CX0 2 f fd ["value"] (spPassed K) := by
  refine F.ok sc_P_is_passed (fun vs H Q E h => ?_) (fun cdv A outer s H vs Q E hr h => ?_)
  · obtain ⟨x, b, rfl, _⟩ := h; rfl
  · obtain ⟨x, b, rfl, hb, hi, q⟩ := h
    obtain ⟨tM, hc_TOO_LONG⟩ := T.m_TOO_LONG
    refine ⟨_, PSs.nox (pss_one (ps_ret (pe_and (pe_cal C_P_is_integer (hr.mono (by decide)) (pa_cons (pv 0) pa_nil)) (pe_one (pe_cmp (pc_lt (pe_callB call_abs (by rfl) T.m_abs (by decide +kernel) (pa_cons (pv 0) pa_nil)) (pe_glob (v := .int 1000000000000000000000000000000000000000000000000000000000000) rfl hc_TOO_LONG ⟨_, rfl⟩)) rfl))))), ?_⟩
    refine ⟨_, rfl, x, b, rfl, hb, ?_⟩
    cases b with
    | false =>
      refine ⟨_, rfl, ?_⟩
      exact q false ⟨fun z => Bool.noConfusion z, fun ⟨n, e, _⟩ => hi.mpr ⟨n, e⟩⟩
    | true =>
      obtain ⟨n, rfl⟩ := hi.mp rfl
      refine ⟨_, rfl, _, rfl, n, rfl, _, _, rfl, rfl, ?_⟩
      have e60 : (10 : Nat) ^ 60 = 1000000000000000000000000000000000000000000000000000000000000 := by decide +kernel
      refine q _ ?_
      rw [decide_eq_true_iff, e60]
      constructor
      · intro h
        refine ⟨n, rfl, ?_⟩
        split at h <;> omega
      · rintro ⟨m, e, h⟩
        cases e
        split <;> omega
def spLowest : Sp := fun vs H Q _ => ∃ t b : Int, vs = [.int t, .int b] ∧ b ≠ 0 ∧ b.natAbs < 2 ^ 8000 ∧ ∀ (t' b' : Int) (a : Addr), LowT t b t' b' → H a = none → Q (.ref a) (upd H a (.tup [.int t', .int b']))
theorem ok_lowest_terms (F : FnD K "lowest_terms" "lowest_terms" s_P_lowest_terms f fd) (T : Glob mg) : FnOk P w K mg base CX0 1 f fd ["top", "bottom"] spLowest := by
  refine F.ok sc_P_lowest_terms (fun vs H Q E h => ?_) (fun cdv A outer s H vs Q E hr h => ?_)
  · obtain ⟨t, b, rfl, _⟩ := h; rfl
  · obtain ⟨t, b, rfl, b0, bb, q⟩ := h
    refine ⟨_, PSs.nox (pss_cons (ps_set (i := 2) sc_P_lowest_terms.nd rfl (Or.inl rfl) (pe_callGB cr_gcd (by rfl) T.m_gcd (pa_cons (pv 0) (pa_cons (pv 1) pa_nil))))
      (Evl.pss_cut (ps_if (pt_cmp (pc_lt (pv 1) pe_int)) (pss_one (ps_set (i := 2) sc_P_lowest_terms.nd rfl (Or.inl rfl) (pe_un un_neg (pv 2)))) pss_nil)
      (pss_one (ps_ret (pe_tup (pa_cons (pe_op op_fdivZ (pv 0) (pv 2)) (pa_cons (pe_op op_fdivZ (pv 1) (pv 2)) pa_nil))))))), ?_⟩
    obtain ⟨g0, hl⟩ := low_of (t := t) b0
    have gb : t.natAbs.gcd b.natAbs < 2 ^ 8000 := Nat.lt_of_le_of_lt (Nat.le_of_dvd (by omega) (Nat.gcd_dvd_right _ _)) bb
    refine ⟨_, rfl, _, rfl, t, b, rfl, ?_⟩
    generalize ((t.natAbs.gcd b.natAbs : Nat)) = g at *
    refine ⟨fun σ' H' => σ' = [some (.int t), some (.int b), some (.int (if b < 0 then -(g : Int) else (g : Int)))] ∧ H = H', ?_, ?_⟩
    · refine ⟨_, rfl, _, _, rfl, rfl, _, rfl, ifd (fun h => ?_) (fun h => ?_)⟩
      · rw [if_pos h]
        exact ⟨_, rfl, _, rfl, rfl, rfl⟩
      · rw [if_neg h]
        exact ⟨rfl, rfl⟩
    · rintro σ' _ ⟨rfl, rfl⟩
      have c0 : (if b < 0 then -(g : Int) else (g : Int)) ≠ 0 := by split <;> omega
      have cb : (if b < 0 then -(g : Int) else (g : Int)).natAbs < 2 ^ 8000 := by split <;> omega
      generalize (if b < 0 then -(g : Int) else (g : Int)) = c at *
      exact ⟨_, rfl, _, rfl, _, _, rfl, rfl, CDivZ.of c0 cb, _, rfl, _, rfl, _, _, rfl, rfl, CDivZ.of c0 cb, (by show 2 ≤ sizeLine; decide), fun a ha => q _ _ a hl ha⟩
def spSignOf : Sp := fun vs H Q _ => ∃ t : Int, vs = [.int t] ∧ Q (.int (sgnI t)) H
theorem ok_sign_of (F : FnD K "sign_of" "sign_of" s_P_sign_of f fd) : FnOk P w K mg base CX0 1 f fd ["number"] spSignOf := by
  refine F.ok sc_P_sign_of (fun vs H Q E h => ?_) (fun cdv A outer s H vs Q E hr h => ?_)
  · obtain ⟨t, rfl, _⟩ := h; rfl
  · obtain ⟨t, rfl, q⟩ := h
    refine ⟨_, PSs.nox (pss_cons (ps_if (pt_cmp (pc_eqI (pv 0) pe_int)) (pss_one (ps_ret pe_int)) pss_nil)
      (pss_one (ps_ret (pe_ifExp (pt_cmp (pc_gt (pv 0) pe_int)) pe_int (pe_un un_neg pe_int))))), ?_⟩
    unfold sgnI at q
    refine ⟨_, rfl, _, _, rfl, rfl, _, rfl, ifd (fun h => ?_) (fun h => ?_)⟩
    · rw [if_pos h] at q
      exact q
    · rw [if_neg h] at q
      refine ⟨_, rfl, _, _, rfl, rfl, _, rfl, ifd (fun h2 => ?_) (fun h2 => ?_)⟩
      · rw [if_pos h2] at q
        exact q
      · rw [if_neg h2] at q
        exact ⟨_, rfl, q⟩
/-- a ratio in lowest terms -/
def RatioAt (CR : Addr) (H : Hp) (a : Addr) (t b : Int) : Prop := ∃ dx, H a = some (.ins CR dx [("top", .int t), ("bottom", .int b), ("sign", .int (sgnI t))])
theorem RatioAt.ins {H : Hp} {a : Addr} {t b : Int} (h : RatioAt CR H a t b) : Ins H a CR := let ⟨dx, e⟩ := h; ⟨dx, _, e⟩
theorem RatioAt.same {H H' : Hp} {a : Addr} {t b : Int} (h : RatioAt CR H a t b) (s : Same H H') : RatioAt CR H' a t b := let ⟨dx, e⟩ := h; ⟨dx, s _ _ e⟩
structure RatioK (K : PySem.W.Frag) (CR : Addr) : Prop where
  own : OwnK K CR
  nt : NoAttr K CR "top"
  nb : NoAttr K CR "bottom"
  ns : NoAttr K CR "sign"
structure RatInitP (CR : Addr) (vs : List V) (H : Hp) (Q : VK) : Prop where
  ex : ∃ (a dx : Addr) (t b : Int), vs = [.ref a, .int t, .int b] ∧ b ≠ 0 ∧ t.natAbs < 10 ^ 60 ∧ b.natAbs < 10 ^ 60 ∧ H a = some (.ins CR dx []) ∧ ∀ (t' b' : Int) (H' : Hp), LowT t b t' b' → Keep a H H' → RatioAt CR H' a t' b' → Q .non H'
def spRatInit (CR : Addr) : Sp := fun vs H Q _ => RatInitP CR vs H Q
theorem ok_Ratio_init (F : FnDD K "__init__" "Ratio.__init__" s_P_Ratio___init__ [.int 1] f fd) (R : RatioK K CR) (C_P_is_passed : Cal P w K mg base 2 "is_passed" ["value"] (spPassed K)) (C_P_lowest_terms : Cal P w K mg base 1 "lowest_terms" ["top", "bottom"] spLowest) (C_P_sign_of : Cal P w K mg base 1 "sign_of" ["number"] spSignOf) :
    FnOk P w K mg base CX0 3 f fd ["self", "top", "bottom"] (spRatInit CR) := by
  refine F.ok sc_P_Ratio___init__ (fun vs H Q E h => ?_) (fun cdv A outer s H vs Q E hr h => ?_)
  · obtain ⟨a, dx, t, b, rfl, _⟩ := h.ex; rfl
  · obtain ⟨a, dx, t, b, rfl, b0, tb, bb, ha, q⟩ := h.ex
    refine ⟨_, PSs.nox (pss_cons (ps_if (pt_not (pt_val (pe_cal C_P_is_passed (hr.mono (by decide)) (pa_cons (pv 1) pa_nil)))) (pss_one ps_never) pss_nil)
      (pss_cons (ps_if (PW.pt (pw_or (pt_not (pt_val (pe_cal C_P_is_passed (hr.mono (by decide)) (pa_cons (pv 2) pa_nil)))) (pw_or1 (pt_cmp (pc_eqI (pv 2) pe_int))))) (pss_one ps_never) pss_nil)
      (pss_cons (ps_asg (pe_cal C_P_lowest_terms (hr.mono (by decide)) (pa_cons (pv 1) (pa_cons (pv 2) pa_nil))) (pg_tup (by rfl) (pgs_cons (pg_attr (pv 0)) (pgs_cons (pg_attr (pv 0)) pgs_nil))))
      (pss_one (ps_fld (pv 0) (pe_cal C_P_sign_of (hr.mono (by decide)) (pa_cons (pe_fld (pv 0) rfl) pa_nil)) rfl))))), ?_⟩
    refine ⟨_, rfl, .int t, true, rfl, .int t, ⟨fun _ => ⟨t, rfl⟩, fun _ => rfl⟩, fun r hr2 => ⟨_, rfl, ?_⟩⟩
    have e : r = true := hr2.mpr ⟨t, rfl, tb⟩
    subst e
    refine ⟨_, rfl, .int b, true, rfl, .int b, ⟨fun _ => ⟨b, rfl⟩, fun _ => rfl⟩, fun r hr2 => ⟨_, rfl, ?_⟩⟩
    have e : r = true := hr2.mpr ⟨b, rfl, bb⟩
    subst e
    refine ⟨_, rfl, _, _, rfl, rfl, _, rfl, ifd (fun h => absurd h b0) (fun _ => ?_)⟩
    refine ⟨_, rfl, _, rfl, t, b, rfl, b0, Nat.lt_trans bb (by decide +kernel), fun t' b' c hl hc => ?_⟩
    have nac : a ≠ c := ne_of_none ha hc
    refine ⟨c, _, rfl, .inl (.inl upd_same), rfl, _, _, rfl, _, rfl, a, CR, dx, [], rfl, by rw [upd_ne nac]; exact ha, R.own.cls, R.nt, by decide, ?_⟩
    refine ⟨_, _, rfl, _, rfl, a, CR, dx, _, rfl, upd_same, R.own.cls, R.nb, (by show 1 < 1000; decide), rfl, ?_⟩
    refine ⟨_, rfl, a, CR, dx, _, .int t', rfl, upd_same, R.own.cls, R.nt, rfl, t', rfl, ?_⟩
    refine ⟨_, rfl, a, CR, dx, _, rfl, upd_same, R.own.cls, R.ns, (by show 2 < 1000; decide), ?_⟩
    refine q t' b' _ hl (fun d o e n => ?_) ⟨dx, upd_same⟩
    rw [upd_ne n, upd_ne n, upd_ne n, upd_ne (ne_of_none e hc)]
    exact e
def spMadeRatio (CR : Addr) : Sp := fun vs H Q _ => ∃ t b : Int, vs = [.int t, .int b] ∧ b ≠ 0 ∧ b.natAbs < 2 ^ 8000 ∧ ∀ (t' b' : Int) (a : Addr) (H' : Hp), LowT t b t' b' → H a = none → Same H H' → RatioAt CR H' a t' b' → Q (.ref a) H'
theorem ok_made_ratio (F : FnD K "made_ratio" "made_ratio" s_P_made_ratio f fd) (R : RatioK K CR) (C_P_lowest_terms : Cal P w K mg base 1 "lowest_terms" ["top", "bottom"] spLowest) (C_P_sign_of : Cal P w K mg base 1 "sign_of" ["number"] spSignOf)
    (N_Ratio_1 : CalC P w K mg base 3 "Ratio" CR ["self", "top", "bottom"] [.int 1] (spRatInit CR)) : FnOk P w K mg base CX0 5 f fd ["top", "bottom"] (spMadeRatio CR) := by
  refine F.ok sc_P_made_ratio (fun vs H Q E h => ?_) (fun cdv A outer s H vs Q E hr h => ?_)
  · obtain ⟨t, b, rfl, _⟩ := h; rfl
  · obtain ⟨t, b, rfl, b0, bb, q⟩ := h
    refine ⟨_, PSs.nox (pss_cons (ps_set (i := 2) sc_P_made_ratio.nd rfl (Or.inl rfl) (pe_cal C_P_lowest_terms (hr.mono (by decide)) (pa_cons (pv 0) (pa_cons (pv 1) pa_nil))))
      (pss_cons (ps_set (i := 3) sc_P_made_ratio.nd rfl (Or.inl rfl) (pe_new N_Ratio_1 (hr.mono (by decide)) (pa_cons pe_int pa_nil)))
      (pss_cons (ps_fld (pv 3) (pe_ix ix_tup (pv 2) pe_int (fun _ _ => rfl)) rfl)
      (pss_cons (ps_fld (pv 3) (pe_ix ix_tup (pv 2) pe_int (fun _ _ => rfl)) rfl)
      (pss_cons (ps_fld (pv 3) (pe_cal C_P_sign_of (hr.mono (by decide)) (pa_cons (pe_ix ix_tup (pv 2) pe_int (fun _ _ => rfl)) pa_nil)) rfl)
      (pss_one (ps_ret (pv 3)))))))), ?_⟩
    refine ⟨_, rfl, _, rfl, t, b, rfl, b0, bb, fun t' b' c hl hc => ?_⟩
    refine fun x dx hx hdx nd => ⟨x, dx, 0, 1, rfl, by decide, by decide +kernel, by decide +kernel, upd_same, fun t0 b1 H1 _ k1 ⟨dx2, r1⟩ => ⟨rfl, ?_⟩⟩
    have ncx : c ≠ x := ne_of_none upd_same hx
    have ncd : c ≠ dx := ne_of_none upd_same hdx
    have hcH : H1 c = some (.tup [.int t', .int b']) := k1 _ _ (by rw [upd_ne ncx, upd_ne ncd, upd_same]) ncx
    have hT : ∀ {H' : Hp} {o : HO}, H' c = some (.tup [.int t', .int b']) → (upd H' x o) c = some (.tup [.int t', .int b']) := fun {H' o} h => by
      rw [upd_ne ncx]
      exact h
    refine ⟨_, rfl, c, _, 0, .int t', rfl, rfl, SqT.of hcH, rfl, _, rfl, x, CR, dx2, _, rfl, r1, R.own.cls, R.nt, (by show 3 < 1000; decide), ?_⟩
    refine ⟨_, rfl, c, _, 1, .int b', rfl, rfl, SqT.of (hT hcH), rfl, _, rfl, x, CR, dx2, _, rfl, upd_same, R.own.cls, R.nb, (by show 3 < 1000; decide), ?_⟩
    refine ⟨_, rfl, c, _, 0, .int t', rfl, rfl, SqT.of (hT (hT hcH)), rfl, t', rfl, _, rfl, x, CR, dx2, _, rfl, upd_same, R.own.cls, R.ns, (by show 3 < 1000; decide), ?_⟩
    have hxH : H x = none := by
      have z := hx
      rw [upd_ne ncx.symm] at z
      exact z
    refine ⟨_, rfl, q t' b' x _ hl hxH (fun d o e => ?_) ⟨dx2, upd_same⟩⟩
    have nd1 : d ≠ x := ne_of_none e hxH
    have hdH : H dx = none := by
      have z := hdx
      rw [upd_ne ncd.symm] at z
      exact z
    rw [upd_ne nd1, upd_ne nd1, upd_ne nd1]
    refine k1 _ _ ?_ nd1
    rw [upd_ne nd1, upd_ne (ne_of_none e hdH), upd_ne (ne_of_none e hc)]
    exact e
end
end Sf

namespace Sf
open PySem PySem.Spec PyProof.Rows L2
section
variable {P : Program} {w : World} {K : PySem.W.Frag} {mg : Str → Option Value} {base : Heap} {f : Addr} {fd : FuncData} {CR : Addr}
/-- a ratio, or an integer that can be passed -/
inductive RatV (CR : Addr) (H : Hp) : V → Int → Int → Prop
  | rat {a : Addr} {t b : Int} (h : RatioAt CR H a t b) : RatV CR H (.ref a) t b
  | int {t : Int} (h : t.natAbs < 10 ^ 60) : RatV CR H (.int t) t 1
theorem RatV.same {H H' : Hp} {x : V} {t b : Int} (h : RatV CR H x t b) (s : Same H H') : RatV CR H' x t b := by
  cases h with
  | rat h => exact .rat (h.same s)
  | int h => exact .int h
def spRatV (CR : Addr) (v : V) : Sp := fun vs H Q _ => ∃ (x : V) (t b : Int), vs = [x] ∧ RatV CR H x t b ∧ Q v H
theorem ok_is_fraction (F : FnD K "is_fraction" "is_fraction" s_P_is_fraction f fd) (T : Glob mg) (R : RatioK K CR) (G_Ratio : mg "Ratio" = some (.ref CR)) (C_P_is_passed : Cal P w K mg base 2 "is_passed" ["value"] (spPassed K)) : FnOk P w K mg base CX0 3 f fd ["value"] (spRatV CR (.bl true)) := by
  refine F.ok sc_P_is_fraction (fun vs H Q E h => ?_) (fun cdv A outer s H vs Q E hr h => ?_)
  · obtain ⟨x, t, b, rfl, _⟩ := h; rfl
  · obtain ⟨x, t, b, rfl, hx, q⟩ := h
    refine ⟨_, PSs.nox (pss_one (ps_ret (pe_or (pe_callB call_isi (by rfl) T.m_isinstance (by decide +kernel) (pa_cons (pv 0) (pa_cons (pe_glob (v := .ref _) rfl G_Ratio rfl) pa_nil))) (pe_one (pe_cal C_P_is_passed (hr.mono (by decide)) (pa_cons (pv 0) pa_nil)))))), ?_⟩
    cases hx with
    | rat hx =>
      exact ⟨_, rfl, _, .ref CR, _, _, true, rfl, .own CR, R.own.ty hx.ins, R.own.kk, _, rfl, q⟩
    | int hb =>
      refine ⟨_, rfl, _, .ref CR, _, _, false, rfl, .own CR, .base (.int _), R.own.ki, _, rfl, ?_⟩
      refine ⟨_, rfl, .int t, true, rfl, .int t, ⟨fun _ => ⟨t, rfl⟩, fun _ => rfl⟩, fun r hr2 => ?_⟩
      have e : r = true := hr2.mpr ⟨t, rfl, hb⟩
      subst e
      exact q
theorem ok_check_ratio (F : FnD K "check_ratio" "check_ratio" s_P_check_ratio f fd) (C_P_is_fraction : Cal P w K mg base 3 "is_fraction" ["value"] (spRatV CR (.bl true))) : FnOk P w K mg base CX0 4 f fd ["value"] (spRatV CR .non) := by
  refine F.ok sc_P_check_ratio (fun vs H Q E h => ?_) (fun cdv A outer s H vs Q E hr h => ?_)
  · obtain ⟨x, t, b, rfl, _⟩ := h; rfl
  · obtain ⟨x, t, b, rfl, hx, q⟩ := h
    refine ⟨_, PSs.nox (pss_one (ps_if (pt_not (pt_val (pe_cal C_P_is_fraction (hr.mono (by decide)) (pa_cons (pv 0) pa_nil)))) (pss_one ps_never) pss_nil)), ?_⟩
    exact ⟨_, rfl, x, t, b, rfl, hx, _, rfl, q⟩
def spTermsOf (CR : Addr) : Sp := fun vs H Q _ => ∃ (x : V) (t b : Int), vs = [x] ∧ RatV CR H x t b ∧ ∀ a, H a = none → Q (.ref a) (upd H a (.tup [.int t, .int b]))
theorem ok_terms_of (F : FnD K "terms_of" "terms_of" s_P_terms_of f fd) (T : Glob mg) (R : RatioK K CR) (G_Ratio : mg "Ratio" = some (.ref CR)) : FnOk P w K mg base CX0 1 f fd ["ratio"] (spTermsOf CR) := by
  refine F.ok sc_P_terms_of (fun vs H Q E h => ?_) (fun cdv A outer s H vs Q E hr h => ?_)
  · obtain ⟨x, t, b, rfl, _⟩ := h; rfl
  · obtain ⟨x, t, b, rfl, hx, q⟩ := h
    refine ⟨_, PSs.nox (pss_cons (ps_if (pt_val (pe_callB call_isi (by rfl) T.m_isinstance (by decide +kernel) (pa_cons (pv 0) (pa_cons (pe_glob (v := .ref _) rfl G_Ratio rfl) pa_nil)))) (pss_one (ps_ret (pe_tup (pa_cons (pe_fld (pv 0) rfl) (pa_cons (pe_fld (pv 0) rfl) pa_nil))))) pss_nil)
      (pss_one (ps_ret (pe_tup (pa_cons (pv 0) (pa_cons pe_int pa_nil)))))), ?_⟩
    cases hx with
    | @rat a _ _ hx =>
      obtain ⟨dx, e⟩ := hx
      refine ⟨_, rfl, _, .ref CR, _, _, true, rfl, .own CR, R.own.ty ⟨dx, _, e⟩, R.own.kk, _, rfl, ?_⟩
      exact ⟨_, rfl, a, CR, dx, _, .int t, rfl, e, R.own.cls, R.nt, rfl, _, rfl, a, CR, dx, _, .int b, rfl, e, R.own.cls, R.nb, rfl, (by show 2 ≤ sizeLine; decide), fun c hc => q c hc⟩
    | int hb =>
      refine ⟨_, rfl, _, .ref CR, _, _, false, rfl, .own CR, .base (.int _), R.own.ki, _, rfl, ?_⟩
      exact ⟨_, rfl, (by show 2 ≤ sizeLine; decide), fun c hc => q c hc⟩
structure RatOpP (CR : Addr) (g h : Int → Int → Int → Int → Int) (vs : List V) (H : Hp) (Q : VK) : Prop where
  ex : ∃ (a : Addr) (y : V) (t b t2 b2 : Int), vs = [.ref a, y] ∧ RatioAt CR H a t b ∧ RatV CR H y t2 b2 ∧ t.natAbs < 2 ^ 3000 ∧ b.natAbs < 2 ^ 3000 ∧ t2.natAbs < 2 ^ 3000 ∧ b2.natAbs < 2 ^ 3000 ∧ h t b t2 b2 ≠ 0 ∧
    ∀ (t' b' : Int) (x : Addr) (H' : Hp), LowT (g t b t2 b2) (h t b t2 b2) t' b' → H x = none → Same H H' → RatioAt CR H' x t' b' → Q (.ref x) H'
def spRatOp (CR : Addr) (g h : Int → Int → Int → Int → Int) : Sp := fun vs H Q _ => RatOpP CR g h vs H Q
theorem mul3000 {x y : Int} (hx : x.natAbs < 2 ^ 3000) (hy : y.natAbs < 2 ^ 3000) : (x * y).natAbs < 2 ^ 6000 := by
  rw [Int.natAbs_mul, show (6000 : Nat) = 3000 + 3000 from rfl, Nat.pow_add]
  exact Nat.mul_lt_mul'' hx hy
theorem mul8000 {x y : Int} (hx : x.natAbs < 2 ^ 3000) (hy : y.natAbs < 2 ^ 3000) : (x * y).natAbs < 2 ^ 8000 := Nat.lt_of_lt_of_le (mul3000 hx hy) (Nat.pow_le_pow_right (by decide) (by decide))
theorem ok_Ratio_add (F : FnD K "__add__" "Ratio.__add__" s_P_Ratio___add__ f fd) (R : RatioK K CR) (C_P_is_fraction : Cal P w K mg base 3 "is_fraction" ["value"] (spRatV CR (.bl true))) (C_P_terms_of : Cal P w K mg base 1 "terms_of" ["ratio"] (spTermsOf CR)) (C_P_made_ratio : Cal P w K mg base 5 "made_ratio" ["top", "bottom"] (spMadeRatio CR)) :
    FnOk P w K mg base CX0 6 f fd ["self", "other"] (spRatOp CR (fun t b t2 b2 => t * b2 + t2 * b) (fun _ b _ b2 => b * b2)) := by
  refine F.ok sc_P_Ratio___add__ (fun vs H Q E h => ?_) (fun cdv A outer s H vs Q E hr h => ?_)
  · obtain ⟨a, y, t, b, t2, b2, rfl, _⟩ := h.ex; rfl
  · obtain ⟨a, y, t, b, t2, b2, rfl, ⟨dx, ha⟩, hy, h1, h2, h3, h4, h5, q⟩ := h.ex
    refine ⟨_, PSs.nox (pss_cons (ps_if (pt_not (pt_val (pe_cal C_P_is_fraction (hr.mono (by decide)) (pa_cons (pv 1) pa_nil)))) (pss_one ps_never) pss_nil)
      (pss_cons (ps_asg (pe_cal C_P_terms_of (hr.mono (by decide)) (pa_cons (pv 1) pa_nil)) (pg_tup (by rfl) (pgs_cons (pg_name (i := 2) sc_P_Ratio___add__.nd rfl (Or.inl rfl)) (pgs_cons (pg_name (i := 3) sc_P_Ratio___add__.nd rfl (Or.inl rfl)) pgs_nil))))
      (pss_one (ps_ret (pe_cal C_P_made_ratio (hr.mono (by decide)) (pa_cons (pe_op op_add (pe_op op_mulW (pe_fld (pv 0) rfl) (pv 3)) (pe_op op_mulW (pv 2) (pe_fld (pv 0) rfl))) (pa_cons (pe_op op_mulW (pe_fld (pv 0) rfl) (pv 3)) pa_nil))))))), ?_⟩
    refine ⟨_, rfl, y, t2, b2, rfl, hy, _, rfl, ?_⟩
    refine ⟨_, rfl, y, t2, b2, rfl, hy, fun c hc => ⟨c, _, rfl, .inl (.inl upd_same), rfl, _, _, rfl, _, _, rfl, rfl, ?_⟩⟩
    have hac : (upd H c (.tup [.int t2, .int b2])) a = _ := (upd_ne (ne_of_none ha hc)).trans ha
    refine ⟨_, rfl, a, CR, dx, _, .int t, rfl, hac, R.own.cls, R.nt, rfl, _, rfl, _, _, rfl, rfl, CMulW.of h1 h4, _, rfl, _, rfl, a, CR, dx, _, .int b, rfl, hac, R.own.cls, R.nb, rfl, _, _, rfl, rfl, CMulW.of h3 h2, _, _, rfl, rfl, ?_⟩
    refine ⟨_, rfl, a, CR, dx, _, .int b, rfl, hac, R.own.cls, R.nb, rfl, _, rfl, _, _, rfl, rfl, CMulW.of h2 h4, ?_⟩
    exact ⟨_, _, rfl, h5, mul8000 h2 h4, fun t' b' x H' hl hx e hR => q t' b' x H' hl ((same_upd hc).free hx) ((same_upd hc).trans e) hR⟩
theorem ok_Ratio_sub (F : FnD K "__sub__" "Ratio.__sub__" s_P_Ratio___sub__ f fd) (R : RatioK K CR) (C_P_is_fraction : Cal P w K mg base 3 "is_fraction" ["value"] (spRatV CR (.bl true))) (C_P_terms_of : Cal P w K mg base 1 "terms_of" ["ratio"] (spTermsOf CR)) (C_P_made_ratio : Cal P w K mg base 5 "made_ratio" ["top", "bottom"] (spMadeRatio CR)) :
    FnOk P w K mg base CX0 6 f fd ["self", "other"] (spRatOp CR (fun t b t2 b2 => t * b2 - t2 * b) (fun _ b _ b2 => b * b2)) := by
  refine F.ok sc_P_Ratio___sub__ (fun vs H Q E h => ?_) (fun cdv A outer s H vs Q E hr h => ?_)
  · obtain ⟨a, y, t, b, t2, b2, rfl, _⟩ := h.ex; rfl
  · obtain ⟨a, y, t, b, t2, b2, rfl, ⟨dx, ha⟩, hy, h1, h2, h3, h4, h5, q⟩ := h.ex
    refine ⟨_, PSs.nox (pss_cons (ps_if (pt_not (pt_val (pe_cal C_P_is_fraction (hr.mono (by decide)) (pa_cons (pv 1) pa_nil)))) (pss_one ps_never) pss_nil)
      (pss_cons (ps_asg (pe_cal C_P_terms_of (hr.mono (by decide)) (pa_cons (pv 1) pa_nil)) (pg_tup (by rfl) (pgs_cons (pg_name (i := 2) sc_P_Ratio___sub__.nd rfl (Or.inl rfl)) (pgs_cons (pg_name (i := 3) sc_P_Ratio___sub__.nd rfl (Or.inl rfl)) pgs_nil))))
      (pss_one (ps_ret (pe_cal C_P_made_ratio (hr.mono (by decide)) (pa_cons (pe_op op_sub (pe_op op_mulW (pe_fld (pv 0) rfl) (pv 3)) (pe_op op_mulW (pv 2) (pe_fld (pv 0) rfl))) (pa_cons (pe_op op_mulW (pe_fld (pv 0) rfl) (pv 3)) pa_nil))))))), ?_⟩
    refine ⟨_, rfl, y, t2, b2, rfl, hy, _, rfl, ?_⟩
    refine ⟨_, rfl, y, t2, b2, rfl, hy, fun c hc => ⟨c, _, rfl, .inl (.inl upd_same), rfl, _, _, rfl, _, _, rfl, rfl, ?_⟩⟩
    have hac : (upd H c (.tup [.int t2, .int b2])) a = _ := (upd_ne (ne_of_none ha hc)).trans ha
    refine ⟨_, rfl, a, CR, dx, _, .int t, rfl, hac, R.own.cls, R.nt, rfl, _, rfl, _, _, rfl, rfl, CMulW.of h1 h4, _, rfl, _, rfl, a, CR, dx, _, .int b, rfl, hac, R.own.cls, R.nb, rfl, _, _, rfl, rfl, CMulW.of h3 h2, _, _, rfl, rfl, ?_⟩
    refine ⟨_, rfl, a, CR, dx, _, .int b, rfl, hac, R.own.cls, R.nb, rfl, _, rfl, _, _, rfl, rfl, CMulW.of h2 h4, ?_⟩
    exact ⟨_, _, rfl, h5, mul8000 h2 h4, fun t' b' x H' hl hx e hR => q t' b' x H' hl ((same_upd hc).free hx) ((same_upd hc).trans e) hR⟩
theorem ok_Ratio_mul (F : FnD K "__mul__" "Ratio.__mul__" s_P_Ratio___mul__ f fd) (R : RatioK K CR) (C_P_is_fraction : Cal P w K mg base 3 "is_fraction" ["value"] (spRatV CR (.bl true))) (C_P_terms_of : Cal P w K mg base 1 "terms_of" ["ratio"] (spTermsOf CR)) (C_P_made_ratio : Cal P w K mg base 5 "made_ratio" ["top", "bottom"] (spMadeRatio CR)) :
    FnOk P w K mg base CX0 6 f fd ["self", "other"] (spRatOp CR (fun t b t2 b2 => t * t2) (fun _ b _ b2 => b * b2)) := by
  refine F.ok sc_P_Ratio___mul__ (fun vs H Q E h => ?_) (fun cdv A outer s H vs Q E hr h => ?_)
  · obtain ⟨a, y, t, b, t2, b2, rfl, _⟩ := h.ex; rfl
  · obtain ⟨a, y, t, b, t2, b2, rfl, ⟨dx, ha⟩, hy, h1, h2, h3, h4, h5, q⟩ := h.ex
    refine ⟨_, PSs.nox (pss_cons (ps_if (pt_not (pt_val (pe_cal C_P_is_fraction (hr.mono (by decide)) (pa_cons (pv 1) pa_nil)))) (pss_one ps_never) pss_nil)
      (pss_cons (ps_asg (pe_cal C_P_terms_of (hr.mono (by decide)) (pa_cons (pv 1) pa_nil)) (pg_tup (by rfl) (pgs_cons (pg_name (i := 2) sc_P_Ratio___mul__.nd rfl (Or.inl rfl)) (pgs_cons (pg_name (i := 3) sc_P_Ratio___mul__.nd rfl (Or.inl rfl)) pgs_nil))))
      (pss_one (ps_ret (pe_cal C_P_made_ratio (hr.mono (by decide)) (pa_cons (pe_op op_mulW (pe_fld (pv 0) rfl) (pv 2)) (pa_cons (pe_op op_mulW (pe_fld (pv 0) rfl) (pv 3)) pa_nil))))))), ?_⟩
    refine ⟨_, rfl, y, t2, b2, rfl, hy, _, rfl, ?_⟩
    refine ⟨_, rfl, y, t2, b2, rfl, hy, fun c hc => ⟨c, _, rfl, .inl (.inl upd_same), rfl, _, _, rfl, _, _, rfl, rfl, ?_⟩⟩
    have hac : (upd H c (.tup [.int t2, .int b2])) a = _ := (upd_ne (ne_of_none ha hc)).trans ha
    refine ⟨_, rfl, a, CR, dx, _, .int t, rfl, hac, R.own.cls, R.nt, rfl, _, rfl, _, _, rfl, rfl, CMulW.of h1 h3, ?_⟩
    refine ⟨_, rfl, a, CR, dx, _, .int b, rfl, hac, R.own.cls, R.nb, rfl, _, rfl, _, _, rfl, rfl, CMulW.of h2 h4, ?_⟩
    exact ⟨_, _, rfl, h5, mul8000 h2 h4, fun t' b' x H' hl hx e hR => q t' b' x H' hl ((same_upd hc).free hx) ((same_upd hc).trans e) hR⟩
def spRatNeg (CR : Addr) : Sp := fun vs H Q _ => ∃ (a : Addr) (t b : Int), vs = [.ref a] ∧ RatioAt CR H a t b ∧ b ≠ 0 ∧ b.natAbs < 2 ^ 8000 ∧ ∀ (t' b' : Int) (x : Addr) (H' : Hp), LowT (-t) b t' b' → H x = none → Same H H' → RatioAt CR H' x t' b' → Q (.ref x) H'
theorem ok_Ratio_neg (F : FnD K "__neg__" "Ratio.__neg__" s_P_Ratio___neg__ f fd) (R : RatioK K CR) (C_P_made_ratio : Cal P w K mg base 5 "made_ratio" ["top", "bottom"] (spMadeRatio CR)) : FnOk P w K mg base CX0 6 f fd ["self"] (spRatNeg CR) := by
  refine F.ok sc_P_Ratio___neg__ (fun vs H Q E h => ?_) (fun cdv A outer s H vs Q E hr h => ?_)
  · obtain ⟨a, t, b, rfl, _⟩ := h; rfl
  · obtain ⟨a, t, b, rfl, ⟨dx, ha⟩, b0, bb, q⟩ := h
    refine ⟨_, PSs.nox (pss_one (ps_ret (pe_cal C_P_made_ratio (hr.mono (by decide)) (pa_cons (pe_un un_neg (pe_fld (pv 0) rfl)) (pa_cons (pe_fld (pv 0) rfl) pa_nil))))), ?_⟩
    exact ⟨_, rfl, a, CR, dx, _, .int t, rfl, ha, R.own.cls, R.nt, rfl, t, rfl, _, rfl, a, CR, dx, _, .int b, rfl, ha, R.own.cls, R.nb, rfl, -t, b, rfl, b0, bb, q⟩
def spRatBool (CR : Addr) : Sp := fun vs H Q _ => ∃ (a : Addr) (t b : Int), vs = [.ref a] ∧ RatioAt CR H a t b ∧ Q (.bl (t != 0)) H
theorem ok_Ratio_bool (F : FnD K "__bool__" "Ratio.__bool__" s_P_Ratio___bool__ f fd) (T : Glob mg) (R : RatioK K CR) : FnOk P w K mg base CX0 1 f fd ["self"] (spRatBool CR) := by
  refine F.ok sc_P_Ratio___bool__ (fun vs H Q E h => ?_) (fun cdv A outer s H vs Q E hr h => ?_)
  · obtain ⟨a, t, b, rfl, _⟩ := h; rfl
  · obtain ⟨a, t, b, rfl, ⟨dx, ha⟩, q⟩ := h
    refine ⟨_, PSs.nox (pss_one (ps_ret (pe_callTy call_bool1 (by rfl) T.m_bool (by decide +kernel) (pa_cons (pe_fld (pv 0) rfl) pa_nil)))), ?_⟩
    exact ⟨_, rfl, a, CR, dx, _, .int t, rfl, ha, R.own.cls, R.nt, rfl, .inl ⟨t, rfl, q⟩⟩
structure RatEqP (CR : Addr) (vs : List V) (H : Hp) (Q : VK) : Prop where
  ex : ∃ (a : Addr) (y : V) (t b t2 b2 : Int), vs = [.ref a, y] ∧ RatioAt CR H a t b ∧ RatV CR H y t2 b2 ∧ ∀ r : Bool, (r = true ↔ t = t2 ∧ b = b2) → Q (.bl r) H
def spRatEq (CR : Addr) : Sp := fun vs H Q _ => RatEqP CR vs H Q
theorem ok_Ratio_eq (F : FnD K "__eq__" "Ratio.__eq__" s_P_Ratio___eq__ f fd) (T : Glob mg) (R : RatioK K CR) (G_Ratio : mg "Ratio" = some (.ref CR)) (C_P_is_integer : Cal P w K mg base 1 "is_integer" ["value"] (spIsInt K)) : FnOk P w K mg base CX0 2 f fd ["self", "value"] (spRatEq CR) := by
  refine F.ok sc_P_Ratio___eq__ (fun vs H Q E h => ?_) (fun cdv A outer s H vs Q E hr h => ?_)
  · obtain ⟨a, y, t, b, t2, b2, rfl, _⟩ := h.ex; rfl
  · obtain ⟨a, y, t, b, t2, b2, rfl, ⟨dx, ha⟩, hy, q⟩ := h.ex
    refine ⟨_, PSs.nox (pss_cons (ps_if (pt_val (pe_callB call_isi (by rfl) T.m_isinstance (by decide +kernel) (pa_cons (pv 1) (pa_cons (pe_glob (v := .ref _) rfl G_Ratio rfl) pa_nil)))) (pss_one (ps_ret (pe_and (pe_cmp (pc_eqI (pe_fld (pv 0) rfl) (pe_fld (pv 1) rfl)) rfl) (pe_one (pe_cmp (pc_eqI (pe_fld (pv 0) rfl) (pe_fld (pv 1) rfl)) rfl))))) pss_nil)
      (pss_one (ps_ret (pe_and (pe_cal C_P_is_integer (hr.mono (by decide)) (pa_cons (pv 1) pa_nil)) (pe_and (pe_cmp (pc_eqI (pe_fld (pv 0) rfl) pe_int) rfl) (pe_one (pe_cmp (pc_eqI (pe_fld (pv 0) rfl) (pv 1)) rfl))))))), ?_⟩
    cases hy with
    | @rat a2 _ _ hy =>
      obtain ⟨dx2, hb⟩ := hy
      refine ⟨_, rfl, _, .ref CR, _, _, true, rfl, .own CR, R.own.ty ⟨dx2, _, hb⟩, R.own.kk, _, rfl, ?_⟩
      refine ⟨_, rfl, a, CR, dx, _, .int t, rfl, ha, R.own.cls, R.nt, rfl, _, rfl, a2, CR, dx2, _, .int t2, rfl, hb, R.own.cls, R.nt, rfl, _, _, rfl, rfl, _, rfl, ifd (fun h1 => ?_) (fun h1 => ?_)⟩
      · refine ⟨_, rfl, a, CR, dx, _, .int b, rfl, ha, R.own.cls, R.nb, rfl, _, rfl, a2, CR, dx2, _, .int b2, rfl, hb, R.own.cls, R.nb, rfl, _, _, rfl, rfl, ?_⟩
        refine q _ ?_
        rw [decide_eq_true_iff]
        exact ⟨fun h => ⟨h1, h⟩, fun h => h.2⟩
      · refine q _ ⟨fun h => ?_, fun h => absurd h.1 h1⟩
        exact Bool.noConfusion h
    | int hb =>
      refine ⟨_, rfl, _, .ref CR, _, _, false, rfl, .own CR, .base (.int _), R.own.ki, _, rfl, ?_⟩
      refine ⟨_, rfl, .int t2, true, rfl, .int t2, _, rfl, ?_⟩
      refine ⟨_, rfl, a, CR, dx, _, .int b, rfl, ha, R.own.cls, R.nb, rfl, _, _, rfl, rfl, _, rfl, ifd (fun h1 => ?_) (fun h1 => ?_)⟩
      · refine ⟨_, rfl, a, CR, dx, _, .int t, rfl, ha, R.own.cls, R.nt, rfl, _, rfl, _, _, rfl, rfl, ?_⟩
        refine q _ ?_
        rw [decide_eq_true_iff]
        exact ⟨fun h => ⟨h, h1⟩, fun h => h.1⟩
      · refine q _ ⟨fun h => ?_, fun h => absurd h.2 h1⟩
        exact Bool.noConfusion h
theorem ok_Ratio_over (F : FnD K "over" "Ratio.over" s_P_Ratio_over f fd) (R : RatioK K CR) (C_P_check_ratio : Cal P w K mg base 4 "check_ratio" ["value"] (spRatV CR .non)) (C_P_terms_of : Cal P w K mg base 1 "terms_of" ["ratio"] (spTermsOf CR)) (C_P_made_ratio : Cal P w K mg base 5 "made_ratio" ["top", "bottom"] (spMadeRatio CR)) :
    FnOk P w K mg base CX0 6 f fd ["self", "other"] (spRatOp CR (fun t _ _ b2 => t * b2) (fun _ b t2 _ => b * t2)) := by
  refine F.ok sc_P_Ratio_over (fun vs H Q E h => ?_) (fun cdv A outer s H vs Q E hr h => ?_)
  · obtain ⟨a, y, t, b, t2, b2, rfl, _⟩ := h.ex; rfl
  · obtain ⟨a, y, t, b, t2, b2, rfl, ⟨dx, ha⟩, hy, h1, h2, h3, h4, h5, q⟩ := h.ex
    refine ⟨_, PSs.nox (pss_cons (ps_expr (pe_cal C_P_check_ratio (hr.mono (by decide)) (pa_cons (pv 1) pa_nil)))
      (pss_cons (ps_asg (pe_cal C_P_terms_of (hr.mono (by decide)) (pa_cons (pv 1) pa_nil)) (pg_tup (by rfl) (pgs_cons (pg_name (i := 2) sc_P_Ratio_over.nd rfl (Or.inl rfl)) (pgs_cons (pg_name (i := 3) sc_P_Ratio_over.nd rfl (Or.inl rfl)) pgs_nil))))
      (pss_cons (ps_if (pt_cmp (pc_eqI (pv 2) pe_int)) (pss_one ps_never) pss_nil)
      (pss_one (ps_ret (pe_cal C_P_made_ratio (hr.mono (by decide)) (pa_cons (pe_op op_mulW (pe_fld (pv 0) rfl) (pv 3)) (pa_cons (pe_op op_mulW (pe_fld (pv 0) rfl) (pv 2)) pa_nil)))))))), ?_⟩
    refine ⟨_, rfl, y, t2, b2, rfl, hy, ?_⟩
    refine ⟨_, rfl, y, t2, b2, rfl, hy, fun c hc => ⟨c, _, rfl, .inl (.inl upd_same), rfl, _, _, rfl, _, _, rfl, rfl, ?_⟩⟩
    have hac : (upd H c (.tup [.int t2, .int b2])) a = _ := (upd_ne (ne_of_none ha hc)).trans ha
    refine ⟨_, rfl, _, _, rfl, rfl, _, rfl, ifd (fun z => absurd (by rw [z]; exact Int.mul_zero b) h5) (fun _ => ?_)⟩
    refine ⟨_, rfl, a, CR, dx, _, .int t, rfl, hac, R.own.cls, R.nt, rfl, _, rfl, _, _, rfl, rfl, CMulW.of h1 h4, _, rfl, a, CR, dx, _, .int b, rfl, hac, R.own.cls, R.nb, rfl, _, rfl, _, _, rfl, rfl, CMulW.of h2 h3, ?_⟩
    exact ⟨_, _, rfl, h5, mul8000 h2 h3, fun t' b' x H' hl hx e hR => q t' b' x H' hl ((same_upd hc).free hx) ((same_upd hc).trans e) hR⟩
end
end Sf

namespace Sf
open PySem PySem.Spec PyProof.Rows L2
/-- the product of the primes among places -/
def discOf : List Int → Int
  | [] => 1
  | p :: l => (if p > 0 then p else 1) * discOf l
theorem disc_snoc : ∀ (l : List Int) (p : Int), discOf (l ++ [p]) = discOf l * (if p > 0 then p else 1)
  | [], p => by show (if p > 0 then p else 1) * 1 = 1 * _; omega
  | x :: l, p => by
    show _ * discOf (l ++ [p]) = _ * discOf l * _
    rw [disc_snoc l p, Int.mul_assoc]
theorem disc_small : ∀ (l : List Int), (∀ p ∈ l, p ≤ 1000000000) → (discOf l).natAbs ≤ 1000000000 ^ l.length
  | [], _ => by show 1 ≤ _; exact Nat.le_refl _
  | x :: l, h => by
    have ih := disc_small l fun p hp => h p (List.mem_cons_of_mem _ hp)
    have hx := h x List.mem_cons_self
    show ((if x > 0 then x else 1) * discOf l).natAbs ≤ 1000000000 ^ (l.length + 1)
    rw [Int.natAbs_mul, Nat.pow_succ, Nat.mul_comm]
    refine Nat.mul_le_mul ih ?_
    split <;> omega
section
variable {P : Program} {w : World} {K : PySem.W.Frag} {mg : Str → Option Value} {base : Heap} {f : Addr} {fd : FuncData} {CR CA CF : Addr}
theorem int_of_map {l : List Int} {i : Nat} {v : V} (h : (l.map V.int)[i]? = some v) : ∃ z, l[i]? = some z ∧ v = V.int z := by
  rw [List.getElem?_map] at h
  cases e : l[i]? with
  | none => rw [e] at h; cases h
  | some z => rw [e] at h; exact ⟨z, rfl, (Option.some.inj h).symm⟩
def spDisc : Sp := fun vs H Q _ => ∃ (a : Addr) (l : List Int), vs = [.ref a] ∧ H a = some (.tup (l.map V.int)) ∧ l.length ≤ 62 ∧ (∀ p ∈ l, p ≤ 1000000000) ∧ Q (.int (discOf l)) H
theorem ok_product_of_primes (F : FnD K "product_of_primes" "product_of_primes" s_P_product_of_primes f fd) : FnOk P w K mg base CX0 1 f fd ["places"] spDisc := by
  refine F.ok sc_P_product_of_primes (fun vs H Q E h => ?_) (fun cdv A outer s H vs Q E hr h => ?_)
  · obtain ⟨a, l, rfl, _⟩ := h; rfl
  · obtain ⟨a, l, rfl, ha, hl, hp, q⟩ := h
    refine ⟨_, PSs.nox (pss_cons (ps_set (i := 1) sc_P_product_of_primes.nd rfl (Or.inl rfl) pe_int)
      (pss_cons (ps_for PassesOwn.never rfl (pi_tup (pv 0)) (pg_name (i := 2) sc_P_product_of_primes.nd rfl (Or.inl rfl)) (pss_one (ps_if (pt_cmp (pc_gt (pv 2) pe_int)) (pss_one (ps_set (i := 1) sc_P_product_of_primes.nd rfl (Or.inl rfl) (pe_op op_mulW (pv 1) (pv 2)))) pss_nil)))
      (pss_one (ps_ret (pv 1))))), ?_⟩
    have hT : SqT K H a (l.map V.int) := .inl (.inl ha)
    refine ⟨_, rfl, a, rfl, ⟨_, hT⟩, for_tup (K := K) (a := a) (xs := l.map V.int) (fun i σ H' => H = H' ∧ ∃ v, σ = [some (.ref a), some (.int (discOf (l.take i))), v]) ⟨rfl, none, rfl⟩ (fun i σ H' _ e => by rw [← e.1]; exact hT) ?_ ?_⟩
    · rintro i y σ _ hi ⟨rfl, v, rfl⟩
      obtain ⟨p, hpi, rfl⟩ := int_of_map hi
      have pm := List.mem_of_getElem? hpi
      have pb := hp p pm
      have et : discOf (l.take (i + 1)) = discOf (l.take i) * (if p > 0 then p else 1) := by
        rw [List.take_add_one, hpi, ← disc_snoc]
        rfl
      have sm := disc_small (l.take i) fun x hx => hp x (List.mem_of_mem_take hx)
      have sb : (discOf (l.take i)).natAbs < 2 ^ 3000 := by
        refine Nat.lt_of_le_of_lt (Nat.le_trans sm (Nat.pow_le_pow_right (by decide) (?_ : (l.take i).length ≤ 62))) (by decide +kernel)
        have := List.length_take_le' i l
        omega
      refine ⟨_, rfl, _, _, rfl, rfl, _, rfl, ifd (fun h => ?_) (fun h => ?_)⟩
      · rw [if_pos h] at et
        refine ⟨_, rfl, _, rfl, _, _, rfl, rfl, CMulW.of sb (lt3000s (by omega) (by omega)), rfl, some (.int p), ?_⟩
        rw [et]; rfl
      · rw [if_neg h, Int.mul_one] at et
        exact ⟨rfl, some (.int p), by rw [et]; rfl⟩
    · rintro σ _ ⟨rfl, v, rfl⟩
      rw [List.length_map, List.take_length]
      exact ⟨_, rfl, q⟩
/-- the algebra of two numbers -/
structure AlgAt (CA : Addr) (H : Hp) (x : Addr) (a b : Int) : Prop where
  ex : ∃ (dx pl : Addr) (l : List Int), H x = some (.ins CA dx [("places", .ref pl), ("a", .int a), ("b", .int b), ("discriminant", .int (discOf l)), ("is_tables", .bl (decide (l.length = 0))), ("is_definite", .bl (decide ((0 : Int) ∈ l)))]) ∧
    H pl = some (.tup (l.map V.int)) ∧ PlacesOf a b l ∧ a ≠ 0 ∧ b ≠ 0 ∧ a.natAbs ≤ 1000000000 ∧ b.natAbs ≤ 1000000000
theorem AlgAt.same {H H' : Hp} {x : Addr} {a b : Int} (h : AlgAt CA H x a b) (s : Same H H') : AlgAt CA H' x a b := by
  obtain ⟨dx, pl, l, h1, h2, h3⟩ := h.ex
  exact ⟨dx, pl, l, s _ _ h1, s _ _ h2, h3⟩
theorem AlgAt.ins {H : Hp} {x : Addr} {a b : Int} (h : AlgAt CA H x a b) : Ins H x CA := by
  obtain ⟨dx, pl, l, h1, _⟩ := h.ex
  exact ⟨dx, _, h1⟩
structure AlgK (K : PySem.W.Frag) (CA : Addr) : Prop where
  own : OwnK K CA
  n1 : NoAttr K CA "places"
  n2 : NoAttr K CA "a"
  n3 : NoAttr K CA "b"
  n4 : NoAttr K CA "discriminant"
  n5 : NoAttr K CA "is_tables"
  n6 : NoAttr K CA "is_definite"
structure AlgInitP (CA : Addr) (vs : List V) (H : Hp) (Q : VK) : Prop where
  ex : ∃ (x dx : Addr) (a b : Int), vs = [.ref x, .int a, .int b] ∧ a ≠ 0 ∧ b ≠ 0 ∧ a.natAbs ≤ 1000000000 ∧ b.natAbs ≤ 1000000000 ∧ H x = some (.ins CA dx []) ∧ ∀ H', Keep x H H' → AlgAt CA H' x a b → Q .non H'
def spAlgInit (CA : Addr) : Sp := fun vs H Q _ => AlgInitP CA vs H Q
theorem place_le {a b p : Int} {l : List Int} (h : PlacesOf a b l) (a0 : a ≠ 0) (b0 : b ≠ 0) (a1 : a.natAbs ≤ 1000000000) (b1 : b.natAbs ≤ 1000000000) (hp : p ∈ l) : p ≤ 1000000000 := by
  obtain ⟨g, n⟩ := (h.2 p).mp hp
  rcases g with e | g
  · omega
  · by_cases c : p = 2
    · omega
    · have dv : ∀ {n : Int}, n ≠ 0 → n % p = 0 → p ≤ n.natAbs := fun {n} n0 d => by
        obtain ⟨k, hk⟩ := Int.dvd_of_emod_eq_zero d
        have k0 : k ≠ 0 := fun z => n0 (by rw [hk, z, Int.mul_zero])
        have p2 := g.1
        have e : n.natAbs = p.natAbs * k.natAbs := by rw [hk]; exact Int.natAbs_mul _ _
        have : p.natAbs * 1 ≤ p.natAbs * k.natAbs := Nat.mul_le_mul_left _ (by omega)
        omega
      by_cases ca : a % p = 0
      · have := dv a0 ca
        omega
      · by_cases cb : b % p = 0
        · have := dv b0 cb
          omega
        · exact absurd (sign_far g c ca cb n) (by decide)
theorem ok_Algebra_init (F : FnD K "__init__" "Algebra.__init__" s_P_Algebra___init__ f fd) (T : Glob mg) (R : AlgK K CA) (C_P_signed_places : Cal P w K mg base 5 "signed_places" ["a", "b"] spPlaces) (C_P_product_of_primes : Cal P w K mg base 1 "product_of_primes" ["places"] spDisc) :
    FnOk P w K mg base CX0 6 f fd ["self", "a", "b"] (spAlgInit CA) := by
  refine F.ok sc_P_Algebra___init__ (fun vs H Q E h => ?_) (fun cdv A outer s H vs Q E hr h => ?_)
  · obtain ⟨x, dx, a, b, rfl, _⟩ := h.ex; rfl
  · obtain ⟨x, dx, a, b, rfl, a0, b0, a1, b1, hx, q⟩ := h.ex
    refine ⟨_, PSs.nox (pss_cons (ps_fld (pv 0) (pe_cal C_P_signed_places (hr.mono (by decide)) (pa_cons (pv 1) (pa_cons (pv 2) pa_nil))) rfl)
      (pss_cons (ps_fld (pv 0) (pv 1) rfl)
      (pss_cons (ps_fld (pv 0) (pv 2) rfl)
      (pss_cons (ps_fld (pv 0) (pe_cal C_P_product_of_primes (hr.mono (by decide)) (pa_cons (pe_fld (pv 0) rfl) pa_nil)) rfl)
      (pss_cons (ps_fld (pv 0) (pe_cmp (pc_eqI (pe_callB call_len_seq (by rfl) T.m_len (by decide +kernel) (pa_cons (pe_fld (pv 0) rfl) pa_nil)) pe_int) rfl) rfl)
      (pss_one (ps_fld (pv 0) (pe_cmpR op_in_seq pe_int (pe_fld (pv 0) rfl) (by rfl)) rfl))))))), ?_⟩
    refine ⟨_, rfl, _, rfl, ⟨a, b, rfl, a0, b0, a1, b1, fun l pl H1 hpl hll e1 hn hpl1 => ?_⟩⟩
    have hx1 := e1 _ _ hx
    have npx : pl ≠ x := fun z => by
      rw [z, hx] at hn
      cases hn
    refine ⟨_, rfl, x, CA, dx, _, rfl, hx1, R.own.cls, R.n1, by decide, ?_⟩
    refine ⟨_, rfl, _, rfl, x, CA, dx, _, rfl, upd_same, R.own.cls, R.n2, (by show 1 < 1000; decide), ?_⟩
    refine ⟨_, rfl, _, rfl, x, CA, dx, _, rfl, upd_same, R.own.cls, R.n3, (by show 2 < 1000; decide), ?_⟩
    refine ⟨_, rfl, x, CA, dx, _, .ref pl, rfl, upd_same, R.own.cls, R.n1, rfl, pl, l, rfl, by rw [upd_ne npx, upd_ne npx, upd_ne npx]; exact hpl1, hll, fun p hp => place_le hpl a0 b0 a1 b1 hp, ?_⟩
    refine ⟨_, rfl, x, CA, dx, _, rfl, upd_same, R.own.cls, R.n4, (by show 3 < 1000; decide), ?_⟩
    refine ⟨_, rfl, x, CA, dx, _, .ref pl, rfl, upd_same, R.own.cls, R.n1, rfl, pl, _, rfl, .inr (SqT.of (by rw [upd_ne npx, upd_ne npx, upd_ne npx, upd_ne npx]; exact hpl1)), _, _, rfl, rfl, ?_⟩
    refine ⟨_, rfl, x, CA, dx, _, rfl, upd_same, R.own.cls, R.n5, (by show 4 < 1000; decide), ?_⟩
    refine ⟨_, rfl, x, CA, dx, _, .ref pl, rfl, upd_same, R.own.cls, R.n1, rfl, pl, _, rfl, .inr (SqT.of (by rw [upd_ne npx, upd_ne npx, upd_ne npx, upd_ne npx, upd_ne npx]; exact hpl1)), rfl, all_flat _, ?_⟩
    refine ⟨_, rfl, x, CA, dx, _, rfl, upd_same, R.own.cls, R.n6, (by show 5 < 1000; decide), ?_⟩
    refine q _ (fun d o e n => ?_) ⟨⟨dx, pl, l, ?_, ?_, hpl, a0, b0, a1, b1⟩⟩
    · rw [upd_ne n, upd_ne n, upd_ne n, upd_ne n, upd_ne n, upd_ne n]
      exact e1 _ _ e
    · rw [upd_same, inV_ints]
      show some (HO.ins CA dx [("places", V.ref pl), ("a", V.int a), ("b", V.int b), ("discriminant", V.int (discOf l)), ("is_tables", V.bl (decide ((((l.map V.int).length : Nat) : Int) = 0))), ("is_definite", V.bl (decide ((0 : Int) ∈ l)))]) = _
      have e : decide ((((l.map V.int).length : Nat) : Int) = 0) = decide (l.length = 0) := by
        rw [List.length_map, Bool.eq_iff_iff, decide_eq_true_iff, decide_eq_true_iff]
        omega
      rw [e]
    · rw [upd_ne npx, upd_ne npx, upd_ne npx, upd_ne npx, upd_ne npx, upd_ne npx]
      exact hpl1
end
end Sf

namespace Sf
open PySem PySem.Spec PyProof.Rows L2
def gcd5 (a b c d e : Int) : Nat := (((a.natAbs.gcd b.natAbs).gcd c.natAbs).gcd d.natAbs).gcd e.natAbs
theorem gcd5_dvd (a b c d e : Int) : ((gcd5 a b c d e : Nat) : Int) ∣ a ∧ ((gcd5 a b c d e : Nat) : Int) ∣ b ∧ ((gcd5 a b c d e : Nat) : Int) ∣ c ∧ ((gcd5 a b c d e : Nat) : Int) ∣ d ∧ ((gcd5 a b c d e : Nat) : Int) ∣ e := by
  have h1 : gcd5 a b c d e ∣ (((a.natAbs.gcd b.natAbs).gcd c.natAbs).gcd d.natAbs) := Nat.gcd_dvd_left _ _
  have h2 := Nat.dvd_trans h1 (Nat.gcd_dvd_left _ _)
  have h3 := Nat.dvd_trans h2 (Nat.gcd_dvd_left _ _)
  have t : ∀ {g : Nat} {x : Int}, g ∣ x.natAbs → (g : Int) ∣ x := fun h => Int.natAbs_dvd_natAbs.mp h
  exact ⟨t (Nat.dvd_trans h3 (Nat.gcd_dvd_left _ _)), t (Nat.dvd_trans h3 (Nat.gcd_dvd_right _ _)), t (Nat.dvd_trans h2 (Nat.gcd_dvd_right _ _)), t (Nat.dvd_trans h1 (Nat.gcd_dvd_right _ _)), t (Nat.gcd_dvd_right _ _)⟩
/-- the entries and the bottom of a four -/
structure Q5 where
  w : Int
  x : Int
  y : Int
  z : Int
  d : Int
/-- the same four, in lowest terms -/
def Low5 (q r : Q5) : Prop := 0 < r.d ∧ q.w * r.d = r.w * q.d ∧ q.x * r.d = r.x * q.d ∧ q.y * r.d = r.y * q.d ∧ q.z * r.d = r.z * q.d ∧ gcd5 r.w r.x r.y r.z r.d = 1
def scl (q : Q5) (c : Int) : Q5 := ⟨q.w.fdiv c, q.x.fdiv c, q.y.fdiv c, q.z.fdiv c, q.d.fdiv c⟩
theorem low5_of {q : Q5} (hb : q.d ≠ 0) : ((gcd5 q.w q.x q.y q.z q.d : Nat) : Int) ≠ 0 ∧ Low5 q (scl q (if q.d < 0 then -((gcd5 q.w q.x q.y q.z q.d : Nat) : Int) else ((gcd5 q.w q.x q.y q.z q.d : Nat) : Int))) := by
  obtain ⟨w, x, y, z, d⟩ := q
  dsimp only at *
  have g0 : 0 < gcd5 w x y z d := Nat.gcd_pos_of_pos_right _ (by omega)
  obtain ⟨⟨w1, hw⟩, ⟨x1, hx⟩, ⟨y1, hy⟩, ⟨z1, hz⟩, ⟨d1, hd⟩⟩ := gcd5_dvd w x y z d
  refine ⟨by omega, ?_⟩
  have hc : gcd5 w1 x1 y1 z1 d1 = 1 := by
    have e : gcd5 w x y z d = gcd5 w x y z d * gcd5 w1 x1 y1 z1 d1 := by
      conv => lhs; unfold gcd5
      generalize hg : gcd5 w x y z d = g at *
      rw [hw, hx, hy, hz, hd, Int.natAbs_mul, Int.natAbs_mul, Int.natAbs_mul, Int.natAbs_mul, Int.natAbs_mul, Int.natAbs_natCast, Nat.gcd_mul_left, Nat.gcd_mul_left, Nat.gcd_mul_left, Nat.gcd_mul_left]
      rfl
    have : gcd5 w x y z d * 1 = gcd5 w x y z d * gcd5 w1 x1 y1 z1 d1 := by rw [Nat.mul_one]; exact e
    exact (Nat.eq_of_mul_eq_mul_left g0 this).symm
  generalize gcd5 w x y z d = g at *
  have gi : (0 : Int) < g := by omega
  by_cases c : d < 0
  · rw [if_pos c]
    have ng : ∀ {a b : Int}, a = (g : Int) * b → a.fdiv (-(g : Int)) = -b := fun {a b} e => by
      rw [show a = (-(g : Int)) * (-b) by rw [Int.neg_mul_neg]; exact e]
      exact Int.mul_fdiv_cancel_left _ (by omega)
    unfold scl Low5
    dsimp only
    rw [ng hw, ng hx, ng hy, ng hz, ng hd]
    refine ⟨?_, by rw [hw, hd]; grind, by rw [hx, hd]; grind, by rw [hy, hd]; grind, by rw [hz, hd]; grind, ?_⟩
    · by_cases v0 : 0 ≤ d1
      · have := Int.mul_nonneg (Int.le_of_lt gi) v0
        omega
      · omega
    · unfold gcd5 at hc ⊢
      rw [Int.natAbs_neg, Int.natAbs_neg, Int.natAbs_neg, Int.natAbs_neg, Int.natAbs_neg]
      exact hc
  · rw [if_neg c]
    have ng : ∀ {a b : Int}, a = (g : Int) * b → a.fdiv (g : Int) = b := fun {a b} e => by
      rw [e]
      exact Int.mul_fdiv_cancel_left _ (by omega)
    unfold scl Low5
    dsimp only
    rw [ng hw, ng hx, ng hy, ng hz, ng hd]
    refine ⟨?_, by rw [hw, hd]; grind, by rw [hx, hd]; grind, by rw [hy, hd]; grind, by rw [hz, hd]; grind, hc⟩
    by_cases v0 : d1 ≤ 0
    · have := Int.mul_nonneg (Int.le_of_lt gi) (show 0 ≤ -d1 by omega)
      rw [Int.mul_neg] at this
      omega
    · omega
def ents (q : Q5) : List V := [.int q.w, .int q.x, .int q.y, .int q.z]
section
variable {P : Program} {w : World} {K : PySem.W.Frag} {mg : Str → Option Value} {base : Heap} {f : Addr} {fd : FuncData} {CR CA CF : Addr}
structure LowEP (vs : List V) (H : Hp) (Q : VK) : Prop where
  ex : ∃ (e : Addr) (q : Q5), vs = [.ref e, .int q.d] ∧ H e = some (.tup (ents q)) ∧ q.d ≠ 0 ∧ q.d.natAbs < 2 ^ 8000 ∧ ∀ (r : Q5) (a b : Addr) (H' : Hp), Low5 q r → Same H H' → H a = none → H b = none → H' a = some (.tup [.ref b, .int r.d]) → H' b = some (.tup (ents r)) → Q (.ref a) H'
def spLowE : Sp := fun vs H Q _ => LowEP vs H Q
theorem ok_lowest_entries (F : FnD K "lowest_entries" "lowest_entries" s_P_lowest_entries f fd) (T : Glob mg) : FnOk P w K mg base CX0 1 f fd ["entries", "bottom"] spLowE := by
  refine F.ok sc_P_lowest_entries (fun vs H Q E h => ?_) (fun cdv A outer s H vs Q E hr h => ?_)
  · obtain ⟨e, q, rfl, _⟩ := h.ex; rfl
  · obtain ⟨e, q5, rfl, he, d0, db, q⟩ := h.ex
    refine ⟨_, PSs.nox (pss_cons (ps_asg (pv 0) (pg_tup (by rfl) (pgs_cons (pg_name (i := 2) sc_P_lowest_entries.nd rfl (Or.inl rfl)) (pgs_cons (pg_name (i := 3) sc_P_lowest_entries.nd rfl (Or.inl rfl)) (pgs_cons (pg_name (i := 4) sc_P_lowest_entries.nd rfl (Or.inl rfl)) (pgs_cons (pg_name (i := 5) sc_P_lowest_entries.nd rfl (Or.inl rfl)) pgs_nil))))))
      (pss_cons (ps_set (i := 6) sc_P_lowest_entries.nd rfl (Or.inl rfl) (pe_callGB cr_gcd5 (by rfl) T.m_gcd (pa_cons (pv 2) (pa_cons (pv 3) (pa_cons (pv 4) (pa_cons (pv 5) (pa_cons (pv 1) pa_nil)))))))
      (Evl.pss_cut (ps_if (pt_cmp (pc_lt (pv 1) pe_int)) (pss_one (ps_set (i := 6) sc_P_lowest_entries.nd rfl (Or.inl rfl) (pe_un un_neg (pv 6)))) pss_nil)
      (pss_one (ps_ret (pe_tup (pa_cons (pe_tup (pa_cons (pe_op op_fdivZ (pv 2) (pv 6)) (pa_cons (pe_op op_fdivZ (pv 3) (pv 6)) (pa_cons (pe_op op_fdivZ (pv 4) (pv 6)) (pa_cons (pe_op op_fdivZ (pv 5) (pv 6)) pa_nil))))) (pa_cons (pe_op op_fdivZ (pv 1) (pv 6)) pa_nil)))))))), ?_⟩
    obtain ⟨g0, hl⟩ := low5_of d0
    have gb : gcd5 q5.w q5.x q5.y q5.z q5.d < 2 ^ 8000 := Nat.lt_of_le_of_lt (Nat.le_of_dvd (by omega) (Nat.gcd_dvd_right _ _)) db
    refine ⟨_, rfl, e, _, rfl, .inl (.inl he), rfl, _, _, rfl, _, _, rfl, _, _, rfl, _, _, rfl, rfl, ?_⟩
    refine ⟨_, rfl, _, rfl, _, rfl, _, rfl, _, rfl, q5.w, q5.x, q5.y, q5.z, q5.d, rfl, ?_⟩
    have eg : ((((((q5.w.natAbs.gcd q5.x.natAbs).gcd q5.y.natAbs).gcd q5.z.natAbs).gcd q5.d.natAbs : Nat) : Int)) = ((gcd5 q5.w q5.x q5.y q5.z q5.d : Nat) : Int) := rfl
    rw [eg]
    generalize gcd5 q5.w q5.x q5.y q5.z q5.d = g at *
    refine ⟨fun σ' H' => σ' = [some (.ref e), some (.int q5.d), some (.int q5.w), some (.int q5.x), some (.int q5.y), some (.int q5.z), some (.int (if q5.d < 0 then -(g : Int) else (g : Int)))] ∧ H = H', ?_, ?_⟩
    · refine ⟨_, rfl, _, _, rfl, rfl, _, rfl, ifd (fun h => ?_) (fun h => ?_)⟩
      · rw [if_pos h]
        exact ⟨_, rfl, _, rfl, rfl, rfl⟩
      · rw [if_neg h]
        exact ⟨rfl, rfl⟩
    · rintro σ' _ ⟨rfl, rfl⟩
      have c0 : (if q5.d < 0 then -(g : Int) else (g : Int)) ≠ 0 := by split <;> omega
      have cb : (if q5.d < 0 then -(g : Int) else (g : Int)).natAbs < 2 ^ 8000 := by split <;> omega
      generalize (if q5.d < 0 then -(g : Int) else (g : Int)) = c at *
      have Z : ∀ i, CDivZ i c := fun i => CDivZ.of c0 cb
      refine ⟨_, rfl, _, rfl, _, _, rfl, rfl, Z _, _, rfl, _, rfl, _, _, rfl, rfl, Z _, _, rfl, _, rfl, _, _, rfl, rfl, Z _, _, rfl, _, rfl, _, _, rfl, rfl, Z _, (by show 4 ≤ sizeLine; decide), fun b hb => ?_⟩
      refine ⟨_, rfl, _, rfl, _, _, rfl, rfl, Z _, (by show 2 ≤ sizeLine; decide), fun a ha => ?_⟩
      have nab : b ≠ a := ne_of_none (H := upd H b _) upd_same ha
      have haH : H a = none := (same_upd hb).free ha
      exact q (scl q5 c) a b _ hl ((same_upd hb).trans (same_upd ha)) haH hb upd_same (by rw [upd_ne nab, upd_same]; rfl)
end
end Sf

namespace Sf
open PySem PySem.Spec PyProof.Rows L2
section
variable {P : Program} {w : World} {K : PySem.W.Frag} {mg : Str → Option Value} {base : Heap} {f : Addr} {fd : FuncData} {CR CA CF : Addr}
def spIsAlg (CA : Addr) : Sp := fun vs H Q _ => ∃ x a b, vs = [.ref x] ∧ AlgAt CA H x a b ∧ Q .non H
theorem ok_check_algebra (F : FnD K "check_algebra" "check_algebra" s_P_check_algebra f fd) (T : Glob mg) (R : AlgK K CA) (G_Algebra : mg "Algebra" = some (.ref CA)) : FnOk P w K mg base CX0 1 f fd ["value"] (spIsAlg CA) := by
  refine F.ok sc_P_check_algebra (fun vs H Q E h => ?_) (fun cdv A outer s H vs Q E hr h => ?_)
  · obtain ⟨x, a, b, rfl, _⟩ := h; rfl
  · obtain ⟨x, a, b, rfl, hx, q⟩ := h
    refine ⟨_, PSs.nox (pss_one (ps_if (pt_not (pt_val (pe_callB call_isi (by rfl) T.m_isinstance (by decide +kernel) (pa_cons (pv 0) (pa_cons (pe_glob (v := .ref _) rfl G_Algebra rfl) pa_nil))))) (pss_one ps_never) pss_nil)), ?_⟩
    exact ⟨_, rfl, _, .ref CA, _, _, true, rfl, .own CA, R.own.ty hx.ins, R.own.kk, _, rfl, q⟩
/-- w w - a x x - b y y + a b z z -/
def normT (a b : Int) (q : Q5) : Int := q.w * q.w - a * q.x * q.x - b * q.y * q.y + a * b * q.z * q.z
def Bd (n : Nat) (q : Q5) : Prop := q.w.natAbs < 2 ^ n ∧ q.x.natAbs < 2 ^ n ∧ q.y.natAbs < 2 ^ n ∧ q.z.natAbs < 2 ^ n ∧ q.d.natAbs < 2 ^ n
structure NormP (CR CA : Addr) (vs : List V) (H : Hp) (Q : VK) : Prop where
  ex : ∃ (al e : Addr) (a b : Int) (q : Q5), vs = [.ref al, .ref e, .int q.d] ∧ AlgAt CA H al a b ∧ H e = some (.tup (ents q)) ∧ q.d ≠ 0 ∧ Bd 3000 q ∧ ∀ (t' b' : Int) (x : Addr) (H' : Hp), LowT (normT a b q) (q.d * q.d) t' b' → H x = none → Same H H' → RatioAt CR H' x t' b' → Q (.ref x) H'
def spNorm (CR CA : Addr) : Sp := fun vs H Q _ => NormP CR CA vs H Q
theorem wmul {i j : Int} {m n : Nat} (h1 : i.natAbs < 2 ^ m) (h2 : j.natAbs < 2 ^ n) (m0 : 0 < m) (n0 : 0 < n) (hs : m + n ≤ 900000) : CMulW i j := by
  unfold CMulW
  have e1 : i.natAbs.log2 < m := PySem.Flt.log2_lt_of m0 h1
  have e2 : j.natAbs.log2 < n := PySem.Flt.log2_lt_of n0 h2
  omega
theorem ok_norm_of (F : FnD K "norm_of" "norm_of" s_P_norm_of f fd) (R : AlgK K CA) (C_P_made_ratio : Cal P w K mg base 5 "made_ratio" ["top", "bottom"] (spMadeRatio CR)) : FnOk P w K mg base CX0 6 f fd ["algebra", "entries", "bottom"] (spNorm CR CA) := by
  refine F.ok sc_P_norm_of (fun vs H Q E h => ?_) (fun cdv A outer s H vs Q E hr h => ?_)
  · obtain ⟨al, e, a, b, q, rfl, _⟩ := h.ex; rfl
  · obtain ⟨al, e, a, b, q5, rfl, hal, he, d0, ⟨b1, b2, b3, b4, b5⟩, q⟩ := h.ex
    refine ⟨_, PSs.nox (pss_cons (ps_asg (pv 1) (pg_tup (by rfl) (pgs_cons (pg_name (i := 3) sc_P_norm_of.nd rfl (Or.inl rfl)) (pgs_cons (pg_name (i := 4) sc_P_norm_of.nd rfl (Or.inl rfl)) (pgs_cons (pg_name (i := 5) sc_P_norm_of.nd rfl (Or.inl rfl)) (pgs_cons (pg_name (i := 6) sc_P_norm_of.nd rfl (Or.inl rfl)) pgs_nil))))))
      (pss_cons (ps_set (i := 7) sc_P_norm_of.nd rfl (Or.inl rfl) (pe_op op_add (pe_op op_sub (pe_op op_sub (pe_op op_mulW (pv 3) (pv 3)) (pe_op op_mulW (pe_op op_mulW (pe_fld (pv 0) rfl) (pv 4)) (pv 4))) (pe_op op_mulW (pe_op op_mulW (pe_fld (pv 0) rfl) (pv 5)) (pv 5))) (pe_op op_mulW (pe_op op_mulW (pe_op op_mulW (pe_fld (pv 0) rfl) (pe_fld (pv 0) rfl)) (pv 6)) (pv 6))))
      (pss_one (ps_ret (pe_cal C_P_made_ratio (hr.mono (by decide)) (pa_cons (pv 7) (pa_cons (pe_op op_mulW (pv 2) (pv 2)) pa_nil))))))), ?_⟩
    obtain ⟨dx, pl, l, hx, _, _, a0, b0, ab, bb⟩ := hal.ex
    have a3 : a.natAbs < 2 ^ 30 := by omega
    have b3' : b.natAbs < 2 ^ 30 := by omega
    have l2 : ∀ {i j : Int} {m n : Nat}, i.natAbs < 2 ^ m → j.natAbs < 2 ^ n → (i * j).natAbs < 2 ^ (m + n) := fun h1 h2 => wide_lt h1 h2
    refine ⟨_, rfl, e, _, rfl, .inl (.inl he), rfl, _, _, rfl, _, _, rfl, _, _, rfl, _, _, rfl, rfl, ?_⟩
    refine ⟨_, rfl, _, rfl, _, _, rfl, rfl, wmul b1 b1 (by decide) (by decide) (by decide), _, rfl, al, CA, dx, _, .int a, rfl, hx, R.own.cls, R.n2, rfl, _, rfl, _, _, rfl, rfl, wmul a3 b2 (by decide) (by decide) (by decide), _, rfl, _, _, rfl, rfl, wmul (l2 a3 b2) b2 (by decide) (by decide) (by decide), _, _, rfl, rfl, ?_⟩
    refine ⟨_, rfl, al, CA, dx, _, .int b, rfl, hx, R.own.cls, R.n3, rfl, _, rfl, _, _, rfl, rfl, wmul b3' b3 (by decide) (by decide) (by decide), _, rfl, _, _, rfl, rfl, wmul (l2 b3' b3) b3 (by decide) (by decide) (by decide), _, _, rfl, rfl, ?_⟩
    refine ⟨_, rfl, al, CA, dx, _, .int a, rfl, hx, R.own.cls, R.n2, rfl, _, rfl, al, CA, dx, _, .int b, rfl, hx, R.own.cls, R.n3, rfl, _, _, rfl, rfl, wmul a3 b3' (by decide) (by decide) (by decide), _, rfl, _, _, rfl, rfl, wmul (l2 a3 b3') b4 (by decide) (by decide) (by decide), _, rfl, _, _, rfl, rfl, wmul (l2 (l2 a3 b3') b4) b4 (by decide) (by decide) (by decide), _, _, rfl, rfl, ?_⟩
    refine ⟨_, rfl, _, rfl, _, rfl, _, _, rfl, rfl, wmul b5 b5 (by decide) (by decide) (by decide), ?_⟩
    refine ⟨_, _, rfl, Int.mul_ne_zero d0 d0, ?_, q⟩
    exact Nat.lt_of_lt_of_le (l2 b5 b5) (Nat.pow_le_pow_right (by decide) (by decide))
end
end Sf

namespace Sf
open PySem PySem.Spec PyProof.Rows L2
theorem cut_tail4 (a b c d : V) : cutV [a, b, c, d] (some 1) none = [b, c, d] := by
  unfold cutV
  show List.take (HT.sIx 4 4 none - HT.sIx 4 0 (some 1)) (List.drop (HT.sIx 4 0 (some 1)) [a, b, c, d]) = _
  rw [show HT.sIx 4 0 (some 1) = min 1 4 from HT.sIx_nat 4 0 1, HT.sIx_none]
  rfl
theorem eqv_tups' (a b : List Int) : PyData.eqv (.tuple (a.map PyData.int)) (.tuple (b.map PyData.int)) = decide (a = b) := by
  rw [← eqv_ints a b]
  unfold PyData.eqv
  rfl
section
variable {P : Program} {w : World} {K : PySem.W.Frag} {mg : Str → Option Value} {base : Heap} {f : Addr} {fd : FuncData} {CR CA CF : Addr}
def Pass60 (q : Q5) : Prop := q.w.natAbs < 10 ^ 60 ∧ q.x.natAbs < 10 ^ 60 ∧ q.y.natAbs < 10 ^ 60 ∧ q.z.natAbs < 10 ^ 60 ∧ q.d.natAbs < 10 ^ 60
def spPassE : Sp := fun vs H Q _ => ∃ (e : Addr) (q : Q5), vs = [.ref e] ∧ H e = some (.tup (ents q)) ∧ Pass60 q ∧ ∀ H', Same H H' → Q (.bl true) H'
theorem ok_is_passed_entries (F : FnD K "is_passed_entries" "is_passed_entries" s_P_is_passed_entries f fd) (T : Glob mg) (C_P_is_passed : Cal P w K mg base 2 "is_passed" ["value"] (spPassed K)) : FnOk P w K mg base CX0 3 f fd ["value"] spPassE := by
  refine F.ok sc_P_is_passed_entries (fun vs H Q E h => ?_) (fun cdv A outer s H vs Q E hr h => ?_)
  · obtain ⟨e, q, rfl, _⟩ := h; rfl
  · obtain ⟨e, q5, rfl, he, ⟨p1, p2, p3, p4, _⟩, q⟩ := h
    refine ⟨_, PSs.nox (pss_one (ps_ret (pe_and (pe_callB call_isi (by rfl) T.m_isinstance (by decide +kernel) (pa_cons (pv 0) (pa_cons (pe_bltn (v := .ty "tuple") (u := .type "tuple") (by rfl) T.m_tuple (by decide +kernel) rfl) pa_nil))) (pe_and (pe_cmp (pc_eqI (pe_callB call_len_seq (by rfl) T.m_len (by decide +kernel) (pa_cons (pv 0) pa_nil)) pe_int) rfl) (pe_one (pe_callB (cr_all rfl) (by rfl) T.m_all (by decide +kernel) (pa_cons (pe_lc rfl sc_P_is_passed_entries.nd (own := [("part", 1)]) (pi_tup (pv 0)) (blkOk_by (N := ["value", "part"]) (sc := defScope s_P_is_passed_entries) (by decide +kernel)) (fun _ _ _ _ _ => pg_name (i := 1) sc_P_is_passed_entries.nd rfl (Or.inl rfl)) (fun _ _ _ _ _ => pts_nil) (fun _ _ _ _ _ => (pe_cal C_P_is_passed (hr.mono (by decide)) (pa_cons (pv 1) pa_nil)))) pa_nil))))))), ?_⟩
    refine ⟨_, rfl, _, .ty "tuple", _, _, true, rfl, .ty "tuple", .base (.tup he), (by show kitB "tuple" "tuple" = some true; decide +kernel), _, rfl, ?_⟩
    refine ⟨_, rfl, e, _, rfl, .inr (SqT.of he), _, _, rfl, rfl, _, rfl, ?_⟩
    have hall : ∀ i v, (ents q5)[i]? = some v → ∃ n : Int, v = V.int n ∧ n.natAbs < 10 ^ 60 := fun i v h => by
      have hm := List.mem_of_getElem? h
      have cases : v = V.int q5.w ∨ v = V.int q5.x ∨ v = V.int q5.y ∨ v = V.int q5.z := by simpa [ents] using hm
      rcases cases with c | c | c | c
      · exact ⟨_, c, p1⟩
      · exact ⟨_, c, p2⟩
      · exact ⟨_, c, p3⟩
      · exact ⟨_, c, p4⟩
    refine ⟨_, rfl, e, rfl, ⟨_, SqT.of he⟩, fun D hD => lc_tup (K := K) (a := e) (xs := ents q5) (fun i H' => Same H H' ∧ H' D = some (.lst ((List.replicate i true).map V.bl))) ⟨same_upd hD, upd_same⟩ (fun i H' _ hp => SqT.of (hp.1 _ _ he)) (fun i v H' hv hp => ?_) (fun H' hp => ?_)⟩
    · obtain ⟨e1, hd⟩ := hp
      obtain ⟨n, rfl, hn⟩ := hall i v hv
      refine ⟨rfl, ?_⟩
      refine ⟨_, rfl, .int n, true, rfl, .int n, ⟨fun _ => ⟨n, rfl⟩, fun _ => rfl⟩, fun r hr2 => ?_⟩
      have e : r = true := hr2.mpr ⟨n, rfl, hn⟩
      subst e
      have il : i < 4 := (List.getElem?_eq_some_iff.mp hv).1
      refine ⟨_, hd, ?_, ?_, ?_⟩
      · rw [List.length_map, List.length_replicate]
        exact Nat.lt_of_lt_of_le il (by decide)
      · intro b o eb
        rw [upd_ne (ne_of_none eb hD)]
        exact e1 _ _ eb
      · rw [upd_same, List.replicate_succ', List.map_append]; rfl
    · obtain ⟨e1, hd⟩ := hp
      exact ⟨D, _, rfl, SqL.of hd, q _ e1⟩
/-- a four: its algebra, its entries and its bottom in lowest terms -/
structure FourAt (CF CR : Addr) (H : Hp) (x al : Addr) (a b : Int) (q : Q5) : Prop where
  ex : ∃ (dx e tr nm : Addr) (t1 t2 n1 n2 : Int), H x = some (.ins CF dx [("algebra", .ref al), ("entries", .ref e), ("bottom", .int q.d), ("trace", .ref tr), ("norm", .ref nm), ("is_ratio", .bl (decide (q.x = 0 ∧ q.y = 0 ∧ q.z = 0)))]) ∧
    H e = some (.tup (ents q)) ∧ RatioAt CR H tr t1 t2 ∧ LowT (2 * q.w) q.d t1 t2 ∧ RatioAt CR H nm n1 n2 ∧ LowT (normT a b q) (q.d * q.d) n1 n2
  pos : 0 < q.d
  low : gcd5 q.w q.x q.y q.z q.d = 1
theorem FourAt.same {H H' : Hp} {x al : Addr} {a b : Int} {q : Q5} (h : FourAt CF CR H x al a b q) (s : Same H H') : FourAt CF CR H' x al a b q := by
  obtain ⟨dx, e, tr, nm, t1, t2, n1, n2, h1, h2, h3, h4, h5, h6⟩ := h.ex
  exact ⟨⟨dx, e, tr, nm, t1, t2, n1, n2, s _ _ h1, s _ _ h2, h3.same s, h4, h5.same s, h6⟩, h.pos, h.low⟩
theorem FourAt.ins {H : Hp} {x al : Addr} {a b : Int} {q : Q5} (h : FourAt CF CR H x al a b q) : Ins H x CF := by
  obtain ⟨dx, e, tr, nm, t1, t2, n1, n2, h1, _⟩ := h.ex
  exact ⟨dx, _, h1⟩
structure FourK (K : PySem.W.Frag) (CF : Addr) : Prop where
  own : OwnK K CF
  n1 : NoAttr K CF "algebra"
  n2 : NoAttr K CF "entries"
  n3 : NoAttr K CF "bottom"
  n4 : NoAttr K CF "trace"
  n5 : NoAttr K CF "norm"
  n6 : NoAttr K CF "is_ratio"
structure FourInitP (CF CR CA : Addr) (vs : List V) (H : Hp) (Q : VK) : Prop where
  ex : ∃ (x dx al e : Addr) (a b : Int) (q : Q5), vs = [.ref x, .ref al, .ref e, .int q.d] ∧ AlgAt CA H al a b ∧ al ≠ x ∧ H e = some (.tup (ents q)) ∧ q.d ≠ 0 ∧ Pass60 q ∧ Bd 3000 q ∧ H x = some (.ins CF dx []) ∧ (∀ r, Low5 q r → Bd 3000 r) ∧
    ∀ (r : Q5) (H' : Hp), Low5 q r → Keep x H H' → FourAt CF CR H' x al a b r → Q .non H'
def spFourInit (CF CR CA : Addr) : Sp := fun vs H Q _ => FourInitP CF CR CA vs H Q
set_option maxHeartbeats 8000000 in
theorem ok_Four_init (F : FnDD K "__init__" "Four.__init__" s_P_Four___init__ [.int 1] f fd) (T : Glob mg) (R : FourK K CF) (C_P_check_algebra : Cal P w K mg base 1 "check_algebra" ["value"] (spIsAlg CA)) (C_P_is_passed_entries : Cal P w K mg base 3 "is_passed_entries" ["value"] spPassE)
    (C_P_is_passed : Cal P w K mg base 2 "is_passed" ["value"] (spPassed K)) (C_P_lowest_entries : Cal P w K mg base 1 "lowest_entries" ["entries", "bottom"] spLowE) (C_P_made_ratio : Cal P w K mg base 5 "made_ratio" ["top", "bottom"] (spMadeRatio CR)) (C_P_norm_of : Cal P w K mg base 6 "norm_of" ["algebra", "entries", "bottom"] (spNorm CR CA)) :
    FnOk P w K mg base CX0 7 f fd ["self", "algebra", "entries", "bottom"] (spFourInit CF CR CA) := by
  refine F.ok sc_P_Four___init__ (fun vs H Q E h => ?_) (fun cdv A outer s H vs Q E hr h => ?_)
  · obtain ⟨x, dx, al, e, a, b, q, rfl, _⟩ := h.ex; rfl
  · obtain ⟨x, dx, al, e, a, b, q5, rfl, hal, nax, he, d0, hp, bd, hx, hlow, q⟩ := h.ex
    refine ⟨_, PSs.nox (pss_cons (ps_expr (pe_cal C_P_check_algebra (hr.mono (by decide)) (pa_cons (pv 1) pa_nil)))
      (pss_cons (ps_if (pt_not (pt_val (pe_cal C_P_is_passed_entries (hr.mono (by decide)) (pa_cons (pv 2) pa_nil)))) (pss_one ps_never) pss_nil)
      (pss_cons (ps_if (PW.pt (pw_or (pt_not (pt_val (pe_cal C_P_is_passed (hr.mono (by decide)) (pa_cons (pv 3) pa_nil)))) (pw_or1 (pt_cmp (pc_eqI (pv 3) pe_int))))) (pss_one ps_never) pss_nil)
      (pss_cons (ps_fld (pv 0) (pv 1) rfl)
      (pss_cons (ps_asg (pe_cal C_P_lowest_entries (hr.mono (by decide)) (pa_cons (pv 2) (pa_cons (pv 3) pa_nil))) (pg_tup (by rfl) (pgs_cons (pg_attr (pv 0)) (pgs_cons (pg_attr (pv 0)) pgs_nil))))
      (pss_cons (ps_fld (pv 0) (pe_cal C_P_made_ratio (hr.mono (by decide)) (pa_cons (pe_op op_mulW pe_int (pe_ix ix_tup (pe_fld (pv 0) rfl) pe_int (fun _ _ => rfl))) (pa_cons (pe_fld (pv 0) rfl) pa_nil))) rfl)
      (pss_cons (ps_fld (pv 0) (pe_cal C_P_norm_of (hr.mono (by decide)) (pa_cons (pv 1) (pa_cons (pe_fld (pv 0) rfl) (pa_cons (pe_fld (pv 0) rfl) pa_nil)))) rfl)
      (pss_one (ps_fld (pv 0) (pe_cmpR (op_eqD hr.units) (pe_slice sl_tup (pe_fld (pv 0) rfl) (po_some pe_int) po_none) (pe_tup (pa_cons pe_int (pa_cons pe_int (pa_cons pe_int pa_nil)))) (nomark _)) rfl))))))))), ?_⟩
    refine ⟨_, rfl, al, a, b, rfl, hal, ?_⟩
    refine ⟨_, rfl, e, q5, rfl, he, hp, fun H1 e1 => ⟨_, rfl, ?_⟩⟩
    refine ⟨_, rfl, .int q5.d, true, rfl, .int _, ⟨fun _ => ⟨_, rfl⟩, fun _ => rfl⟩, fun r hr2 => ⟨_, rfl, ?_⟩⟩
    have er : r = true := hr2.mpr ⟨_, rfl, hp.2.2.2.2⟩
    subst er
    refine ⟨_, rfl, _, _, rfl, rfl, _, rfl, ifd (fun h => absurd h d0) (fun _ => ?_)⟩
    have hx1 := e1 _ _ hx
    have nex : e ≠ x := fun z => by rw [z, hx] at he; cases he
    have m0 : (0 : Int) < 1 := by decide
    refine ⟨_, rfl, _, rfl, x, CF, dx, _, rfl, hx1, R.own.cls, R.n1, by decide, ?_⟩
    refine ⟨_, rfl, _, rfl, ⟨e, q5, rfl, by rw [upd_ne nex]; exact e1 _ _ he, d0, Nat.lt_of_lt_of_le bd.2.2.2.2 (Nat.pow_le_pow_right (by decide) (by decide)), fun r5 c u H2 hl e2 hc hu hc2 hu2 => ?_⟩⟩
    have rp := hl.1
    have rb := hlow r5 hl
    have hx2 := e2 _ _ upd_same
    have ncx : c ≠ x := fun z => by rw [z, upd_same] at hc; cases hc
    have nux : u ≠ x := fun z => by rw [z, upd_same] at hu; cases hu
    have k2 : Keep x H H2 := ((Keep.same e1).trans Keep.upd).trans (Keep.same e2)
    -- the algebra stays while the object at x is filled
    have ka : ∀ {H' : Hp}, Keep x H H' → AlgAt CA H' al a b := fun {H'} k => by
      obtain ⟨d1, pl, l, g1, g2, g3⟩ := hal.ex
      refine ⟨d1, pl, l, k _ _ g1 nax, k _ _ g2 (fun z => ?_), g3⟩
      rw [z, hx] at g2
      cases g2
    refine ⟨c, _, rfl, .inl (.inl hc2), rfl, _, _, rfl, _, rfl, x, CF, dx, _, rfl, hx2, R.own.cls, R.n2, (by show 1 < 1000; decide), ?_⟩
    refine ⟨_, _, rfl, _, rfl, x, CF, dx, _, rfl, upd_same, R.own.cls, R.n3, (by show 2 < 1000; decide), rfl, ?_⟩
    have u3 : (upd (upd H2 x (.ins CF dx [("algebra", .ref al), ("entries", .ref u)])) x (.ins CF dx [("algebra", .ref al), ("entries", .ref u), ("bottom", .int r5.d)])) u = some (.tup (ents r5)) := by
      rw [upd_ne nux, upd_ne nux]
      exact hu2
    refine ⟨_, rfl, x, CF, dx, _, .ref u, rfl, upd_same, R.own.cls, R.n2, rfl, u, _, 0, .int r5.w, rfl, rfl, SqT.of u3, rfl, _, _, rfl, rfl, CMulW.of (lt3000s (by decide) (by decide)) rb.1, ?_⟩
    refine ⟨_, rfl, x, CF, dx, _, .int r5.d, rfl, upd_same, R.own.cls, R.n3, rfl, ?_⟩
    refine ⟨_, _, rfl, by omega, Nat.lt_of_lt_of_le rb.2.2.2.2 (Nat.pow_le_pow_right (by decide) (by decide)), fun t1 t2 tr H3 hlt htr e3 hR => ?_⟩
    have hx3 := e3 _ _ upd_same
    have ntx : tr ≠ x := fun z => by rw [z, upd_same] at htr; cases htr
    have k3 : Keep x H2 H3 := (Keep.upd.trans Keep.upd).trans (Keep.same e3)
    refine ⟨_, rfl, x, CF, dx, _, rfl, hx3, R.own.cls, R.n4, (by show 3 < 1000; decide), ?_⟩
    have k4 : Keep x H2 (upd H3 x (.ins CF dx [("algebra", .ref al), ("entries", .ref u), ("bottom", .int r5.d), ("trace", .ref tr)])) := k3.trans Keep.upd
    refine ⟨_, rfl, _, rfl, x, CF, dx, _, .ref u, rfl, upd_same, R.own.cls, R.n2, rfl, _, rfl, x, CF, dx, _, .int r5.d, rfl, upd_same, R.own.cls, R.n3, rfl, ?_⟩
    refine ⟨⟨al, u, a, b, r5, rfl, ka (k2.trans k4), k4 _ _ hu2 nux, by omega, rb, fun n1 n2 nm H4 hln hnm e4 hN => ?_⟩⟩
    have hx4 := e4 _ _ upd_same
    have nnx : nm ≠ x := fun z => by rw [z, upd_same] at hnm; cases hnm
    refine ⟨_, rfl, x, CF, dx, _, rfl, hx4, R.own.cls, R.n5, (by show 4 < 1000; decide), ?_⟩
    have k5 : Keep x H2 (upd H4 x (.ins CF dx [("algebra", .ref al), ("entries", .ref u), ("bottom", .int r5.d), ("trace", .ref tr), ("norm", .ref nm)])) := (k4.trans (Keep.same e4)).trans Keep.upd
    refine ⟨_, rfl, x, CF, dx, _, .ref u, rfl, upd_same, R.own.cls, R.n2, rfl, ?_⟩
    refine ⟨1, rfl, u, _, rfl, SqT.of (k5 _ _ hu2 nux), ?hc, fun p hp => ⟨(by show 3 ≤ sizeLine; decide), fun p2 hp2 => ?_⟩⟩
    case hc =>
      show ¬ (HT.sIx 4 0 (some 1) = 0 ∧ HT.sIx 4 4 none = 4)
      rw [show HT.sIx 4 0 (some 1) = min 1 4 from HT.sIx_nat 4 0 1]
      decide
    have npx : p ≠ x := fun z => by rw [z, upd_same] at hp; cases hp
    have np2x : p2 ≠ x := fun z => by rw [z, upd_ne npx.symm, upd_same] at hp2; cases hp2
    have npp : p ≠ p2 := ne_of_none upd_same hp2
    refine ⟨.tuple ([r5.x, r5.y, r5.z].map PyData.int), .tuple ([0, 0, 0].map PyData.int), dp_tup (ns := [r5.x, r5.y, r5.z]) (SqT.of ?_), dp_tup (ns := [0, 0, 0]) (SqT.of upd_same), shp_tup _, shp_tup _, ?_⟩
    · rw [upd_ne npp, upd_same]
      show some (HO.tup (cutV [V.int r5.w, V.int r5.x, V.int r5.y, V.int r5.z] (some 1) none)) = _
      rw [cut_tail4]
      rfl
    rw [eqv_tups']
    refine ⟨_, rfl, x, CF, dx, _, rfl, by rw [upd_ne np2x.symm, upd_ne npx.symm, upd_same], R.own.cls, R.n6, (by show 5 < 1000; decide), ?_⟩
    have k6 : Keep x H2 (upd (upd (upd (upd H4 x (.ins CF dx [("algebra", .ref al), ("entries", .ref u), ("bottom", .int r5.d), ("trace", .ref tr), ("norm", .ref nm)])) p (.tup (cutV (ents r5) (some 1) none))) p2 (.tup [.int 0, .int 0, .int 0])) x (.ins CF dx [("algebra", .ref al), ("entries", .ref u), ("bottom", .int r5.d), ("trace", .ref tr), ("norm", .ref nm), ("is_ratio", .bl (decide ([r5.x, r5.y, r5.z] = [0, 0, 0])))])) :=
      ((k5.trans (Keep.new hp)).trans (Keep.new hp2)).trans Keep.upd
    have k63 : Keep x H3 (upd (upd (upd (upd H4 x (.ins CF dx [("algebra", .ref al), ("entries", .ref u), ("bottom", .int r5.d), ("trace", .ref tr), ("norm", .ref nm)])) p (.tup (cutV (ents r5) (some 1) none))) p2 (.tup [.int 0, .int 0, .int 0])) x (.ins CF dx [("algebra", .ref al), ("entries", .ref u), ("bottom", .int r5.d), ("trace", .ref tr), ("norm", .ref nm), ("is_ratio", .bl (decide ([r5.x, r5.y, r5.z] = [0, 0, 0])))])) :=
      ((((Keep.upd.trans (Keep.same e4)).trans Keep.upd).trans (Keep.new hp)).trans (Keep.new hp2)).trans Keep.upd
    have k64 : Keep x H4 (upd (upd (upd (upd H4 x (.ins CF dx [("algebra", .ref al), ("entries", .ref u), ("bottom", .int r5.d), ("trace", .ref tr), ("norm", .ref nm)])) p (.tup (cutV (ents r5) (some 1) none))) p2 (.tup [.int 0, .int 0, .int 0])) x (.ins CF dx [("algebra", .ref al), ("entries", .ref u), ("bottom", .int r5.d), ("trace", .ref tr), ("norm", .ref nm), ("is_ratio", .bl (decide ([r5.x, r5.y, r5.z] = [0, 0, 0])))])) :=
      ((Keep.upd.trans (Keep.new hp)).trans (Keep.new hp2)).trans Keep.upd
    obtain ⟨dt, hR⟩ := hR
    obtain ⟨dn, hN⟩ := hN
    refine q r5 _ hl (k2.trans k6) ⟨⟨dx, u, tr, nm, t1, t2, n1, n2, ?_, k6 _ _ hu2 nux, ⟨dt, k63 _ _ hR ntx⟩, hlt, ⟨dn, k64 _ _ hN nnx⟩, hln⟩, hl.1, hl.2.2.2.2.2⟩
    rw [upd_same]
    show some (HO.ins CF dx [("algebra", V.ref al), ("entries", V.ref u), ("bottom", V.int r5.d), ("trace", V.ref tr), ("norm", V.ref nm), ("is_ratio", V.bl (decide ([r5.x, r5.y, r5.z] = [0, 0, 0])))]) = _
    have e : decide ([r5.x, r5.y, r5.z] = [0, 0, 0]) = decide (r5.x = 0 ∧ r5.y = 0 ∧ r5.z = 0) := by
      rw [Bool.eq_iff_iff, decide_eq_true_iff, decide_eq_true_iff]
      simp
    rw [e]
end
end Sf

namespace Sf
open PySem PySem.Spec PyProof.Rows L2
section
variable {P : Program} {w : World} {K : PySem.W.Frag} {mg : Str → Option Value} {base : Heap} {f : Addr} {fd : FuncData} {CR CA CF : Addr}
structure MadeFourP (CF CR CA : Addr) (vs : List V) (H : Hp) (Q : VK) : Prop where
  ex : ∃ (al e : Addr) (a b : Int) (q : Q5), vs = [.ref al, .ref e, .int q.d] ∧ AlgAt CA H al a b ∧ H e = some (.tup (ents q)) ∧ q.d ≠ 0 ∧ q.d.natAbs < 2 ^ 8000 ∧ (∀ r, Low5 q r → Bd 3000 r) ∧
    ∀ (r : Q5) (x : Addr) (H' : Hp), Low5 q r → H x = none → Same H H' → FourAt CF CR H' x al a b r → Q (.ref x) H'
def spMadeFour (CF CR CA : Addr) : Sp := fun vs H Q _ => MadeFourP CF CR CA vs H Q
theorem zero_low {r : Q5} (h : Low5 ⟨0, 0, 0, 0, 1⟩ r) : r = ⟨0, 0, 0, 0, 1⟩ := by
  obtain ⟨h0, h1, h2, h3, h4, h5⟩ := h
  obtain ⟨w, x, y, z, d⟩ := r
  dsimp only at *
  have e1 : w = 0 := by omega
  have e2 : x = 0 := by omega
  have e3 : y = 0 := by omega
  have e4 : z = 0 := by omega
  subst e1 e2 e3 e4
  have e5 : d.natAbs = 1 := by
    unfold gcd5 at h5
    simpa using h5
  have e6 : d = 1 := by omega
  rw [e6]
set_option maxHeartbeats 8000000 in
theorem ok_made_four (F : FnD K "made_four" "made_four" s_P_made_four f fd) (R : FourK K CF) (C_P_lowest_entries : Cal P w K mg base 1 "lowest_entries" ["entries", "bottom"] spLowE) (N_Four_2 : CalC P w K mg base 7 "Four" CF ["self", "algebra", "entries", "bottom"] [.int 1] (spFourInit CF CR CA))
    (C_P_made_ratio : Cal P w K mg base 5 "made_ratio" ["top", "bottom"] (spMadeRatio CR)) (C_P_norm_of : Cal P w K mg base 6 "norm_of" ["algebra", "entries", "bottom"] (spNorm CR CA)) :
    FnOk P w K mg base CX0 9 f fd ["algebra", "entries", "bottom"] (spMadeFour CF CR CA) := by
  refine F.ok sc_P_made_four (fun vs H Q E h => ?_) (fun cdv A outer s H vs Q E hr h => ?_)
  · obtain ⟨al, e, a, b, q, rfl, _⟩ := h.ex; rfl
  · obtain ⟨al, e, a, b, q5, rfl, hal, he, d0, db, hlow, q⟩ := h.ex
    refine ⟨_, PSs.nox (pss_cons (ps_set (i := 3) sc_P_made_four.nd rfl (Or.inl rfl) (pe_cal C_P_lowest_entries (hr.mono (by decide)) (pa_cons (pv 1) (pa_cons (pv 2) pa_nil))))
      (pss_cons (ps_set (i := 4) sc_P_made_four.nd rfl (Or.inl rfl) (pe_new N_Four_2 (hr.mono (by decide)) (pa_cons (pv 0) (pa_cons (pe_tup (pa_cons pe_int (pa_cons pe_int (pa_cons pe_int (pa_cons pe_int pa_nil))))) pa_nil))))
      (pss_cons (ps_fld (pv 4) (pe_ix ix_tup (pv 3) pe_int (fun _ _ => rfl)) rfl)
      (pss_cons (ps_fld (pv 4) (pe_ix ix_tup (pv 3) pe_int (fun _ _ => rfl)) rfl)
      (pss_cons (ps_fld (pv 4) (pe_cal C_P_made_ratio (hr.mono (by decide)) (pa_cons (pe_op op_mulW pe_int (pe_ix ix_tup (pe_ix ix_tup (pv 3) pe_int (fun _ _ => rfl)) pe_int (fun _ _ => rfl))) (pa_cons (pe_ix ix_tup (pv 3) pe_int (fun _ _ => rfl)) pa_nil))) rfl)
      (pss_cons (ps_fld (pv 4) (pe_cal C_P_norm_of (hr.mono (by decide)) (pa_cons (pv 0) (pa_cons (pe_ix ix_tup (pv 3) pe_int (fun _ _ => rfl)) (pa_cons (pe_ix ix_tup (pv 3) pe_int (fun _ _ => rfl)) pa_nil)))) rfl)
      (pss_cons (ps_fld (pv 4) (pe_cmpR (op_eqD hr.units) (pe_slice sl_tup (pe_ix ix_tup (pv 3) pe_int (fun _ _ => rfl)) (po_some pe_int) po_none) (pe_tup (pa_cons pe_int (pa_cons pe_int (pa_cons pe_int pa_nil)))) (nomark _)) rfl)
      (pss_one (ps_ret (pv 4)))))))))), ?_⟩
    refine ⟨_, rfl, _, rfl, ⟨e, q5, rfl, he, d0, db, fun r5 c u H2 hl e2 hc hu hc2 hu2 => ?_⟩⟩
    have rp := hl.1
    have rb := hlow r5 hl
    have ncu : c ≠ u := fun z => by
      rw [z, hu2] at hc2
      have := congrArg (fun o => match o with | some (HO.tup l) => l.length | _ => 0) hc2
      exact absurd (show (4 : Nat) = 2 from this) (by decide)
    refine ⟨_, rfl, (by show 4 ≤ sizeLine; decide), fun z4 hz4 => ?_⟩
    have e3 := e2.trans (same_upd (o := .tup [.int 0, .int 0, .int 0, .int 0]) hz4)
    refine fun x dx hx hdx nd => ?_
    have e4 : Same (upd H2 z4 (.tup [.int 0, .int 0, .int 0, .int 0])) (upd (upd (upd H2 z4 (.tup [.int 0, .int 0, .int 0, .int 0])) dx (.own x)) x (.ins CF dx [])) := (same_upd hdx).trans (same_upd (by rw [upd_ne nd.symm]; exact hx))
    have nax : al ≠ x := fun z => by
      obtain ⟨d1, pl, l, g1, _⟩ := ((hal.same e3)).ex
      rw [z, hx] at g1
      cases g1
    refine ⟨x, dx, al, z4, a, b, ⟨0, 0, 0, 0, 1⟩, rfl, (hal.same e3).same e4, nax, e4 _ _ upd_same, by decide, ⟨by decide +kernel, by decide +kernel, by decide +kernel, by decide +kernel, by decide +kernel⟩, ⟨by decide +kernel, by decide +kernel, by decide +kernel, by decide +kernel, by decide +kernel⟩, upd_same, fun r hr => by rw [zero_low hr]; exact ⟨by decide +kernel, by decide +kernel, by decide +kernel, by decide +kernel, by decide +kernel⟩, fun r1 H3 _ k3 hF => ⟨rfl, ?_⟩⟩
    obtain ⟨dx2, e1, tr1, nm1, t1, t2, n1, n2, g1, _⟩ := hF.ex
    have hxH : H x = none := e3.free hx
    have kx : Keep x (upd H2 z4 (.tup [.int 0, .int 0, .int 0, .int 0])) H3 := (Keep.same e4).trans k3
    have kH2 : Keep x H2 H3 := (Keep.new hz4).trans kx
    have kH : Keep x H H3 := (Keep.same e2).trans kH2
    have nux : u ≠ x := fun z => by
      have := same_upd (o := .tup [.int 0, .int 0, .int 0, .int 0]) hz4 _ _ hu2
      rw [z, hx] at this
      cases this
    have ncx : c ≠ x := fun z => by
      have := same_upd (o := .tup [.int 0, .int 0, .int 0, .int 0]) hz4 _ _ hc2
      rw [z, hx] at this
      cases this
    have hc3 := kH2 _ _ hc2 ncx
    have hu3 := kH2 _ _ hu2 nux
    have cT : ∀ {G : Hp}, Keep x H3 G → SqT K G c [.ref u, .int r5.d] := fun {G} k => SqT.of (k _ _ hc3 ncx)
    have uT : ∀ {G : Hp}, Keep x H3 G → SqT K G u (ents r5) := fun {G} k => SqT.of (k _ _ hu3 nux)
    have ka : ∀ {G : Hp}, Keep x H3 G → AlgAt CA G al a b := fun {G} k => by
      obtain ⟨d1, pl, l, y1, y2, y3⟩ := hal.ex
      refine ⟨d1, pl, l, (kH.trans k) _ _ y1 nax, (kH.trans k) _ _ y2 (fun z => ?_), y3⟩
      rw [z, hxH] at y2
      cases y2
    have k0 := Keep.refl x H3
    refine ⟨_, rfl, c, _, 0, .ref u, rfl, rfl, cT k0, rfl, _, rfl, x, CF, dx2, _, rfl, g1, R.own.cls, R.n2, (by show 6 < 1000; decide), ?_⟩
    refine ⟨_, rfl, c, _, 1, .int r5.d, rfl, rfl, cT (k0.trans Keep.upd), rfl, _, rfl, x, CF, dx2, _, rfl, upd_same, R.own.cls, R.n3, (by show 6 < 1000; decide), ?_⟩
    refine ⟨_, rfl, c, _, 0, .ref u, rfl, rfl, cT ((k0.trans Keep.upd).trans Keep.upd), rfl, u, _, 0, .int r5.w, rfl, rfl, uT ((k0.trans Keep.upd).trans Keep.upd), rfl, _, _, rfl, rfl, CMulW.of (lt3000s (by decide) (by decide)) rb.1, ?_⟩
    refine ⟨_, rfl, c, _, 1, .int r5.d, rfl, rfl, cT ((k0.trans Keep.upd).trans Keep.upd), rfl, ?_⟩
    refine ⟨_, _, rfl, by omega, Nat.lt_of_lt_of_le rb.2.2.2.2 (Nat.pow_le_pow_right (by decide) (by decide)), fun s1 s2 tr H4 hlt htr f3 hR => ?_⟩
    have k1 : Keep x H3 H4 := ((k0.trans Keep.upd).trans Keep.upd).trans (Keep.same f3)
    have hx4 := f3 _ _ upd_same
    have ntx : tr ≠ x := fun z => by rw [z, upd_same] at htr; cases htr
    refine ⟨_, rfl, x, CF, dx2, _, rfl, hx4, R.own.cls, R.n4, (by show 6 < 1000; decide), ?_⟩
    have k2 := k1.trans (Keep.upd (p := x) (o := .ins CF dx2 [("algebra", .ref al), ("entries", .ref u), ("bottom", .int r5.d), ("trace", .ref tr), ("norm", .ref nm1), ("is_ratio", .bl (decide (r1.x = 0 ∧ r1.y = 0 ∧ r1.z = 0)))]))
    refine ⟨_, rfl, _, rfl, c, _, 0, .ref u, rfl, rfl, cT k2, rfl, _, rfl, c, _, 1, .int r5.d, rfl, rfl, cT k2, rfl, ?_⟩
    refine ⟨⟨al, u, a, b, r5, rfl, ka k2, k2 _ _ hu3 nux, by omega, rb, fun m1 m2 nm H5 hln hnm f4 hN => ?_⟩⟩
    have hx5 := f4 _ _ upd_same
    have nnx : nm ≠ x := fun z => by rw [z, upd_same] at hnm; cases hnm
    refine ⟨_, rfl, x, CF, dx2, _, rfl, hx5, R.own.cls, R.n5, (by show 6 < 1000; decide), ?_⟩
    have k3' := (k2.trans (Keep.same f4)).trans (Keep.upd (p := x) (o := .ins CF dx2 [("algebra", .ref al), ("entries", .ref u), ("bottom", .int r5.d), ("trace", .ref tr), ("norm", .ref nm), ("is_ratio", .bl (decide (r1.x = 0 ∧ r1.y = 0 ∧ r1.z = 0)))]))
    refine ⟨_, rfl, c, _, 0, .ref u, rfl, rfl, cT k3', rfl, 1, rfl, u, _, rfl, uT k3', ?hc, fun p hp => ⟨(by show 3 ≤ sizeLine; decide), fun p2 hp2 => ?_⟩⟩
    case hc =>
      show ¬ (HT.sIx 4 0 (some 1) = 0 ∧ HT.sIx 4 4 none = 4)
      rw [show HT.sIx 4 0 (some 1) = min 1 4 from HT.sIx_nat 4 0 1]
      decide
    have npx : p ≠ x := fun z => by rw [z, upd_same] at hp; cases hp
    have np2x : p2 ≠ x := fun z => by rw [z, upd_ne npx.symm, upd_same] at hp2; cases hp2
    have npp : p ≠ p2 := ne_of_none upd_same hp2
    refine ⟨.tuple ([r5.x, r5.y, r5.z].map PyData.int), .tuple ([0, 0, 0].map PyData.int), dp_tup (ns := [r5.x, r5.y, r5.z]) (SqT.of ?_), dp_tup (ns := [0, 0, 0]) (SqT.of upd_same), shp_tup _, shp_tup _, ?_⟩
    · rw [upd_ne npp, upd_same]
      show some (HO.tup (cutV [V.int r5.w, V.int r5.x, V.int r5.y, V.int r5.z] (some 1) none)) = _
      rw [cut_tail4]
      rfl
    rw [eqv_tups']
    refine ⟨_, rfl, x, CF, dx2, _, rfl, by rw [upd_ne np2x.symm, upd_ne npx.symm, upd_same], R.own.cls, R.n6, (by show 6 < 1000; decide), ?_⟩
    have hk : ∀ {G : Hp} {o : HO}, Keep x G (upd H5 x (.ins CF dx2 [("algebra", .ref al), ("entries", .ref u), ("bottom", .int r5.d), ("trace", .ref tr), ("norm", .ref nm), ("is_ratio", .bl (decide (r1.x = 0 ∧ r1.y = 0 ∧ r1.z = 0)))])) → Keep x G (upd (upd (upd (upd H5 x (.ins CF dx2 [("algebra", .ref al), ("entries", .ref u), ("bottom", .int r5.d), ("trace", .ref tr), ("norm", .ref nm), ("is_ratio", .bl (decide (r1.x = 0 ∧ r1.y = 0 ∧ r1.z = 0)))])) p (.tup (cutV (ents r5) (some 1) none))) p2 (.tup [.int 0, .int 0, .int 0])) x o) :=
      fun k => ((k.trans (Keep.new hp)).trans (Keep.new hp2)).trans Keep.upd
    obtain ⟨dt, hR⟩ := hR
    obtain ⟨dn, hN⟩ := hN
    have q4 : Keep x H4 (upd H5 x (.ins CF dx2 [("algebra", .ref al), ("entries", .ref u), ("bottom", .int r5.d), ("trace", .ref tr), ("norm", .ref nm), ("is_ratio", .bl (decide (r1.x = 0 ∧ r1.y = 0 ∧ r1.z = 0)))])) := (Keep.upd.trans (Keep.same f4)).trans Keep.upd
    refine ⟨_, rfl, q r5 x _ hl hxH (fun d o e => hk (kH.trans k3') _ _ e (ne_of_none e hxH)) ⟨⟨dx2, u, tr, nm, s1, s2, m1, m2, ?_, hk k3' _ _ hu3 nux, ⟨dt, hk q4 _ _ hR ntx⟩, hlt, ⟨dn, hk Keep.upd _ _ hN nnx⟩, hln⟩, hl.1, hl.2.2.2.2.2⟩⟩
    rw [upd_same]
    have e : decide ([r5.x, r5.y, r5.z] = [0, 0, 0]) = decide (r5.x = 0 ∧ r5.y = 0 ∧ r5.z = 0) := by
      rw [Bool.eq_iff_iff, decide_eq_true_iff, decide_eq_true_iff]
      simp
    rw [e]
    rfl
end
end Sf

namespace Sf
open PySem PySem.Spec PyProof.Rows L2
section
variable {P : Program} {w : World} {K : PySem.W.Frag} {mg : Str → Option Value} {base : Heap} {f : Addr} {fd : FuncData} {CR CA CF : Addr}
/-- == of two algebras that are told by equal numbers, or of one -/
def spAlgEq (CA : Addr) : Sp := fun vs H Q _ => ∃ (x y : Addr) (a b c d : Int), vs = [.ref x, .ref y] ∧ AlgAt CA H x a b ∧ AlgAt CA H y c d ∧ ∃ k : Bool, (k = true ↔ a = c ∧ b = d) ∧ Q (.bl k) H
theorem ok_Algebra_eq (F : FnD K "__eq__" "Algebra.__eq__" s_P_Algebra___eq__ f fd) (T : Glob mg) (R : AlgK K CA) (G_Algebra : mg "Algebra" = some (.ref CA)) : FnOk P w K mg base CX0 1 f fd ["self", "value"] (spAlgEq CA) := by
  refine F.ok sc_P_Algebra___eq__ (fun vs H Q E h => ?_) (fun cdv A outer s H vs Q E hr h => ?_)
  · obtain ⟨x, y, a, b, c, d, rfl, _⟩ := h; rfl
  · obtain ⟨x, y, a, b, c, d, rfl, hx, hy, k, hk, q⟩ := h
    refine ⟨_, PSs.nox (pss_one (ps_ret (pe_and (pe_callB call_isi (by rfl) T.m_isinstance (by decide +kernel) (pa_cons (pv 1) (pa_cons (pe_glob (v := .ref _) rfl G_Algebra rfl) pa_nil))) (pe_and (pe_cmp (pc_eqI (pe_fld (pv 0) rfl) (pe_fld (pv 1) rfl)) rfl) (pe_one (pe_cmp (pc_eqI (pe_fld (pv 0) rfl) (pe_fld (pv 1) rfl)) rfl)))))), ?_⟩
    obtain ⟨dx, p1, l1, h1, _⟩ := hx.ex
    obtain ⟨dy, p2, l2, h2, _⟩ := hy.ex
    refine ⟨_, rfl, _, .ref CA, _, _, true, rfl, .own CA, R.own.ty hy.ins, R.own.kk, _, rfl, ?_⟩
    have kf : ∀ {z : Bool}, (z = true ↔ a = c ∧ b = d) → z = k := fun {z} h => Bool.eq_iff_iff.mpr (h.trans hk.symm)
    refine ⟨_, rfl, x, CA, dx, _, .int a, rfl, h1, R.own.cls, R.n2, rfl, _, rfl, y, CA, dy, _, .int c, rfl, h2, R.own.cls, R.n2, rfl, _, _, rfl, rfl, _, rfl, ifd (fun e => ?_) (fun e => ?_)⟩
    · refine ⟨_, rfl, x, CA, dx, _, .int b, rfl, h1, R.own.cls, R.n3, rfl, _, rfl, y, CA, dy, _, .int d, rfl, h2, R.own.cls, R.n3, rfl, _, _, rfl, rfl, ?_⟩
      have z := kf (z := decide (b = d)) (by rw [decide_eq_true_iff]; exact ⟨fun h => ⟨e, h⟩, fun h => h.2⟩)
      show Q (.bl (decide (b = d))) H
      rw [z]
      exact q
    · have z := kf (z := false) ⟨fun h => Bool.noConfusion h, fun h => absurd h.1 e⟩
      show Q (.bl false) H
      rw [z]
      exact q
/-- two fours of one algebra -/
def spOperands (CF CR CA : Addr) : Sp := fun vs H Q _ => ∃ (x y al be : Addr) (a b : Int) (q r : Q5), vs = [.ref x, .ref y] ∧ FourAt CF CR H x al a b q ∧ FourAt CF CR H y be a b r ∧ AlgAt CA H al a b ∧ AlgAt CA H be a b ∧ Q .non H
theorem ok_check_operands (F : FnD K "check_operands" "check_operands" s_P_check_operands f fd) (R : FourK K CF) (O_Algebra : OwnK K CA) (M_Algebra_eq : CalM P w K mg base 1 "__eq__" CA ["self", "value"] (spAlgEq CA)) : FnOk P w K mg base CX0 3 f fd ["one", "other"] (spOperands CF CR CA) := by
  refine F.ok sc_P_check_operands (fun vs H Q E h => ?_) (fun cdv A outer s H vs Q E hr h => ?_)
  · obtain ⟨x, y, al, be, a, b, q, r, rfl, _⟩ := h; rfl
  · obtain ⟨x, y, al, be, a, b, q5, r5, rfl, hx, hy, ha, hb, q⟩ := h
    refine ⟨_, PSs.nox (pss_one (ps_if (pt_cmpR (ne_own M_Algebra_eq.me M_Algebra_eq.ok (hr.mono (by decide)) M_Algebra_eq.b pass0 O_Algebra.ne O_Algebra.mo) (pe_fld (pv 0) rfl) (pe_fld (pv 1) rfl) (nomark _)) (pss_one ps_never) pss_nil)), ?_⟩
    obtain ⟨d1, e1, t1, m1, _, _, _, _, h1, _⟩ := hx.ex
    obtain ⟨d2, e2, t2, m2, _, _, _, _, h2, _⟩ := hy.ex
    refine ⟨_, rfl, x, CF, d1, _, .ref al, rfl, h1, R.own.cls, R.n1, rfl, _, rfl, y, CF, d2, _, .ref be, rfl, h2, R.own.cls, R.n1, rfl, ?_⟩
    exact ⟨al, be, rfl, rfl, ha.ins, hb.ins, al, be, a, b, a, b, rfl, ha, hb, true, ⟨fun _ => ⟨rfl, rfl⟩, fun _ => rfl⟩, true, rfl, _, rfl, q⟩
/-- the product by the rules of i, j and k -/
def prodQ (a b : Int) (p q : Q5) : Q5 := ⟨p.w * q.w + a * p.x * q.x + b * p.y * q.y - a * b * p.z * q.z, p.w * q.x + p.x * q.w - b * p.y * q.z + b * p.z * q.y, p.w * q.y + p.y * q.w + a * p.x * q.z - a * p.z * q.x, p.w * q.z + p.z * q.w + p.x * q.y - p.y * q.x, p.d * q.d⟩
def SameQ (e q : Q5) : Prop := e.w = q.w ∧ e.x = q.x ∧ e.y = q.y ∧ e.z = q.z
structure ProdP (CA : Addr) (vs : List V) (H : Hp) (Q : VK) : Prop where
  ex : ∃ (al e1 e2 : Addr) (a b : Int) (p q : Q5), vs = [.ref al, .ref e1, .ref e2] ∧ AlgAt CA H al a b ∧ H e1 = some (.tup (ents p)) ∧ H e2 = some (.tup (ents q)) ∧ Bd 1400 p ∧ Bd 1400 q ∧ ∀ t, H t = none → Q (.ref t) (upd H t (.tup (ents (prodQ a b p q))))
def spProd (CA : Addr) : Sp := fun vs H Q _ => ProdP CA vs H Q
set_option maxHeartbeats 8000000 in
theorem ok_product_entries (F : FnD K "product_entries" "product_entries" s_P_product_entries f fd) (R : AlgK K CA) : FnOk P w K mg base CX0 1 f fd ["algebra", "one", "other"] (spProd CA) := by
  refine F.ok sc_P_product_entries (fun vs H Q E h => ?_) (fun cdv A outer s H vs Q E hr h => ?_)
  · obtain ⟨al, e1, e2, a, b, p, q, rfl, _⟩ := h.ex; rfl
  · obtain ⟨al, e1, e2, a, b, p, q5, rfl, hal, h1, h2, ⟨p1, p2, p3, p4, _⟩, ⟨q1, q2, q3, q4, _⟩, q⟩ := h.ex
    refine ⟨_, PSs.nox (pss_cons (ps_par (i := 3) (j := 4) (by rfl) sc_P_product_entries.nd rfl rfl (by decide) rfl rfl (pa_cons (pe_fld (pv 0) rfl) (pa_cons (pe_fld (pv 0) rfl) pa_nil)) (by rfl))
      (pss_cons (ps_asg (pv 1) (pg_tup (by rfl) (pgs_cons (pg_name (i := 5) sc_P_product_entries.nd rfl (Or.inl rfl)) (pgs_cons (pg_name (i := 6) sc_P_product_entries.nd rfl (Or.inl rfl)) (pgs_cons (pg_name (i := 7) sc_P_product_entries.nd rfl (Or.inl rfl)) (pgs_cons (pg_name (i := 8) sc_P_product_entries.nd rfl (Or.inl rfl)) pgs_nil))))))
      (pss_cons (ps_asg (pv 2) (pg_tup (by rfl) (pgs_cons (pg_name (i := 9) sc_P_product_entries.nd rfl (Or.inl rfl)) (pgs_cons (pg_name (i := 10) sc_P_product_entries.nd rfl (Or.inl rfl)) (pgs_cons (pg_name (i := 11) sc_P_product_entries.nd rfl (Or.inl rfl)) (pgs_cons (pg_name (i := 12) sc_P_product_entries.nd rfl (Or.inl rfl)) pgs_nil))))))
      (pss_one (ps_ret (pe_tup (pa_cons (pe_op op_sub (pe_op op_add (pe_op op_add (pe_op op_mulW (pv 5) (pv 9)) (pe_op op_mulW (pe_op op_mulW (pv 3) (pv 6)) (pv 10))) (pe_op op_mulW (pe_op op_mulW (pv 4) (pv 7)) (pv 11))) (pe_op op_mulW (pe_op op_mulW (pe_op op_mulW (pv 3) (pv 4)) (pv 8)) (pv 12))) (pa_cons (pe_op op_add (pe_op op_sub (pe_op op_add (pe_op op_mulW (pv 5) (pv 10)) (pe_op op_mulW (pv 6) (pv 9))) (pe_op op_mulW (pe_op op_mulW (pv 4) (pv 7)) (pv 12))) (pe_op op_mulW (pe_op op_mulW (pv 4) (pv 8)) (pv 11))) (pa_cons (pe_op op_sub (pe_op op_add (pe_op op_add (pe_op op_mulW (pv 5) (pv 11)) (pe_op op_mulW (pv 7) (pv 9))) (pe_op op_mulW (pe_op op_mulW (pv 3) (pv 6)) (pv 12))) (pe_op op_mulW (pe_op op_mulW (pv 3) (pv 8)) (pv 10))) (pa_cons (pe_op op_sub (pe_op op_add (pe_op op_add (pe_op op_mulW (pv 5) (pv 12)) (pe_op op_mulW (pv 8) (pv 9))) (pe_op op_mulW (pv 6) (pv 11))) (pe_op op_mulW (pv 7) (pv 10))) pa_nil)))))))))), ?_⟩
    obtain ⟨dx, pl, l, hx, _, _, a0, b0, ab, bb⟩ := hal.ex
    have a3 : a.natAbs < 2 ^ 30 := by omega
    have b3 : b.natAbs < 2 ^ 30 := by omega
    have l2 : ∀ {i j : Int} {m n : Nat}, i.natAbs < 2 ^ m → j.natAbs < 2 ^ n → (i * j).natAbs < 2 ^ (m + n) := fun h1 h2 => wide_lt h1 h2
    refine ⟨_, rfl, al, CA, dx, _, .int a, rfl, hx, R.own.cls, R.n2, rfl, _, rfl, al, CA, dx, _, .int b, rfl, hx, R.own.cls, R.n3, rfl, _, _, rfl, ?_⟩
    refine ⟨_, rfl, e1, _, rfl, .inl (.inl h1), rfl, _, _, rfl, _, _, rfl, _, _, rfl, _, _, rfl, rfl, ?_⟩
    refine ⟨_, rfl, e2, _, rfl, .inl (.inl h2), rfl, _, _, rfl, _, _, rfl, _, _, rfl, _, _, rfl, rfl, ?_⟩
    exact ⟨_, rfl, _, rfl, _, _, rfl, rfl, wmul p1 q1 (by decide) (by decide) (by decide), _, rfl, _, rfl, _, _, rfl, rfl, wmul a3 p2 (by decide) (by decide) (by decide), _, rfl, _, _, rfl, rfl, wmul (l2 a3 p2) q2 (by decide) (by decide) (by decide), _, _, rfl, rfl, _, rfl, _, rfl, _, _, rfl, rfl, wmul b3 p3 (by decide) (by decide) (by decide), _, rfl, _, _, rfl, rfl, wmul (l2 b3 p3) q3 (by decide) (by decide) (by decide), _, _, rfl, rfl, _, rfl, _, rfl, _, _, rfl, rfl, wmul a3 b3 (by decide) (by decide) (by decide), _, rfl, _, _, rfl, rfl, wmul (l2 a3 b3) p4 (by decide) (by decide) (by decide), _, rfl, _, _, rfl, rfl, wmul (l2 (l2 a3 b3) p4) q4 (by decide) (by decide) (by decide), _, _, rfl, rfl, _, rfl, _, rfl, _, _, rfl, rfl, wmul p1 q2 (by decide) (by decide) (by decide), _, rfl, _, rfl, _, _, rfl, rfl, wmul p2 q1 (by decide) (by decide) (by decide), _, _, rfl, rfl, _, rfl, _, rfl, _, _, rfl, rfl, wmul b3 p3 (by decide) (by decide) (by decide), _, rfl, _, _, rfl, rfl, wmul (l2 b3 p3) q4 (by decide) (by decide) (by decide), _, _, rfl, rfl, _, rfl, _, rfl, _, _, rfl, rfl, wmul b3 p4 (by decide) (by decide) (by decide), _, rfl, _, _, rfl, rfl, wmul (l2 b3 p4) q3 (by decide) (by decide) (by decide), _, _, rfl, rfl, _, rfl, _, rfl, _, _, rfl, rfl, wmul p1 q3 (by decide) (by decide) (by decide), _, rfl, _, rfl, _, _, rfl, rfl, wmul p3 q1 (by decide) (by decide) (by decide), _, _, rfl, rfl, _, rfl, _, rfl, _, _, rfl, rfl, wmul a3 p2 (by decide) (by decide) (by decide), _, rfl, _, _, rfl, rfl, wmul (l2 a3 p2) q4 (by decide) (by decide) (by decide), _, _, rfl, rfl, _, rfl, _, rfl, _, _, rfl, rfl, wmul a3 p4 (by decide) (by decide) (by decide), _, rfl, _, _, rfl, rfl, wmul (l2 a3 p4) q2 (by decide) (by decide) (by decide), _, _, rfl, rfl, _, rfl, _, rfl, _, _, rfl, rfl, wmul p1 q4 (by decide) (by decide) (by decide), _, rfl, _, rfl, _, _, rfl, rfl, wmul p4 q1 (by decide) (by decide) (by decide), _, _, rfl, rfl, _, rfl, _, rfl, _, _, rfl, rfl, wmul p2 q3 (by decide) (by decide) (by decide), _, _, rfl, rfl, _, rfl, _, rfl, _, _, rfl, rfl, wmul p3 q2 (by decide) (by decide) (by decide), _, _, rfl, rfl, (by show 4 ≤ sizeLine; decide), fun t ht => q t ht⟩
structure FourOpP (CF CR CA : Addr) (g : Int → Int → Q5 → Q5 → Q5) (vs : List V) (H : Hp) (Q : VK) : Prop where
  ex : ∃ (x y al be : Addr) (a b : Int) (p q : Q5), vs = [.ref x, .ref y] ∧ FourAt CF CR H x al a b p ∧ FourAt CF CR H y be a b q ∧ AlgAt CA H al a b ∧ AlgAt CA H be a b ∧ Bd 1400 p ∧ Bd 1400 q ∧ (∀ r, Low5 (g a b p q) r → Bd 3000 r) ∧
    ∀ (r : Q5) (z : Addr) (H' : Hp), Low5 (g a b p q) r → H z = none → Same H H' → FourAt CF CR H' z al a b r → Q (.ref z) H'
def spFourOp (CF CR CA : Addr) (g : Int → Int → Q5 → Q5 → Q5) : Sp := fun vs H Q _ => FourOpP CF CR CA g vs H Q
theorem ok_Four_mul (F : FnD K "__mul__" "Four.__mul__" s_P_Four___mul__ f fd) (T : Glob mg) (R : FourK K CF) (G_Four : mg "Four" = some (.ref CF)) (C_P_check_operands : Cal P w K mg base 3 "check_operands" ["one", "other"] (spOperands CF CR CA)) (C_P_product_entries : Cal P w K mg base 1 "product_entries" ["algebra", "one", "other"] (spProd CA))
    (C_P_made_four : Cal P w K mg base 9 "made_four" ["algebra", "entries", "bottom"] (spMadeFour CF CR CA)) : FnOk P w K mg base CX0 10 f fd ["self", "other"] (spFourOp CF CR CA prodQ) := by
  refine F.ok sc_P_Four___mul__ (fun vs H Q E h => ?_) (fun cdv A outer s H vs Q E hr h => ?_)
  · obtain ⟨x, y, al, be, a, b, p, q, rfl, _⟩ := h.ex; rfl
  · obtain ⟨x, y, al, be, a, b, p, q5, rfl, hx, hy, ha, hb, bp, bq, hlow, q⟩ := h.ex
    refine ⟨_, PSs.nox (pss_cons (ps_if (pt_not (pt_val (pe_callB call_isi (by rfl) T.m_isinstance (by decide +kernel) (pa_cons (pv 1) (pa_cons (pe_glob (v := .ref _) rfl G_Four rfl) pa_nil))))) (pss_one ps_never) pss_nil)
      (pss_cons (ps_expr (pe_cal C_P_check_operands (hr.mono (by decide)) (pa_cons (pv 0) (pa_cons (pv 1) pa_nil))))
      (pss_cons (ps_set (i := 2) sc_P_Four___mul__.nd rfl (Or.inl rfl) (pe_cal C_P_product_entries (hr.mono (by decide)) (pa_cons (pe_fld (pv 0) rfl) (pa_cons (pe_fld (pv 0) rfl) (pa_cons (pe_fld (pv 1) rfl) pa_nil)))))
      (pss_one (ps_ret (pe_cal C_P_made_four (hr.mono (by decide)) (pa_cons (pe_fld (pv 0) rfl) (pa_cons (pv 2) (pa_cons (pe_op op_mulW (pe_fld (pv 0) rfl) (pe_fld (pv 1) rfl)) pa_nil))))))))), ?_⟩
    obtain ⟨d1, e1, t1, m1, _, _, _, _, h1, u1, _⟩ := hx.ex
    obtain ⟨d2, e2, t2, m2, _, _, _, _, h2, u2, _⟩ := hy.ex
    refine ⟨_, rfl, _, .ref CF, _, _, true, rfl, .own CF, R.own.ty hy.ins, R.own.kk, _, rfl, ?_⟩
    refine ⟨_, rfl, _, rfl, x, y, al, be, a, b, p, q5, rfl, hx, hy, ha, hb, ?_⟩
    refine ⟨_, rfl, x, CF, d1, _, .ref al, rfl, h1, R.own.cls, R.n1, rfl, _, rfl, x, CF, d1, _, .ref e1, rfl, h1, R.own.cls, R.n2, rfl, _, rfl, y, CF, d2, _, .ref e2, rfl, h2, R.own.cls, R.n2, rfl, ⟨al, e1, e2, a, b, p, q5, rfl, ha, u1, u2, bp, bq, fun t ht => ?_⟩⟩
    have g := fun {c : Addr} {o : HO} (h : H c = some o) => (upd_ne (ne_of_none h ht) : (upd H t (.tup (ents (prodQ a b p q5)))) c = H c).trans h
    refine ⟨_, rfl, x, CF, d1, _, .ref al, rfl, g h1, R.own.cls, R.n1, rfl, _, rfl, _, rfl, x, CF, d1, _, .int p.d, rfl, g h1, R.own.cls, R.n3, rfl, _, rfl, y, CF, d2, _, .int q5.d, rfl, g h2, R.own.cls, R.n3, rfl, _, _, rfl, rfl, wmul bp.2.2.2.2 bq.2.2.2.2 (by decide) (by decide) (by decide), ?_⟩
    have dp := hx.pos
    have dq := hy.pos
    refine ⟨⟨al, t, a, b, prodQ a b p q5, rfl, ha.same (same_upd ht), upd_same, ?_, ?_, hlow, fun r z H' hl hz e hF => q r z H' hl ((same_upd ht).free hz) ((same_upd ht).trans e) hF⟩⟩
    · exact Int.mul_ne_zero (by omega) (by omega)
    · exact Nat.lt_of_lt_of_le (wide_lt bp.2.2.2.2 bq.2.2.2.2) (Nat.pow_le_pow_right (by decide) (by decide))
end
end Sf

namespace Sf
open PySem PySem.Spec PyProof.Rows L2
def mateQ (q : Q5) : Q5 := ⟨q.w, -q.x, -q.y, -q.z, q.d⟩
def addQ (_ _ : Int) (p q : Q5) : Q5 := ⟨p.w * q.d + q.w * p.d, p.x * q.d + q.x * p.d, p.y * q.d + q.y * p.d, p.z * q.d + q.z * p.d, p.d * q.d⟩
section
variable {P : Program} {w : World} {K : PySem.W.Frag} {mg : Str → Option Value} {base : Heap} {f : Addr} {fd : FuncData} {CR CA CF : Addr}
def spMateE : Sp := fun vs H Q _ => ∃ (e : Addr) (q : Q5), vs = [.ref e] ∧ H e = some (.tup (ents q)) ∧ ∀ t, H t = none → Q (.ref t) (upd H t (.tup (ents (mateQ q))))
theorem ok_mate_entries (F : FnD K "mate_entries" "mate_entries" s_P_mate_entries f fd) : FnOk P w K mg base CX0 1 f fd ["entries"] spMateE := by
  refine F.ok sc_P_mate_entries (fun vs H Q E h => ?_) (fun cdv A outer s H vs Q E hr h => ?_)
  · obtain ⟨e, q, rfl, _⟩ := h; rfl
  · obtain ⟨e, q5, rfl, he, q⟩ := h
    refine ⟨_, PSs.nox (pss_cons (ps_asg (pv 0) (pg_tup (by rfl) (pgs_cons (pg_name (i := 1) sc_P_mate_entries.nd rfl (Or.inl rfl)) (pgs_cons (pg_name (i := 2) sc_P_mate_entries.nd rfl (Or.inl rfl)) (pgs_cons (pg_name (i := 3) sc_P_mate_entries.nd rfl (Or.inl rfl)) (pgs_cons (pg_name (i := 4) sc_P_mate_entries.nd rfl (Or.inl rfl)) pgs_nil))))))
      (pss_one (ps_ret (pe_tup (pa_cons (pv 1) (pa_cons (pe_un un_neg (pv 2)) (pa_cons (pe_un un_neg (pv 3)) (pa_cons (pe_un un_neg (pv 4)) pa_nil)))))))), ?_⟩
    refine ⟨_, rfl, e, _, rfl, .inl (.inl he), rfl, _, _, rfl, _, _, rfl, _, _, rfl, _, _, rfl, rfl, ?_⟩
    exact ⟨_, rfl, _, rfl, _, rfl, _, rfl, _, rfl, _, rfl, _, rfl, (by show 4 ≤ sizeLine; decide), fun t ht => q t ht⟩
structure Four1P (CF CR CA : Addr) (g : Q5 → Q5) (vs : List V) (H : Hp) (Q : VK) : Prop where
  ex : ∃ (x al : Addr) (a b : Int) (p : Q5), vs = [.ref x] ∧ FourAt CF CR H x al a b p ∧ AlgAt CA H al a b ∧ Bd 3000 p ∧ (∀ r, Low5 (g p) r → Bd 3000 r) ∧
    ∀ (r : Q5) (z : Addr) (H' : Hp), Low5 (g p) r → H z = none → Same H H' → FourAt CF CR H' z al a b r → Q (.ref z) H'
def spFour1 (CF CR CA : Addr) (g : Q5 → Q5) : Sp := fun vs H Q _ => Four1P CF CR CA g vs H Q
theorem ok_Four_mate (F : FnD K "mate" "Four.mate" s_P_Four_mate f fd) (R : FourK K CF) (C_P_mate_entries : Cal P w K mg base 1 "mate_entries" ["entries"] spMateE) (C_P_made_four : Cal P w K mg base 9 "made_four" ["algebra", "entries", "bottom"] (spMadeFour CF CR CA)) :
    FnOk P w K mg base CX0 10 f fd ["self"] (spFour1 CF CR CA mateQ) := by
  refine F.ok sc_P_Four_mate (fun vs H Q E h => ?_) (fun cdv A outer s H vs Q E hr h => ?_)
  · obtain ⟨x, al, a, b, p, rfl, _⟩ := h.ex; rfl
  · obtain ⟨x, al, a, b, p, rfl, hx, ha, bp, hlow, q⟩ := h.ex
    refine ⟨_, PSs.nox (pss_one (ps_ret (pe_cal C_P_made_four (hr.mono (by decide)) (pa_cons (pe_fld (pv 0) rfl) (pa_cons (pe_cal C_P_mate_entries (hr.mono (by decide)) (pa_cons (pe_fld (pv 0) rfl) pa_nil)) (pa_cons (pe_fld (pv 0) rfl) pa_nil)))))), ?_⟩
    obtain ⟨d1, e1, t1, m1, _, _, _, _, h1, u1, _⟩ := hx.ex
    have dp := hx.pos
    refine ⟨_, rfl, x, CF, d1, _, .ref al, rfl, h1, R.own.cls, R.n1, rfl, _, rfl, x, CF, d1, _, .ref e1, rfl, h1, R.own.cls, R.n2, rfl, e1, p, rfl, u1, fun t ht => ?_⟩
    have g := fun {c : Addr} {o : HO} (h : H c = some o) => (upd_ne (ne_of_none h ht) : (upd H t (.tup (ents (mateQ p)))) c = H c).trans h
    refine ⟨_, rfl, x, CF, d1, _, .int p.d, rfl, g h1, R.own.cls, R.n3, rfl, ⟨al, t, a, b, mateQ p, rfl, ha.same (same_upd ht), upd_same, by show p.d ≠ 0; omega, Nat.lt_of_lt_of_le bp.2.2.2.2 (Nat.pow_le_pow_right (by decide) (by decide)), hlow, fun r z H' hl hz e hF => q r z H' hl ((same_upd ht).free hz) ((same_upd ht).trans e) hF⟩⟩
/-- == of two fours -/
def spFourEq (CF CR CA : Addr) : Sp := fun vs H Q _ => ∃ (x y al be : Addr) (a b c d : Int) (p q : Q5), vs = [.ref x, .ref y] ∧ FourAt CF CR H x al a b p ∧ FourAt CF CR H y be c d q ∧ AlgAt CA H al a b ∧ AlgAt CA H be c d ∧ ∃ k : Bool, (k = true ↔ (a = c ∧ b = d) ∧ p = q) ∧ Q (.bl k) H
end
end Sf

namespace Sf
open PySem PySem.Spec PyProof.Rows L2
theorem iter_tup {prog : Program} {w : World} {A : Around} {E : Value → Shared → Prop} {s : Shared} {l : Addr} {its : Array Value} {Q : Value → Shared → Prop} (hl : s.heap.IsTuple l its)
    (h : (s.heap.push { cls := .type "tuple_iterator", data := .fields #[.ref l, .int 0 0] }).IsTupleIter s.heap.objs.size l 0 ∧ (s.heap.push { cls := .type "tuple_iterator", data := .fields #[.ref l, .int 0 0] }).IsTuple l its → l ≠ s.heap.objs.size →
      Q (.ref s.heap.objs.size) { s with heap := s.heap.push { cls := .type "tuple_iterator", data := .fields #[.ref l, .int 0 0] } }) : wpAny (model prog w) A (pyIter (.ref l)) Q E s := by
  have lt : l < s.heap.objs.size := by
    obtain ⟨_, e, _⟩ := hl
    exact Heap.lt_size e
  exact wpAny_pyIter_tuple hl (h ⟨⟨_, Heap.get?_push_size _ rfl, rfl, rfl⟩, hl.push _⟩ (Nat.ne_of_lt lt))
theorem truth_ints {prog : Program} {w : World} {A : Around} {ns : List Int} {its : List Value} (r : Vals (ns.map V.int) its) :
    TruthOf prog w A (fun i v => its.toArray[i]? = some v) (fun i => ns.getD i 0 != 0) := fun i v s Q E hv hq => by
  have hv' : its[i]? = some v := by simpa using hv
  have il : i < ns.length := by
    have := (List.getElem?_eq_some_iff.mp hv').1
    rw [← r.length, List.length_map] at this
    exact this
  obtain ⟨u, hu, ru⟩ := r.get (i := i) (x := V.int ns[i]) (by rw [List.getElem?_map, List.getElem?_eq_getElem il]; rfl)
  rw [hv'] at hu
  cases hu
  obtain ⟨t, rfl⟩ := (show ∃ t, v = Value.int ns[i] t from ru)
  have hg : ns.getD i 0 = ns[i] := by rw [List.getD_eq_getElem?_getD, List.getElem?_eq_getElem il]; rfl
  have hq' : Q (ns.getD i 0 != 0) s := hq
  rw [hg] at hq'
  exact PyProof.Rows.truthy_int hq'
theorem any_rangeI : ∀ ns : List Int, (List.range ns.length).any (fun i => ns.getD i 0 != 0) = ns.any (fun z => z != 0)
  | [] => rfl
  | b :: ns => by
    rw [List.length_cons, List.range_succ_eq_map, List.any_cons, List.any_map, List.any_cons, ← any_rangeI ns]
    all_goals rfl
section
variable {X : Cx}
/-- any(t), t a tuple of ints -/
def rAnyT (K : PySem.W.Frag) : List V → Hp → VK → Prop := fun vs H Q => ∃ (a : Addr) (ns : List Int), vs = [V.ref a] ∧ SqT K H a (ns.map V.int) ∧ Q (.bl (ns.any fun z => z != 0)) H
theorem cr_anyT (hc : X.calm = true) : CallR X (.builtin "any") (rAnyT X.K) := by
  intro pins s σ H vs us Q I r h
  obtain ⟨a, ns, rfl, hs, q⟩ := h
  obtain ⟨its, rv, hl, _⟩ := I.tuple hs
  rw [Vals.ref1 r]
  refine call_any_walk (iter_tup hl fun st hne => ?_)
  refine ⟨_, _, _, _, _, _, _, rfl, Walks.tuple (A := X.A.in1) (I.ok.hd hc) _ a hne its.toArray, st, truth_ints rv, fun h' tk hk => ?_⟩
  refine ⟨.bl _, H, I.kept fun b o eo => hk b o (fun hmem => ?_) (Heap.get?_push_of_some _ eo), ?_, q⟩
  · rcases List.mem_cons.mp hmem with e1 | hmem
    · exact absurd (e1 ▸ Heap.lt_size eo) (Nat.lt_irrefl _)
    · cases hmem
  · show Value.bool _ = Value.bool _
    rw [← any_rangeI, List.size_toArray, ← rv.length, List.length_map]
end
end Sf

namespace Sf
open PySem PySem.Spec PyProof.Rows L2
def negQ (q : Q5) : Q5 := ⟨-q.w, -q.x, -q.y, -q.z, q.d⟩
def entI (q : Q5) : List Int := [q.w, q.x, q.y, q.z]
theorem ents_int (q : Q5) : ents q = (entI q).map V.int := rfl
theorem int_of_map' {l : List Int} {i : Nat} {v : V} (h : (l.map V.int)[i]? = some v) : ∃ z, l[i]? = some z ∧ v = V.int z := by
  rw [List.getElem?_map] at h
  cases e : l[i]? with
  | none => rw [e] at h; cases h
  | some z => rw [e] at h; exact ⟨z, rfl, (Option.some.inj h).symm⟩
section
variable {P : Program} {w : World} {K : PySem.W.Frag} {mg : Str → Option Value} {base : Heap} {f : Addr} {fd : FuncData} {CR CA CF : Addr}
def spFourBool (CF CR : Addr) : Sp := fun vs H Q _ => ∃ (x al : Addr) (a b : Int) (p : Q5), vs = [.ref x] ∧ FourAt CF CR H x al a b p ∧ ∃ k : Bool, (k = true ↔ ¬ (p.w = 0 ∧ p.x = 0 ∧ p.y = 0 ∧ p.z = 0)) ∧ Q (.bl k) H
theorem ok_Four_bool (F : FnD K "__bool__" "Four.__bool__" s_P_Four___bool__ f fd) (T : Glob mg) (R : FourK K CF) : FnOk P w K mg base CX0 1 f fd ["self"] (spFourBool CF CR) := by
  refine F.ok sc_P_Four___bool__ (fun vs H Q E h => ?_) (fun cdv A outer s H vs Q E hr h => ?_)
  · obtain ⟨x, al, a, b, p, rfl, _⟩ := h; rfl
  · obtain ⟨x, al, a, b, p, rfl, hx, k, hk, q⟩ := h
    refine ⟨_, PSs.nox (pss_one (ps_ret (pe_callB (cr_anyT rfl) (by rfl) T.m_any (by decide +kernel) (pa_cons (pe_fld (pv 0) rfl) pa_nil)))), ?_⟩
    obtain ⟨d1, e1, t1, m1, _, _, _, _, h1, u1, _⟩ := hx.ex
    refine ⟨_, rfl, x, CF, d1, _, .ref e1, rfl, h1, R.own.cls, R.n2, rfl, e1, entI p, rfl, SqT.of u1, ?_⟩
    have e : (entI p).any (fun z => z != 0) = k := by
      rw [Bool.eq_iff_iff, hk]
      unfold entI
      simp
      omega
    rw [e]
    exact q
theorem ok_Four_neg (F : FnD K "__neg__" "Four.__neg__" s_P_Four___neg__ f fd) (T : Glob mg) (R : FourK K CF) (C_P_made_four : Cal P w K mg base 9 "made_four" ["algebra", "entries", "bottom"] (spMadeFour CF CR CA)) :
    FnOk P w K mg base CX0 10 f fd ["self"] (spFour1 CF CR CA negQ) := by
  refine F.ok sc_P_Four___neg__ (fun vs H Q E h => ?_) (fun cdv A outer s H vs Q E hr h => ?_)
  · obtain ⟨x, al, a, b, p, rfl, _⟩ := h.ex; rfl
  · obtain ⟨x, al, a, b, p, rfl, hx, ha, bp, hlow, q⟩ := h.ex
    refine ⟨_, PSs.nox (pss_one (ps_ret (pe_cal C_P_made_four (hr.mono (by decide)) (pa_cons (pe_fld (pv 0) rfl) (pa_cons (pe_callTy call_tuple_of (by rfl) T.m_tuple (by decide +kernel) (pa_cons (pe_lc rfl sc_P_Four___neg__.nd (own := [("part", 1)]) (pi_tup (pe_fld (pv 0) rfl)) (blkOk_by (N := ["self", "part"]) (sc := defScope s_P_Four___neg__) (by decide +kernel)) (fun _ _ _ _ _ => pg_name (i := 1) sc_P_Four___neg__.nd rfl (Or.inl rfl)) (fun _ _ _ _ _ => pts_nil) (fun _ _ _ _ _ => (pe_un un_neg (pv 1)))) pa_nil)) (pa_cons (pe_fld (pv 0) rfl) pa_nil)))))), ?_⟩
    obtain ⟨d1, e1, t1, m1, _, _, _, _, h1, u1, _⟩ := hx.ex
    have dp := hx.pos
    refine ⟨_, rfl, x, CF, d1, _, .ref al, rfl, h1, R.own.cls, R.n1, rfl, _, rfl, x, CF, d1, _, .ref e1, rfl, h1, R.own.cls, R.n2, rfl, e1, rfl, ⟨_, SqT.of u1⟩, fun D hD => lc_tup (K := K) (a := e1) (xs := (entI p).map V.int) (fun i H' => Same H H' ∧ H' D = some (.lst (((entI p).take i).map fun n => V.int (-n)))) ⟨same_upd hD, upd_same⟩ (fun i H' _ hp => SqT.of (hp.1 _ _ u1)) (fun i v H' hv hp => ?_) (fun H' hp => ?_)⟩
    · obtain ⟨k1, hd⟩ := hp
      obtain ⟨n, hn, rfl⟩ := int_of_map' hv
      refine ⟨rfl, _, rfl, n, rfl, _, hd, ?_, ?_, ?_⟩
      · rw [List.length_map]
        have := List.length_take_le' i (entI p)
        exact Nat.lt_of_le_of_lt (Nat.le_trans this (by show 4 ≤ 4; exact Nat.le_refl _)) (by decide)
      · intro c o ec
        rw [upd_ne (ne_of_none ec hD)]
        exact k1 _ _ ec
      · rw [upd_same, List.take_add_one, hn, List.map_append]; rfl
    · obtain ⟨k1, hd⟩ := hp
      refine ⟨D, _, rfl, .inl ⟨SqL.of hd, fun t ht => ?_⟩⟩
      have et : ((entI p).take ((entI p).map V.int).length).map (fun n => V.int (-n)) = ents (negQ p) := rfl
      rw [et]
      have k2 := k1.trans (same_upd (o := .tup (ents (negQ p))) ht)
      refine ⟨_, rfl, x, CF, d1, _, .int p.d, rfl, k2 _ _ h1, R.own.cls, R.n3, rfl, ⟨al, t, a, b, negQ p, rfl, ha.same k2, upd_same, by show p.d ≠ 0; omega, Nat.lt_of_lt_of_le bp.2.2.2.2 (Nat.pow_le_pow_right (by decide) (by decide)), hlow, fun r z H'' hl hz e hF => q r z H'' hl (k2.free hz) (k2.trans e) hF⟩⟩
theorem ok_Four_eq (F : FnD K "__eq__" "Four.__eq__" s_P_Four___eq__ f fd) (T : Glob mg) (R : FourK K CF) (G_Four : mg "Four" = some (.ref CF)) (O_Algebra : OwnK K CA) (M_Algebra_eq : CalM P w K mg base 1 "__eq__" CA ["self", "value"] (spAlgEq CA)) : FnOk P w K mg base CX0 2 f fd ["self", "value"] (spFourEq CF CR CA) := by
  refine F.ok sc_P_Four___eq__ (fun vs H Q E h => ?_) (fun cdv A outer s H vs Q E hr h => ?_)
  · obtain ⟨x, y, al, be, a, b, c, d, p, q, rfl, _⟩ := h; rfl
  · obtain ⟨x, y, al, be, a, b, c, d, p, q5, rfl, hx, hy, ha, hb, k, hk, q⟩ := h
    refine ⟨_, PSs.nox (pss_one (ps_ret (pe_and (pe_callB call_isi (by rfl) T.m_isinstance (by decide +kernel) (pa_cons (pv 1) (pa_cons (pe_glob (v := .ref _) rfl G_Four rfl) pa_nil))) (pe_and (pe_cmpR (eq_own M_Algebra_eq.me M_Algebra_eq.ok (hr.mono (by decide)) M_Algebra_eq.b pass0) (pe_fld (pv 0) rfl) (pe_fld (pv 1) rfl) (nomark _)) (pe_and (pe_cmpR (op_eqD hr.units) (pe_fld (pv 0) rfl) (pe_fld (pv 1) rfl) (nomark _)) (pe_one (pe_cmp (pc_eqI (pe_fld (pv 0) rfl) (pe_fld (pv 1) rfl)) rfl))))))), ?_⟩
    obtain ⟨d1, e1, t1, m1, _, _, _, _, h1, u1, _⟩ := hx.ex
    obtain ⟨d2, e2, t2, m2, _, _, _, _, h2, u2, _⟩ := hy.ex
    have kf : ∀ {z : Bool}, (z = true ↔ (a = c ∧ b = d) ∧ p = q5) → z = k := fun {z} h => Bool.eq_iff_iff.mpr (h.trans hk.symm)
    refine ⟨_, rfl, _, .ref CF, _, _, true, rfl, .own CF, R.own.ty hy.ins, R.own.kk, _, rfl, ?_⟩
    refine ⟨_, rfl, x, CF, d1, _, .ref al, rfl, h1, R.own.cls, R.n1, rfl, _, rfl, y, CF, d2, _, .ref be, rfl, h2, R.own.cls, R.n1, rfl, ?_⟩
    refine ⟨al, be, rfl, rfl, ha.ins, hb.ins, al, be, a, b, c, d, rfl, ha, hb, decide (a = c ∧ b = d), decide_eq_true_iff, _, rfl, ifd (fun h => ?_) (fun h => ?_)⟩
    · refine ⟨_, rfl, x, CF, d1, _, .ref e1, rfl, h1, R.own.cls, R.n2, rfl, _, rfl, y, CF, d2, _, .ref e2, rfl, h2, R.own.cls, R.n2, rfl, ?_⟩
      refine ⟨.tuple ((entI p).map PyData.int), .tuple ((entI q5).map PyData.int), dp_tup (ns := entI p) (SqT.of u1), dp_tup (ns := entI q5) (SqT.of u2), shp_tup _, shp_tup _, ?_⟩
      rw [eqv_tups']
      refine ⟨_, rfl, ifd (fun h3 => ?_) (fun h3 => ?_)⟩
      · refine ⟨_, rfl, x, CF, d1, _, .int p.d, rfl, h1, R.own.cls, R.n3, rfl, _, rfl, y, CF, d2, _, .int q5.d, rfl, h2, R.own.cls, R.n3, rfl, _, _, rfl, rfl, ?_⟩
        have z := kf (z := decide (p.d = q5.d)) (by
          rw [decide_eq_true_iff]
          constructor
          · intro e
            refine ⟨h, ?_⟩
            obtain ⟨w1, x1, y1, z1, dd1⟩ := p
            obtain ⟨w2, x2, y2, z2, dd2⟩ := q5
            unfold entI at h3
            simp at h3 e
            obtain ⟨r1, r2, r3, r4⟩ := h3
            subst r1 r2 r3 r4 e
            rfl
          · rintro ⟨_, e⟩
            rw [e])
        show Q (.bl (decide (p.d = q5.d))) H
        rw [z]
        exact q
      · have z := kf (z := false) ⟨fun h => Bool.noConfusion h, fun e => absurd (by rw [e.2]) h3⟩
        show Q (.bl false) H
        rw [z]
        exact q
    · have z := kf (z := false) ⟨fun h => Bool.noConfusion h, fun e => absurd e.1 h⟩
      show Q (.bl false) H
      rw [z]
      exact q
end
end Sf

namespace Sf
open PySem PySem.Spec PyProof.Rows L2
/-! values near a tuple of ints -/
/-- what stands in such a tuple -/
inductive El (H : Hp) : V → Prop
  | int (n : Int) : El H (.int n)
  | non : El H .non
  | one : El H (.str "1")
  | bl (b : Bool) : El H (.bl b)
  | tup {a : Addr} {n : Int} (h : H a = some (.tup [.int n])) : El H (.ref a)
def isI : V → Bool
  | .int _ => true
  | _ => false
theorem isI_iff {v : V} : isI v = true ↔ ∃ n, v = .int n := by
  cases v with
  | int n => exact ⟨fun _ => ⟨n, rfl⟩, fun _ => rfl⟩
  | _ => exact ⟨fun z => Bool.noConfusion z, fun ⟨_, e⟩ => V.noConfusion e⟩
theorem El.same {H H' : Hp} {v : V} (h : El H v) (s : Same H H') : El H' v := by
  cases h with
  | int n => exact .int n
  | non => exact .non
  | one => exact .one
  | bl b => exact .bl b
  | tup h => exact .tup (s _ _ h)
theorem El.intB {K : PySem.W.Frag} {H : Hp} {v : V} (h : El H v) : IntB K H v (isI v) := by
  cases h with
  | int n => exact .int n
  | non => exact .non
  | one => exact .str _
  | bl b => exact .bl b
  | tup h => exact .tup h
/-- the type of such a thing -/
theorem El.ty {K : PySem.W.Frag} {H : Hp} {v : V} (h : El H v) : ∃ (t : String) (bi bb : Bool), TyX K H v (.type t) ∧ kitB t "int" = some bi ∧ kitB t "bool" = some bb ∧ isI v = (bi && !bb) := h.intB
/-- as data -/
theorem El.data {K : PySem.W.Frag} {H : Hp} {v : V} (h : El H v) : ∃ d, Dp K H v d ∧ PyData.canLay0 d = true ∧ PyData.depth d ≤ 1 := by
  cases h with
  | int n => exact ⟨_, .int n, rfl, Nat.zero_le _⟩
  | non => exact ⟨_, .non, rfl, Nat.zero_le _⟩
  | one => exact ⟨_, .str _, by decide +kernel, Nat.zero_le _⟩
  | bl b => exact ⟨_, .bl b, rfl, Nat.zero_le _⟩
  | @tup a n h => exact ⟨_, dp_tup (ns := [n]) (SqT.of h), rfl, Nat.le_refl _⟩
theorem els_data {K : PySem.W.Frag} {H : Hp} : ∀ (xs : List V), (∀ x ∈ xs, El H x) → ∃ ds, DpAll K H xs ds ∧ PyData.canLayAll0 ds = true ∧ PyData.depthAll ds ≤ 1 ∧ ds.length = xs.length
  | [], _ => ⟨[], .nil, rfl, Nat.zero_le _, rfl⟩
  | x :: xs, h => by
    obtain ⟨d, h1, h2, h3⟩ := (h x List.mem_cons_self).data (K := K)
    obtain ⟨ds, g1, g2, g3, g4⟩ := els_data (K := K) xs fun y hy => h y (List.mem_cons_of_mem _ hy)
    refine ⟨d :: ds, .cons h1 g1, ?_, ?_, by rw [List.length_cons, List.length_cons, g4]⟩
    · show (PyData.canLay0 d && PyData.canLayAll0 ds) = true
      rw [h2, g2]
      rfl
    · show max (PyData.depth d) (PyData.depthAll ds) ≤ 1
      omega
theorem eqv_nil : ∀ ds : List PyData, PyData.eqv (.list ds) (.list []) = decide (ds.length = 0)
  | [] => by unfold PyData.eqv; rfl
  | d :: ds => by unfold PyData.eqv; rfl
/-- a tuple of such things -/
def TupV (H : Hp) (v : V) (xs : List V) : Prop := ∃ a, v = .ref a ∧ H a = some (.tup xs) ∧ xs.length ≤ 10 ∧ ∀ x ∈ xs, El H x
def NoTup (H : Hp) (v : V) : Prop := v = .non ∨ (∃ i, v = .int i) ∨ (∃ s, v = .str s) ∨ ∃ a, v = .ref a ∧ ((∃ xs, H a = some (.lst xs)) ∨ ∃ kvs, H a = some (.dK kvs))
def AnyV (H : Hp) (v : V) : Prop := (∃ xs, TupV H v xs) ∨ NoTup H v
def Tri (H : Hp) (v : V) (x y z : Int) : Prop := ∃ a, v = .ref a ∧ H a = some (.tup [.int x, .int y, .int z])
theorem TupV.same {H H' : Hp} {v : V} {xs : List V} (h : TupV H v xs) (s : Same H H') : TupV H' v xs := by
  obtain ⟨a, e, h1, h2, h3⟩ := h
  exact ⟨a, e, s _ _ h1, h2, fun x hx => (h3 x hx).same s⟩
theorem NoTup.same {H H' : Hp} {v : V} (h : NoTup H v) (s : Same H H') : NoTup H' v := by
  rcases h with h | h | h | ⟨a, e, ⟨xs, h⟩ | ⟨xs, h⟩⟩
  · exact .inl h
  · exact .inr (.inl h)
  · exact .inr (.inr (.inl h))
  · exact .inr (.inr (.inr ⟨a, e, .inl ⟨xs, s _ _ h⟩⟩))
  · exact .inr (.inr (.inr ⟨a, e, .inr ⟨xs, s _ _ h⟩⟩))
theorem AnyV.same {H H' : Hp} {v : V} (h : AnyV H v) (s : Same H H') : AnyV H' v := by
  rcases h with ⟨xs, h⟩ | h
  · exact .inl ⟨xs, h.same s⟩
  · exact .inr (h.same s)
theorem Tri.same {H H' : Hp} {v : V} {x y z : Int} (h : Tri H v x y z) (s : Same H H') : Tri H' v x y z := let ⟨a, e, g⟩ := h; ⟨a, e, s _ _ g⟩
theorem Tri.any {H : Hp} {v : V} {x y z : Int} (h : Tri H v x y z) : AnyV H v := by
  obtain ⟨a, e, g⟩ := h
  refine .inl ⟨_, a, e, g, by show 3 ≤ 10; decide, fun u hu => ?_⟩
  have c : u = .int x ∨ u = .int y ∨ u = .int z := by simpa using hu
  rcases c with rfl | rfl | rfl <;> exact .int _
theorem Tri.uni {H : Hp} {v : V} {x y z x' y' z' : Int} (h : Tri H v x y z) (g : Tri H v x' y' z') : x = x' ∧ y = y' ∧ z = z' := by
  obtain ⟨a, rfl, h⟩ := h
  obtain ⟨b, e, g⟩ := g
  cases e
  rw [h] at g
  cases g
  exact ⟨rfl, rfl, rfl⟩
theorem NoTup.noTri {H : Hp} {v : V} {x y z : Int} (h : NoTup H v) (g : Tri H v x y z) : False := by
  obtain ⟨b, rfl, g⟩ := g
  rcases h with h | ⟨_, h⟩ | ⟨_, h⟩ | ⟨a, e, ⟨xs, h⟩ | ⟨xs, h⟩⟩
  · cases h
  · cases h
  · cases h
  · cases e
    rw [h] at g
    cases g
  · cases e
    rw [h] at g
    cases g
theorem TupV.tri {H : Hp} {v : V} {xs : List V} (h : TupV H v xs) {x y z : Int} : Tri H v x y z ↔ xs = [.int x, .int y, .int z] := by
  obtain ⟨a, rfl, h, _⟩ := h
  constructor
  · rintro ⟨b, e, g⟩
    cases e
    rw [h] at g
    cases g
    rfl
  · rintro rfl
    exact ⟨a, rfl, h⟩
theorem NoTup.kit {K : PySem.W.Frag} {H : Hp} {v : V} (h : NoTup H v) : ∃ t, TyX K H v (.type t) ∧ kitB t "tuple" = some false := by
  rcases h with rfl | ⟨_, rfl⟩ | ⟨_, rfl⟩ | ⟨a, rfl, ⟨xs, h⟩ | ⟨xs, h⟩⟩
  · exact ⟨"NoneType", .base .non, by decide +kernel⟩
  · exact ⟨"int", .base (.int _), by decide +kernel⟩
  · exact ⟨"str", .base (.str _), by decide +kernel⟩
  · exact ⟨"list", .base (.lst h), by decide +kernel⟩
  · exact ⟨"dict", .base (.dK h), by decide +kernel⟩
theorem three_ints {xs : List V} (l : xs.length = 3) : (xs.all isI = true) ↔ ∃ x y z : Int, xs = [.int x, .int y, .int z] := by
  match xs, l with
  | [a, b, c], _ =>
    constructor
    · intro h
      simp only [List.all_cons, List.all_nil, Bool.and_eq_true] at h
      obtain ⟨x, rfl⟩ := isI_iff.mp h.1
      obtain ⟨y, rfl⟩ := isI_iff.mp h.2.1
      obtain ⟨z, rfl⟩ := isI_iff.mp h.2.2.1
      exact ⟨x, y, z, rfl⟩
    · rintro ⟨x, y, z, e⟩
      cases e
      rfl
end Sf

namespace Sf
open PySem PySem.Spec PyProof.Rows L2
section
variable {P : Program} {w : World} {K : PySem.W.Frag} {mg : Str → Option Value} {base : Heap} {f : Addr} {fd : FuncData}
structure TripP (vs : List V) (H : Hp) (Q : VK) : Prop where
  ex : ∃ v, vs = [v] ∧ AnyV H v ∧ ∀ (r : Bool) (H' : Hp), Same H H' → (r = true ↔ ∃ x y z, Tri H v x y z) → Q (.bl r) H'
def spTrip : Sp := fun vs H Q _ => TripP vs H Q
theorem ok_is_triple (F : FnD K "is_triple" "is_triple" s_P_is_triple f fd) (T : Glob mg) (C_P_is_integer : Cal P w K mg base 1 "is_integer" ["value"] (spIsInt K)) : FnOk P w K mg base CX0 2 f fd ["value"] spTrip := by
  refine F.ok sc_P_is_triple (fun vs H Q E h => ?_) (fun cdv A outer s H vs Q E hr h => ?_)
  · obtain ⟨v, rfl, _⟩ := h.ex; rfl
  · obtain ⟨v, rfl, hv, q⟩ := h.ex
    refine ⟨_, PSs.nox (pss_one (ps_ret (pe_and (pe_callB call_isi (by rfl) T.m_isinstance (by decide +kernel) (pa_cons (pv 0) (pa_cons (pe_bltn (v := .ty "tuple") (u := .type "tuple") (by rfl) T.m_tuple (by decide +kernel) rfl) pa_nil))) (pe_and (pe_cmp (pc_eqI (pe_callB call_len_seq (by rfl) T.m_len (by decide +kernel) (pa_cons (pv 0) pa_nil)) pe_int) rfl) (pe_one (pe_callB (cr_all rfl) (by rfl) T.m_all (by decide +kernel) (pa_cons (pe_lc rfl sc_P_is_triple.nd (own := [("part", 1)]) (pi_tup (pv 0)) (blkOk_by (N := ["value", "part"]) (sc := defScope s_P_is_triple) (by decide +kernel)) (fun _ _ _ _ _ => pg_name (i := 1) sc_P_is_triple.nd rfl (Or.inl rfl)) (fun _ _ _ _ _ => pts_nil) (fun _ _ _ _ _ => (pe_cal C_P_is_integer (hr.mono (by decide)) (pa_cons (pv 1) pa_nil)))) pa_nil))))))), ?_⟩
    rcases hv with ⟨xs, hv⟩ | hv
    · obtain ⟨e, rfl, he, hl, hx⟩ := id hv
      refine ⟨_, rfl, _, .ty "tuple", _, _, true, rfl, .ty "tuple", .base (.tup he), (by show kitB "tuple" "tuple" = some true; decide +kernel), _, rfl, ?_⟩
      refine ⟨_, rfl, e, _, rfl, .inr (SqT.of he), _, _, rfl, rfl, _, rfl, ifd (fun h3 => ?_) (fun h3 => ?_)⟩
      · have l3 : xs.length = 3 := by omega
        refine ⟨_, rfl, e, rfl, ⟨_, SqT.of he⟩, fun D hD => lc_tup (K := K) (a := e) (xs := xs) (fun i H' => Same H H' ∧ H' D = some (.lst (((xs.take i).map isI).map V.bl))) ⟨same_upd hD, upd_same⟩ (fun i H' _ hp => SqT.of (hp.1 _ _ he)) (fun i v H' hv' hp => ?_) (fun H' hp => ?_)⟩
        · obtain ⟨e1, hd⟩ := hp
          refine ⟨rfl, ?_⟩
          refine ⟨_, rfl, v, isI v, rfl, ((hx v (List.mem_of_getElem? hv')).same e1).intB, ?_⟩
          refine ⟨_, hd, ?_, ?_, ?_⟩
          · rw [List.length_map, List.length_map]
            have := List.length_take_le' i xs
            exact Nat.lt_of_le_of_lt (Nat.le_trans this hl) (by decide)
          · intro b o eb
            rw [upd_ne (ne_of_none eb hD)]
            exact e1 _ _ eb
          · rw [upd_same, List.take_add_one, hv', List.map_append, List.map_append]; rfl
        · obtain ⟨e1, hd⟩ := hp
          rw [List.take_length] at hd
          refine ⟨D, _, rfl, SqL.of hd, q _ _ e1 ?_⟩
          rw [List.all_map]
          refine Iff.trans ?_ ((three_ints l3).trans (exists_congr fun x => exists_congr fun y => exists_congr fun z => hv.tri.symm))
          exact Iff.rfl
      · refine q _ _ (Same.refl _) ⟨fun z => Bool.noConfusion z, fun ⟨x, y, z, g⟩ => ?_⟩
        rw [hv.tri.mp g] at h3
        exact absurd rfl h3
    · obtain ⟨t, h1, h2⟩ := hv.kit (K := K)
      refine ⟨_, rfl, _, .ty "tuple", _, _, false, rfl, .ty "tuple", h1, h2, _, rfl, ?_⟩
      exact q _ _ (Same.refl _) ⟨fun z => Bool.noConfusion z, fun ⟨x, y, z, g⟩ => (hv.noTri g).elim⟩
/-- a x x + b y y = c z z, not all 0 -/
def Sol (a b c x y z : Int) : Prop := ¬ (x = 0 ∧ y = 0 ∧ z = 0) ∧ a * x * x + b * y * y = c * z * z
structure SolvP (vs : List V) (H : Hp) (Q : VK) : Prop where
  ex : ∃ (a b c : Int) (v : V), vs = [.int a, .int b, .int c, v] ∧ a.natAbs < 2 ^ 60 ∧ b.natAbs < 2 ^ 60 ∧ c.natAbs < 2 ^ 60 ∧ AnyV H v ∧ (∀ x y z, Tri H v x y z → x.natAbs < 2 ^ 300 ∧ y.natAbs < 2 ^ 300 ∧ z.natAbs < 2 ^ 300) ∧
    ∀ (r : Bool) (H' : Hp), Same H H' → (r = true ↔ ∃ x y z, Tri H v x y z ∧ Sol a b c x y z) → Q (.bl r) H'
def spSolv : Sp := fun vs H Q _ => SolvP vs H Q
theorem ok_solves (F : FnD K "solves" "solves" s_P_solves f fd) (T : Glob mg) (C_P_is_triple : Cal P w K mg base 2 "is_triple" ["value"] spTrip) : FnOk P w K mg base CX0 3 f fd ["a", "b", "c", "value"] spSolv := by
  refine F.ok sc_P_solves (fun vs H Q E h => ?_) (fun cdv A outer s H vs Q E hr h => ?_)
  · obtain ⟨a, b, c, v, rfl, _⟩ := h.ex; rfl
  · obtain ⟨a, b, c, v, rfl, ha, hb, hc, hv, hbd, q⟩ := h.ex
    refine ⟨_, PSs.nox (pss_cons (ps_if (PW.pt (pw_or (pt_not (pt_val (pe_cal C_P_is_triple (hr.mono (by decide)) (pa_cons (pv 3) pa_nil)))) (pw_or1 (pt_not (pt_val (pe_callB (cr_anyT rfl) (by rfl) T.m_any (by decide +kernel) (pa_cons (pv 3) pa_nil))))))) (pss_one (ps_ret pe_bl)) pss_nil)
      (pss_cons (ps_asg (pv 3) (pg_tup (by rfl) (pgs_cons (pg_name (i := 4) sc_P_solves.nd rfl (Or.inl rfl)) (pgs_cons (pg_name (i := 5) sc_P_solves.nd rfl (Or.inl rfl)) (pgs_cons (pg_name (i := 6) sc_P_solves.nd rfl (Or.inl rfl)) pgs_nil)))))
      (pss_one (ps_ret (pe_cmp (pc_eqI (pe_op op_add (pe_op op_mulW (pe_op op_mulW (pv 0) (pv 4)) (pv 4)) (pe_op op_mulW (pe_op op_mulW (pv 1) (pv 5)) (pv 5))) (pe_op op_mulW (pe_op op_mulW (pv 2) (pv 6)) (pv 6))) rfl))))), ?_⟩
    refine ⟨_, rfl, v, rfl, hv, fun r H1 e1 hr => ?_⟩
    cases r with
    | false =>
      exact ⟨_, rfl, q _ _ e1 ⟨fun z => Bool.noConfusion z, fun ⟨x, y, z, g, _⟩ => absurd (hr.mpr ⟨x, y, z, g⟩) (by decide)⟩⟩
    | true =>
      obtain ⟨x, y, z, g⟩ := hr.mp rfl
      obtain ⟨b1, b2, b3⟩ := hbd _ _ _ g
      have g1 := g.same e1
      obtain ⟨t, rfl, ht⟩ := id g1
      refine ⟨_, rfl, _, rfl, t, [x, y, z], rfl, SqT.of ht, _, rfl, ifnb (fun h1 => ?_) (fun h1 => ?_)⟩
      · refine q _ _ e1 ⟨fun z => Bool.noConfusion z, fun ⟨x', y', z', g', h0, _⟩ => ?_⟩
        obtain ⟨rfl, rfl, rfl⟩ := g.uni g'
        exfalso
        simp at h1
        exact h0 h1
      · have hn : ¬ (x = 0 ∧ y = 0 ∧ z = 0) := fun z0 => by
          simp at h1
          omega
        have l2 : ∀ {i j : Int} {m n : Nat}, i.natAbs < 2 ^ m → j.natAbs < 2 ^ n → (i * j).natAbs < 2 ^ (m + n) := fun h1 h2 => wide_lt h1 h2
        refine ⟨_, rfl, t, _, rfl, .inl (.inl ht), rfl, _, _, rfl, _, _, rfl, _, _, rfl, rfl, ?_⟩
        refine ⟨_, rfl, _, rfl, _, _, rfl, rfl, wmul ha b1 (by decide) (by decide) (by decide), _, rfl, _, _, rfl, rfl, wmul (l2 ha b1) b1 (by decide) (by decide) (by decide), _, rfl, _, rfl, _, _, rfl, rfl, wmul hb b2 (by decide) (by decide) (by decide), _, rfl, _, _, rfl, rfl, wmul (l2 hb b2) b2 (by decide) (by decide) (by decide), _, _, rfl, rfl, ?_⟩
        refine ⟨_, rfl, _, rfl, _, _, rfl, rfl, wmul hc b3 (by decide) (by decide) (by decide), _, rfl, _, _, rfl, rfl, wmul (l2 hc b3) b3 (by decide) (by decide) (by decide), _, _, rfl, rfl, ?_⟩
        refine q _ _ e1 ?_
        rw [decide_eq_true_iff]
        exact ⟨fun h => ⟨x, y, z, g, hn, h⟩, fun ⟨x', y', z', g', _, h⟩ => by obtain ⟨rfl, rfl, rfl⟩ := g.uni g'; exact h⟩
structure PointP (vs : List V) (H : Hp) (Q : VK) : Prop where
  ex : ∃ (a b : Int) (v : V), vs = [.int a, .int b, v] ∧ a ≠ 0 ∧ b ≠ 0 ∧ a.natAbs ≤ 1000000000 ∧ b.natAbs ≤ 1000000000 ∧ AnyV H v ∧ (∀ x y z, Tri H v x y z → x.natAbs < 2 ^ 300 ∧ y.natAbs < 2 ^ 300 ∧ z.natAbs < 2 ^ 300) ∧
    ∀ (r : Bool) (H' : Hp), Same H H' → (r = true ↔ ∃ x y z, Tri H v x y z ∧ Sol a b 1 x y z) → Q (.bl r) H'
def spPoint : Sp := fun vs H Q _ => PointP vs H Q
theorem ok_is_point (F : FnD K "is_point" "is_point" s_P_is_point f fd) (C_P_check_number : Cal P w K mg base 2 "check_number" ["value"] spCheckNumber) (C_P_solves : Cal P w K mg base 3 "solves" ["a", "b", "c", "value"] spSolv) : FnOk P w K mg base CX0 4 f fd ["a", "b", "value"] spPoint := by
  refine F.ok sc_P_is_point (fun vs H Q E h => ?_) (fun cdv A outer s H vs Q E hr h => ?_)
  · obtain ⟨a, b, v, rfl, _⟩ := h.ex; rfl
  · obtain ⟨a, b, v, rfl, a0, b0, ha, hb, hv, hbd, q⟩ := h.ex
    refine ⟨_, PSs.nox (pss_cons (ps_expr (pe_cal C_P_check_number (hr.mono (by decide)) (pa_cons (pv 0) pa_nil)))
      (pss_cons (ps_expr (pe_cal C_P_check_number (hr.mono (by decide)) (pa_cons (pv 1) pa_nil)))
      (pss_one (ps_ret (pe_cal C_P_solves (hr.mono (by decide)) (pa_cons (pv 0) (pa_cons (pv 1) (pa_cons pe_int (pa_cons (pv 2) pa_nil))))))))), ?_⟩
    refine ⟨_, rfl, a, rfl, a0, by omega, by omega, _, rfl, b, rfl, b0, by omega, by omega, ?_⟩
    exact ⟨_, rfl, _, rfl, _, rfl, ⟨a, b, 1, v, rfl, by omega, by omega, by decide, hv, hbd, q⟩⟩
end
end Sf

namespace Sf
open PySem PySem.Spec PyProof.Rows L2
section
variable {X : Cx}
theorem cr_repr_bl : CallR X (.builtin "repr") (fun xs H Q => ∃ b : Bool, xs = [.bl b] ∧ Q (.str (if b then "True" else "False")) H) := by
  intro pins s σ H xs us Q I r h
  obtain ⟨b, rfl, q⟩ := h
  obtain ⟨u, rfl, t⟩ := vals1 r
  cases (show u = Value.bool b from t)
  exact PySem.P.repr_of_bool ⟨.str _, H, I.tok _, ⟨_, rfl⟩, q⟩
end
end Sf

namespace Sf
open PySem PySem.Spec PyProof.Rows L2
section
variable {P : Program} {w : World} {K : PySem.W.Frag} {mg : Str → Option Value} {base : Heap} {f : Addr} {fd : FuncData}
structure TakeP (vs : List V) (H : Hp) (Q : VK) : Prop where
  ex : ∃ (p : Addr) (xs : List V) (n : Nat) (m : Int), vs = [.ref p, .int m] ∧ H p = some (.lst xs) ∧ SackO n xs ∧ n ≤ 1000000 ∧ 1 ≤ m ∧ m < 10 ^ 80 ∧
  ∀ (r : Int) (ys : List V), 0 ≤ r → r < m → SackO (n + 1) ys → Q (.int r) (upd H p (.lst ys))
def spTake : Sp := fun vs H Q _ => TakeP vs H Q
theorem ok_drop (F : FnD K "_law_drop" "_law_drop" s_L_drop f fd) (T : Glob mg) : FnOk P w K mg base CX0 1 f fd ["_law_vial_here", "_law_total"] spTake := by
  refine F.ok sc_L_drop (fun vs H Q E h => ?_) (fun cdv A outer s H vs Q E hr h => ?_)
  · obtain ⟨p, xs, n, m, rfl, _⟩ := h.ex; rfl
  · obtain ⟨p, _, n, m, rfl, hp, ⟨a, b, c, rfl, a0, a1, b0, b1, c0, c1⟩, hn, hm, hm1, q⟩ := h.ex
    have m0 : (0 : Int) < m := by omega
    have mb : m.natAbs < 2 ^ 3000 := lt3000 (by omega) (Int.lt_trans hm1 (by decide +kernel))
    have hS : SqL K H p [.int a, .int b, .int c] := SqL.of hp
    refine ⟨_, PSs.nox (pss_cons (ps_if (pt_cmp (pc_gt (pe_ix ix_list (pv 0) pe_int (fun _ _ => rfl)) pe_int)) (pss_cons (ps_set (i := 2) sc_L_drop.nd rfl (Or.inl rfl) (pe_op op_mod (pe_callTy call_int1 (by rfl) T.m_int (by decide +kernel) (pa_cons (pe_ix ix_list (pv 0) pe_int (fun _ _ => rfl)) pa_nil)) (pv 1)))
      (pss_cons (ps_asg (pe_op op_fdivW (pe_ix ix_list (pv 0) pe_int (fun _ _ => rfl)) (pv 1)) (pg_sub (pv 0) pe_int set_list))
      (pss_one (ps_ret (pv 2))))) pss_nil)
      (pss_cons (ps_asg (pe_op op_add (pe_ix ix_list (pv 0) pe_int (fun _ _ => rfl)) pe_int) (pg_sub (pv 0) pe_int set_list))
      (pss_cons (ps_set (i := 3) sc_L_drop.nd rfl (Or.inl rfl) (pe_op op_mod (pe_callTy call_int1 (by rfl) T.m_int (by decide +kernel) (pa_cons (pe_op op_add (pe_ix ix_list (pv 0) pe_int (fun _ _ => rfl)) (pe_op op_mulW pe_int (pe_ix ix_list (pv 0) pe_int (fun _ _ => rfl)))) pa_nil)) pe_int))
      (pss_cons (ps_set (i := 4) sc_L_drop.nd rfl (Or.inl rfl) (pe_op op_mod (pe_callTy call_int1 (by rfl) T.m_int (by decide +kernel) (pa_cons (pe_op op_add (pe_op op_mulW (pv 3) (pv 3)) (pe_op op_mulW pe_int (pe_ix ix_list (pv 0) pe_int (fun _ _ => rfl)))) pa_nil)) pe_int))
      (pss_one (ps_ret (pe_op op_mod (pe_callTy call_int1 (by rfl) T.m_int (by decide +kernel) (pa_cons (pe_op op_fdivW (pe_op op_add (pe_op op_mulW (pv 4) pe_int) (pv 3)) pe_int) pa_nil)) (pv 1)))))))), ?_⟩
    refine ⟨_, rfl, p, _, 0, .int a, rfl, rfl, hS, rfl, _, _, rfl, rfl, _, rfl, ifd (fun h => ?_) (fun h => ?_)⟩
    · refine ⟨_, rfl, p, _, 0, .int a, rfl, rfl, hS, rfl, .inl ⟨_, rfl, _, rfl, _, _, rfl, rfl, m0, ?_⟩⟩
      refine ⟨_, rfl, p, _, 0, .int a, rfl, rfl, hS, rfl, _, rfl, _, _, rfl, rfl, CDivW.of m0 mb, ?_⟩
      refine ⟨_, rfl, p, _, 0, 0, rfl, rfl, hp, rfl, ?_⟩
      refine ⟨_, rfl, q (a % m) _ (Int.emod_nonneg _ (by omega)) (Int.emod_lt_of_pos _ m0) ⟨a / m, b, c, rfl, Int.ediv_nonneg a0 (by omega), ?_, b0, b1, c0, by omega⟩⟩
      exact Int.lt_of_le_of_lt (Int.ediv_le_self m a0) a1
    · refine ⟨_, rfl, p, _, 2, .int c, rfl, rfl, hS, rfl, _, _, rfl, rfl, ?_⟩
      refine ⟨_, rfl, p, _, 2, 2, rfl, rfl, hp, rfl, ?_⟩
      have hS2 : SqL K (upd H p (.lst [.int a, .int b, .int (c + 1)])) p [.int a, .int b, .int (c + 1)] := SqL.of upd_same
      refine ⟨_, rfl, p, _, 1, .int b, rfl, rfl, hS2, rfl, _, rfl, p, _, 2, .int (c + 1), rfl, rfl, hS2, rfl, _, _, rfl, rfl, CMulW.of (lt3000s (by decide) (by decide)) (lt3000s (by omega) (by omega)), _, _, rfl, rfl, .inl ⟨_, rfl, _, _, rfl, rfl, (by show (0 : Int) < 2305843009213693951; decide), ?_⟩⟩
      refine ⟨_, rfl, _, rfl, _, _, rfl, rfl, CMulW.of (lt3000s (by omega) (by omega)) (lt3000s (by omega) (by omega)), _, rfl, p, _, 2, .int (c + 1), rfl, rfl, hS2, rfl, _, _, rfl, rfl, CMulW.of (lt3000s (by decide) (by decide)) (lt3000s (by omega) (by omega)), _, _, rfl, rfl, .inl ⟨_, rfl, _, _, rfl, rfl, (by show (0 : Int) < 2305843009213693921; decide), ?_⟩⟩
      refine ⟨_, rfl, _, _, rfl, rfl, CMulW.of (lt3000s (by omega) (by omega)) (lt3000s (by omega) (by omega)), _, rfl, _, _, rfl, rfl, _, _, rfl, rfl, CDivW.of (by decide) (lt3000s (by decide) (by decide)), .inl ⟨_, rfl, _, rfl, _, _, rfl, rfl, m0, ?_⟩⟩
      refine q _ _ (Int.emod_nonneg _ (by omega)) (Int.emod_lt_of_pos _ m0) ⟨a, b, c + 1, rfl, a0, a1, b0, b1, by omega, by omega⟩
end
end Sf

namespace Sf
open PySem PySem.Spec PyProof.Rows L2
section
variable {P : Program} {w : World} {K : PySem.W.Frag} {mg : Str → Option Value} {base : Heap} {f : Addr} {fd : FuncData}
structure OneOfP (K : PySem.W.Frag) (vs : List V) (H : Hp) (Q : VK) : Prop where
  ex : ∃ (p b : Addr) (xs items : List V) (n : Nat), vs = [.ref p, .ref b] ∧ H p = some (.lst xs) ∧ SackO n xs ∧ n ≤ 1000000 ∧ b ≠ p ∧ SqL K H b items ∧ 1 ≤ items.length ∧ items.length ≤ 1000000 ∧
  ∀ (v : V) (ys : List V), v ∈ items → SackO (n + 1) ys → Q v (upd H p (.lst ys))
def spOneOf (K : PySem.W.Frag) : Sp := fun vs H Q _ => OneOfP K vs H Q
theorem ok_any (F : FnD K "_law_any" "_law_any" s_L_any f fd) (T : Glob mg) (C_L_drop : Cal P w K mg base 1 "_law_drop" ["_law_vial_here", "_law_total"] spTake) : FnOk P w K mg base CX0 2 f fd ["_law_vial_here", "_law_items"] (spOneOf K) := by
  refine F.ok sc_L_any (fun vs H Q E h => ?_) (fun cdv A outer s H vs Q E hr h => ?_)
  · obtain ⟨p, b, xs, items, n, rfl, _⟩ := h.ex; rfl
  · obtain ⟨p, b, xs, items, n, rfl, hp, hx, hn, hne, hS, hl0, hl1, q⟩ := h.ex
    refine ⟨_, PSs.nox (pss_one (ps_ret (pe_ix ix_list (pv 1) (pe_cal C_L_drop (hr.mono (by decide)) (pa_cons (pv 0) (pa_cons (pe_callB call_len_seq (by rfl) T.m_len (by decide +kernel) (pa_cons (pv 1) pa_nil)) pa_nil))) (fun _ _ => rfl)))), ?_⟩
    refine ⟨_, rfl, _, rfl, _, rfl, b, _, rfl, .inl hS, ⟨p, xs, n, _, rfl, hp, hx, hn, by omega, ?_, fun r ys h0 h1 hy => ?_⟩⟩
    · exact Int.lt_trans (by omega : (items.length : Int) < 1000001) (by decide +kernel)
    · have hi : r.toNat < items.length := by omega
      have er : ((r.toNat : Nat) : Int) = r := by omega
      refine ⟨b, items, r, items[r.toNat], rfl, rfl, sq_upd hS hne, ?_, q _ ys (List.getElem_mem hi) hy⟩
      have z := atI_nat (List.getElem?_eq_getElem hi)
      rw [er] at z
      exact z
end
end Sf

namespace Sf
open PySem PySem.Spec PyProof.Rows L2
/-- a draw: the same promises in the words of Sk -/
theorem take_of {H : Hp} {p : Addr} {n : Nat} {m : Int} {Q : VK} (hs : Sk p n H) (hn : n ≤ 1000000) (h1 : 1 ≤ m) (h2 : m < 10 ^ 80) (q : ∀ (r : Int) (H' : Hp), 0 ≤ r → r < m → Keep p H H' → Sk p (n + 1) H' → (∀ b, H b = none → H' b = none) → Q (.int r) H') : TakeP [.ref p, .int m] H Q := by
  obtain ⟨xs, a, b⟩ := hs
  exact ⟨p, xs, n, m, rfl, a, b, hn, h1, h2, fun r ys r0 r1 hy => q r _ r0 r1 Keep.upd ⟨ys, upd_same, hy⟩ fun c hc => by rw [upd_ne (fun z => by rw [z, a] at hc; cases hc)]; exact hc⟩
theorem one_of_new {K : PySem.W.Frag} {H : Hp} {p b : Addr} {n : Nat} {items : List V} {Q : VK} (hs : Sk p n H) (hn : n ≤ 1000000) (hb : H b = none) (h1 : 1 ≤ items.length) (h2 : items.length ≤ 1000000)
    (q : ∀ (v : V) (H' : Hp), v ∈ items → Keep p H H' → Sk p (n + 1) H' → Q v H') : OneOfP K [.ref p, .ref b] (upd H b (.lst items)) Q := by
  obtain ⟨xs, a, o⟩ := hs
  have npb : p ≠ b := ne_of_none a hb
  refine ⟨p, b, xs, items, n, rfl, by rw [upd_ne npb]; exact a, o, hn, npb.symm, SqL.of upd_same, h1, h2, fun v ys hv hy => q v _ hv ?_ ⟨ys, upd_same, hy⟩⟩
  exact (Keep.new hb).trans Keep.upd
end Sf

namespace Sf
open PySem PySem.Spec PyProof.Rows L2
section
variable {P : Program} {w : World} {K : PySem.W.Frag} {mg : Str → Option Value} {base : Heap} {f : Addr} {fd : FuncData}
def spSack (K : PySem.W.Frag) : Sp := fun vs H Q _ => ∃ (a : Addr) (ns : List Int) (t : Nat), vs = [.ref a, .int t] ∧ SqL K H a (ns.map V.int) ∧ ns.length ≤ 63 ∧ t ≤ 10 ∧
  ∀ (p : Addr) (xs : List V) (H' : Hp), Same H H' → H p = none → H' p = some (.lst xs) → SackO 0 xs → Q (.ref p) H'
theorem ok_vial (F : FnD K "_law_vial" "_law_vial" s_L_vial f fd) (T : Glob mg) : FnOk P w K mg base CX0 1 f fd ["_law_script", "_law_at"] (spSack K) := by
  refine F.ok sc_L_vial (fun vs H Q E h => ?_) (fun cdv A outer s H vs Q E hr h => ?_)
  · obtain ⟨a, ns, t, rfl, _⟩ := h; rfl
  · obtain ⟨a, ns, t, rfl, hS, hl, ht, q⟩ := h
    refine ⟨_, PSs.nox (Evl.pss_cut (ps_set (i := 2) sc_L_vial.nd rfl (Or.inl rfl) (pe_ifExp (pt_cmp (pc_lt (pv 1) (pe_callB call_len_seq (by rfl) T.m_len (by decide +kernel) (pa_cons (pv 0) pa_nil)))) (pe_callTy call_int1 (by rfl) T.m_int (by decide +kernel) (pa_cons (pe_ix ix_list (pv 0) (pv 1) (fun _ _ => rfl)) pa_nil)) (pe_op op_add (pe_op op_mulW pe_int (pv 1)) pe_int)))
      (pss_cons (ps_set (i := 3) sc_L_vial.nd rfl (Or.inl rfl) (pe_op op_mod (pe_callTy call_int1 (by rfl) T.m_int (by decide +kernel) (pa_cons (pe_callB call_abs (by rfl) T.m_abs (by decide +kernel) (pa_cons (pv 2) pa_nil)) pa_nil)) (pe_op op_powW (pe_op op_powW pe_int pe_int) pe_int)))
      (pss_one (ps_ret (pe_lst (pa_cons (pe_callB (call_max2 rfl) (by rfl) T.m_max (by decide +kernel) (pa_cons pe_int (pa_cons (pe_op op_sub (pv 3) (pe_op op_powW pe_int pe_int)) pa_nil))) (pa_cons (pe_op op_add (pe_op op_add (pe_op op_add (pe_op op_mulW (pe_op op_mod (pv 3) pe_int) pe_int) (pe_op op_mulW pe_int (pv 1))) (pe_op op_mulW pe_int (pe_callTy call_int1 (by rfl) T.m_int (by decide +kernel) (pa_cons (pe_cmp (pc_lt (pv 2) pe_int) rfl) pa_nil)))) pe_int) (pa_cons pe_int pa_nil)))))))), ?_⟩
    refine ⟨fun σ' H' => ∃ c : Int, σ' = [some (.ref a), some (.int t), some (.int c), none] ∧ Same H H', ?_, ?_⟩
    · refine ⟨_, rfl, _, rfl, a, _, rfl, .inl hS, _, _, rfl, rfl, _, rfl, ifd (fun h => ?_) (fun h => ?_)⟩
      · have hi : t < ns.length := by
          rw [List.length_map] at h
          omega
        refine ⟨_, rfl, _, rfl, a, _, t, .int ns[t], rfl, rfl, hS, atI_nat (by rw [List.getElem?_map, List.getElem?_eq_getElem hi]; rfl), .inl ⟨_, rfl, ?_⟩⟩
        exact ⟨_, rfl, Same.refl H⟩
      · refine ⟨_, rfl, _, _, rfl, rfl, CMulW.of (lt3000s (by decide) (by decide)) (lt3000s (by omega) (by omega)), _, _, rfl, rfl, ?_⟩
        exact ⟨_, rfl, Same.refl H⟩
    · rintro σ' H' ⟨c, rfl, hs⟩
      refine ⟨_, rfl, c, rfl, .inl ⟨_, rfl, 10, 57, rfl, rfl, ⟨by decide, by decide +kernel⟩, 10 ^ 57, 6, rfl, rfl, ⟨by decide, by decide +kernel⟩, _, _, rfl, rfl, (by show (0 : Int) < (10 ^ 57) ^ (6 : Int).toNat; decide +kernel), ?_⟩⟩
      have g0 := Int.emod_nonneg (if c < 0 then -c else c) (by decide +kernel : ((10 : Int) ^ 57) ^ (6 : Int).toNat ≠ 0)
      have g1 := Int.emod_lt_of_pos (if c < 0 then -c else c) (by decide +kernel : (0 : Int) < ((10 : Int) ^ 57) ^ (6 : Int).toNat)
      have e290 : ((10 : Int) ^ 57) ^ (6 : Int).toNat = 10 ^ 342 := by decide +kernel
      rw [e290] at g0 g1
      have gb := lt3000 g0 (Int.lt_trans g1 (by decide +kernel))
      refine ⟨_, rfl, 10, 17, rfl, rfl, ⟨by decide, by decide +kernel⟩, _, _, rfl, rfl, _, _, rfl, ?_⟩
      refine ⟨_, rfl, _, _, rfl, rfl, (by show (0 : Int) < 1000000000061; decide), _, _, rfl, rfl, CMulW.of (lt3000s (by omega) (by omega)) (lt3000s (by decide) (by decide)), _, rfl, _, _, rfl, rfl, CMulW.of (lt3000s (by decide) (by decide)) (lt3000s (by omega) (by omega)), _, _, rfl, rfl, ?_⟩
      refine ⟨_, rfl, _, _, rfl, rfl, .inr ⟨_, rfl, _, _, rfl, rfl, CMulW.of (lt3000s (by decide) (by decide)) (lt3000s (by split <;> decide) (by split <;> decide)), _, _, rfl, rfl, _, _, rfl, rfl, (by show 3 ≤ sizeLine; decide), fun p hp => ?_⟩⟩
      have e16 : (10 : Int) ^ (17 : Int).toNat = 100000000000000000 := by decide +kernel
      have eb : ∀ b : Bool, 0 ≤ (if b = true then (1 : Int) else 0) ∧ (if b = true then (1 : Int) else 0) ≤ 1 := fun b => by cases b <;> decide
      have hb := eb (decide (c < 0))
      refine q p _ _ (hs.trans (same_upd hp)) (hs.free hp) upd_same ⟨_, _, _, rfl, ?_, ?_, ?_, ?_, by decide, by decide⟩
      · rw [e16]
        split <;> omega
      · rw [e16, e290]
        have : (0 : Int) < 10 ^ 342 := by decide +kernel
        have h1 : ∀ z N : Int, 0 ≤ z → z < N → 0 < N → (if z - 100000000000000000 > 0 then z - 100000000000000000 else 0) < N := fun z N a b c => by split <;> omega
        exact Int.lt_trans (h1 _ _ g0 g1 this) (by decide +kernel)
      · omega
      · omega
end
end Sf

namespace Sf
open PySem PySem.Spec PyProof.Rows L2
section
variable {P : Program} {w : World} {K : PySem.W.Frag} {mg : Str → Option Value} {base : Heap} {f : Addr} {fd : FuncData}
structure NumP (vs : List V) (H : Hp) (Q : VK) : Prop where
  ex : ∃ (p : Addr) (n : Nat) (m : Int), vs = [.ref p, .int m] ∧ Sk p n H ∧ n + 3 ≤ 1000000 ∧ 60 ≤ m ∧ m ≤ 1000000 ∧ ∀ (r : Int) (H' : Hp), r ≠ 0 → r.natAbs ≤ m.natAbs → Keep p H H' → Sk p (n + 3) H' → Q (.int r) H'
def spNum : Sp := fun vs H Q _ => NumP vs H Q
theorem ok_number (F : FnD K "_law_number" "_law_number" s_L_number f fd) (C_L_drop : Cal P w K mg base 1 "_law_drop" ["_law_vial_here", "_law_total"] spTake) (C_L_any : Cal P w K mg base 2 "_law_any" ["_law_vial_here", "_law_items"] (spOneOf K)) : FnOk P w K mg base CX0 3 f fd ["_law_vial_here", "_law_most"] spNum := by
  refine F.ok sc_L_number (fun vs H Q E h => ?_) (fun cdv A outer s H vs Q E hr h => ?_)
  · obtain ⟨p, n, m, rfl, _⟩ := h.ex; rfl
  · obtain ⟨p, n, m, rfl, hs, hn, m0, m1, q⟩ := h.ex
    refine ⟨_, PSs.nox (pss_one (ps_ret (pe_op op_mulW (pe_cal C_L_any (hr.mono (by decide)) (pa_cons (pv 0) (pa_cons (pe_lst (pa_cons pe_int (pa_cons (pe_un un_neg pe_int) pa_nil))) pa_nil))) (pe_op op_add pe_int (pe_cal C_L_drop (hr.mono (by decide)) (pa_cons (pv 0) (pa_cons (pe_cal C_L_any (hr.mono (by decide)) (pa_cons (pv 0) (pa_cons (pe_lst (pa_cons pe_int (pa_cons pe_int (pa_cons pe_int (pa_cons (pv 1) pa_nil))))) pa_nil))) pa_nil))))))), ?_⟩
    refine ⟨_, rfl, 1, rfl, (by show 2 ≤ sizeLine; decide), fun b hb => one_of_new hs (by omega) hb (by show 1 ≤ 2; decide) (by show 2 ≤ 1000000; decide) fun x H1 hv k1 s1 => ?_⟩
    obtain ⟨z, rfl, hz⟩ : ∃ z : Int, x = .int z ∧ (z = 1 ∨ z = -1) := by
      have c : x = .int 1 ∨ x = .int (-1) := by simpa using hv
      rcases c with e | e
      · exact ⟨1, e, .inl rfl⟩
      · exact ⟨-1, e, .inr rfl⟩
    refine ⟨_, rfl, _, rfl, _, rfl, (by show 4 ≤ sizeLine; decide), fun b2 hb2 => one_of_new s1 (by omega) hb2 (by show 1 ≤ 4; decide) (by show 4 ≤ 1000000; decide) fun y H2 hv2 k2 s2 => ?_⟩
    obtain ⟨u, rfl, u0, u1⟩ : ∃ u : Int, y = .int u ∧ 1 ≤ u ∧ u ≤ m := by
      have c : y = .int 2 ∨ y = .int 12 ∨ y = .int 60 ∨ y = .int m := by simpa using hv2
      rcases c with e | e | e | e <;> exact ⟨_, e, by omega, by omega⟩
    refine take_of s2 (by omega) u0 (Int.lt_trans (by omega : u < 1000001) (by decide +kernel)) fun t H3 t0 t1 k3 s3 _ => ?_
    refine ⟨_, _, rfl, rfl, _, _, rfl, rfl, CMulW.of (lt3000s (by omega) (by omega)) (lt3000s (by omega) (by omega)), ?_⟩
    refine q _ _ ?_ ?_ ((k1.trans k2).trans k3) (s3.mono (by omega))
    · rcases hz with rfl | rfl <;> omega
    · rcases hz with rfl | rfl <;> omega
structure WorldP (vs : List V) (H : Hp) (Q : VK) : Prop where
  ex : ∃ (p : Addr) (n : Nat), vs = [.ref p] ∧ Sk p n H ∧ n + 12 ≤ 1000000 ∧ ∀ (a b x y z : Int) (t v : Addr) (H' : Hp), a ≠ 0 → b ≠ 0 → a.natAbs ≤ 100000000 → b.natAbs ≤ 100000000 → x.natAbs ≤ 5000 → y.natAbs ≤ 5000 → z.natAbs ≤ 5000 → Sol a b 1 x y z →
    Keep p H H' → Sk p (n + 12) H' → H' t = some (.tup [.int a, .int b, .ref v]) → H' v = some (.tup [.int x, .int y, .int z]) → Q (.ref t) H'
def spWorld : Sp := fun vs H Q _ => WorldP vs H Q
theorem ok_world (F : FnD K "_law_world" "_law_world" s_L_world f fd) (T : Glob mg) (C_L_drop : Cal P w K mg base 1 "_law_drop" ["_law_vial_here", "_law_total"] spTake) (C_L_number : Cal P w K mg base 3 "_law_number" ["_law_vial_here", "_law_most"] spNum) : FnOk P w K mg base CX0 4 f fd ["_law_vial_here"] spWorld := by
  refine F.ok sc_L_world (fun vs H Q E h => ?_) (fun cdv A outer s H vs Q E hr h => ?_)
  · obtain ⟨p, n, rfl, _⟩ := h.ex; rfl
  · obtain ⟨p, n, rfl, hs, hn, q⟩ := h.ex
    refine ⟨_, PSs.nox (pss_cons (ps_par3 (i := 1) (j := 2) (l := 3) (by rfl) sc_L_world.nd rfl rfl rfl (by decide) (by decide) (by decide) rfl rfl rfl (pa_cons (pe_cal C_L_drop (hr.mono (by decide)) (pa_cons (pv 0) (pa_cons pe_int pa_nil))) (pa_cons (pe_op op_add pe_int (pe_cal C_L_drop (hr.mono (by decide)) (pa_cons (pv 0) (pa_cons pe_int pa_nil)))) (pa_cons (pe_cal C_L_drop (hr.mono (by decide)) (pa_cons (pv 0) (pa_cons pe_int pa_nil))) pa_nil))) (by rfl))
      (pss_cons (ps_par (i := 4) (j := 5) (by rfl) sc_L_world.nd rfl rfl (by decide) rfl rfl (pa_cons (pe_cal C_L_drop (hr.mono (by decide)) (pa_cons (pv 0) (pa_cons pe_int pa_nil))) (pa_cons (pe_cal C_L_number (hr.mono (by decide)) (pa_cons (pv 0) (pa_cons pe_int pa_nil))) pa_nil)) (by rfl))
      (pss_cons (ps_if (pt_cmp (pc_eqI (pv 4) pe_int)) (pss_one (ps_ret (pe_tup (pa_cons (pe_op op_mulW (pv 5) (pv 5)) (pa_cons (pe_cal C_L_number (hr.mono (by decide)) (pa_cons (pv 0) (pa_cons pe_int pa_nil))) (pa_cons (pe_tup (pa_cons pe_int (pa_cons pe_int (pa_cons (pe_callB call_abs (by rfl) T.m_abs (by decide +kernel) (pa_cons (pv 5) pa_nil)) pa_nil)))) pa_nil)))))) pss_nil)
      (pss_cons (ps_set (i := 6) sc_L_world.nd rfl (Or.inl rfl) (pe_op op_sub (pe_op op_mulW (pv 3) (pv 3)) (pe_op op_mulW (pe_op op_mulW (pv 5) (pv 1)) (pv 1))))
      (pss_one (ps_ret (pe_ifExp (PW.pt (pw_and (pt_cmp (pc_eqI (pv 4) pe_int)) (pw_and1 (pt_cmp (pc_neI (pv 6) pe_int))))) (pe_tup (pa_cons (pv 5) (pa_cons (pv 6) (pa_cons (pe_tup (pa_cons (pv 1) (pa_cons pe_int (pa_cons (pv 3) pa_nil)))) pa_nil)))) (pe_tup (pa_cons (pv 5) (pa_cons (pe_un un_neg (pv 5)) (pa_cons (pe_tup (pa_cons (pv 2) (pa_cons (pv 2) (pa_cons pe_int pa_nil)))) pa_nil))))))))))), ?_⟩
    refine ⟨_, rfl, take_of hs (by omega) (by decide) (by decide +kernel) fun x H1 x0 x1 k1 s1 _ => ⟨_, rfl, take_of s1 (by omega) (by decide) (by decide +kernel) fun y H2 y0 y1 k2 s2 _ => ⟨_, _, rfl, rfl, _, rfl, take_of s2 (by omega) (by decide) (by decide +kernel) fun z H3 z0 z1 k3 s3 _ => ⟨_, _, _, rfl, ?_⟩⟩⟩⟩
    refine ⟨_, rfl, take_of s3 (by omega) (by decide) (by decide +kernel) fun wy H4 w0 w1 k4 s4 _ => ⟨_, rfl, ⟨p, n + 4, 5000, rfl, s4, by omega, by decide, by decide, fun a H5 a0 a1 k5 s5 => ⟨_, _, rfl, ?_⟩⟩⟩⟩
    have k05 := (((k1.trans k2).trans k3).trans k4).trans k5
    have fin : ∀ (a b x y z : Int) (H6 : Hp), a ≠ 0 → b ≠ 0 → a.natAbs ≤ 100000000 → b.natAbs ≤ 100000000 → x.natAbs ≤ 5000 → y.natAbs ≤ 5000 → z.natAbs ≤ 5000 → Sol a b 1 x y z → Keep p H H6 → Sk p (n + 12) H6 →
        ∀ v, H6 v = none → ∀ t, (upd H6 v (.tup [.int x, .int y, .int z])) t = none → Q (.ref t) (upd (upd H6 v (.tup [.int x, .int y, .int z])) t (.tup [.int a, .int b, .ref v])) := fun a b x y z H6 a0 b0 a1 b1 x1 y1 z1 so k s v hv t ht =>
      q a b x y z t v _ a0 b0 a1 b1 x1 y1 z1 so ((k.trans (Keep.new hv)).trans (Keep.new ht)) ((s.same (same_upd hv)).same (same_upd ht)) upd_same (by rw [upd_ne (ne_of_none upd_same ht), upd_same])
    have aa : (a * a).natAbs ≤ 25000000 := small_mul (A := 5000) (B := 5000) a1 a1
    refine ⟨_, rfl, _, _, rfl, rfl, _, rfl, ifd (fun h => ?_) (fun h => ?_)⟩
    · refine ⟨_, rfl, _, rfl, _, _, rfl, rfl, CMulW.of (lt3000s (by omega) (by omega)) (lt3000s (by omega) (by omega)), _, rfl, ⟨p, n + 7, 1000, rfl, s5, by omega, by decide, by decide, fun b H6 b0 b1 k6 s6 => ?_⟩⟩
      refine ⟨_, rfl, a, rfl, (by show 3 ≤ sizeLine; decide), fun v hv => ⟨(by show 3 ≤ sizeLine; decide), fun t ht => ?_⟩⟩
      have ea : (if a < 0 then -a else a) * (if a < 0 then -a else a) = a * a := by
        split
        · exact Int.neg_mul_neg a a
        · rfl
      refine fin (a * a) b 1 0 (if a < 0 then -a else a) H6 (Int.mul_ne_zero a0 a0) b0 (by omega) (by omega) (by decide) (by decide) (by split <;> omega) ⟨fun z => absurd z.1 (by decide), ?_⟩ (k05.trans k6) (s6.mono (by omega)) v hv t ht
      rw [Int.one_mul, ea, Int.mul_one, Int.mul_one, Int.mul_zero, Int.add_zero]
    · have zz : (z * z).natAbs ≤ 40000 := small_mul (A := 200) (B := 200) (by omega) (by omega)
      have ax : (a * x).natAbs ≤ 150000 := small_mul (A := 5000) (B := 30) a1 (by omega)
      have axx : (a * x * x).natAbs ≤ 4500000 := small_mul (A := 150000) (B := 30) ax (by omega)
      refine ⟨_, rfl, _, rfl, _, _, rfl, rfl, CMulW.of (lt3000s (by omega) (by omega)) (lt3000s (by omega) (by omega)), _, rfl, _, rfl, _, _, rfl, rfl, CMulW.of (lt3000s (by omega) (by omega)) (lt3000s (by omega) (by omega)), _, rfl, _, _, rfl, rfl, CMulW.of (lt3000s (by omega) (by omega)) (lt3000s (by omega) (by omega)), _, _, rfl, rfl, ?_⟩
      have other : ∀ v, H5 v = none → ∀ t, (upd H5 v (.tup [.int (1 + y), .int (1 + y), .int 0])) t = none → Q (.ref t) (upd (upd H5 v (.tup [.int (1 + y), .int (1 + y), .int 0])) t (.tup [.int a, .int (-a), .ref v])) := fun v hv t ht =>
        fin a (-a) (1 + y) (1 + y) 0 H5 a0 (by omega) (by omega) (by omega) (by omega) (by omega) (by decide) ⟨fun z => by omega, by rw [Int.neg_mul, Int.neg_mul, Int.mul_zero, Int.add_right_neg]⟩ k05 (s5.mono (by omega)) v hv t ht
      refine ⟨_, rfl, _, _, rfl, rfl, _, rfl, ifd (fun h1 => ?_) (fun h1 => ?_)⟩
      · refine ⟨_, rfl, _, _, rfl, rfl, _, rfl, ifn (fun h2 => ?_) (fun h2 => ?_)⟩
        · refine ⟨_, rfl, _, rfl, _, rfl, _, rfl, (by show 3 ≤ sizeLine; decide), fun v hv => ⟨(by show 3 ≤ sizeLine; decide), fun t ht => ?_⟩⟩
          exact fin a _ x 1 z H5 a0 h2 (by omega) (by omega) (by omega) (by decide) (by omega) ⟨fun z => absurd z.2.1 (by decide), by rw [Int.one_mul, Int.mul_one, Int.mul_one]; omega⟩ k05 (s5.mono (by omega)) v hv t ht
        · exact ⟨_, rfl, _, rfl, a, rfl, _, rfl, _, rfl, (by show 3 ≤ sizeLine; decide), fun v hv => ⟨(by show 3 ≤ sizeLine; decide), fun t ht => other v hv t ht⟩⟩
      · exact ⟨_, rfl, _, rfl, a, rfl, _, rfl, _, rfl, (by show 3 ≤ sizeLine; decide), fun v hv => ⟨(by show 3 ≤ sizeLine; decide), fun t ht => other v hv t ht⟩⟩
end
end Sf

namespace Sf
open PySem PySem.Spec PyProof.Rows L2
theorem cut_take (xs : List V) (n : Nat) : cutV xs none (some (n : Int)) = xs.take n := by
  unfold cutV
  rw [HT.sIx_nat, HT.sIx_none, List.drop_zero, Nat.sub_zero]
  by_cases h : n ≤ xs.length
  · rw [Nat.min_eq_left h]
  · rw [Nat.min_eq_right (by omega), List.take_length, List.take_of_length_le (by omega)]
theorem cut_drop (xs : List V) (n : Nat) : cutV xs (some (n : Int)) none = xs.drop n := by
  unfold cutV
  rw [HT.sIx_nat, HT.sIx_none]
  by_cases h : n ≤ xs.length
  · rw [Nat.min_eq_left h, List.take_of_length_le (by rw [List.length_drop]; omega)]
  · rw [Nat.min_eq_right (by omega), List.drop_length, List.drop_of_length_le (by omega), List.take_nil]
theorem slA_of {K : PySem.W.Frag} {H : Hp} {a : Addr} {xs : List V} {lo hi : Option Int} {Q : VK} (h : H a = some (.tup xs)) (q : ∀ (p : Addr) (H' : Hp), Same H H' → H' p = some (.tup (cutV xs lo hi)) → Q (.ref p) H') : rSlA K (.ref a) lo hi H Q := by
  refine ⟨a, xs, rfl, SqT.of h, fun e => ?_, fun _ p hp => q p _ (same_upd hp) upd_same⟩
  refine q a H (Same.refl H) ?_
  rw [h]
  unfold cutV
  rw [e.1, e.2, List.drop_zero, Nat.sub_zero, List.take_length]
theorem catA_of {K : PySem.W.Frag} {H : Hp} {a b : Addr} {xs ys : List V} {Q : VK} (ha : H a = some (.tup xs)) (hb : H b = some (.tup ys)) (l : xs.length + ys.length ≤ sizeLine) (q : ∀ (p : Addr) (H' : Hp), Same H H' → H' p = some (.tup (xs ++ ys)) → Q (.ref p) H') : rCatA K (.ref a) (.ref b) H Q := by
  refine ⟨a, b, xs, ys, rfl, rfl, SqT.of ha, SqT.of hb, l, fun e => ?_, fun _ e => ?_, fun _ _ p hp => q p _ (same_upd hp) upd_same⟩
  · subst e
    exact q b H (Same.refl H) hb
  · subst e
    exact q a H (Same.refl H) (by rw [List.append_nil]; exact ha)
/-- a value that may be judged -/
def Good (H : Hp) (v : V) : Prop := AnyV H v ∧ ∀ x y z, Tri H v x y z → x.natAbs < 2 ^ 300 ∧ y.natAbs < 2 ^ 300 ∧ z.natAbs < 2 ^ 300
theorem Good.tup {H : Hp} {a : Addr} {xs : List V} (h : H a = some (.tup xs)) (l : xs.length ≤ 10) (e : ∀ u ∈ xs, El H u ∧ ∀ n, u = .int n → n.natAbs < 2 ^ 300) : Good H (.ref a) := by
  have t : TupV H (.ref a) xs := ⟨a, rfl, h, l, fun u hu => (e u hu).1⟩
  refine ⟨.inl ⟨xs, t⟩, fun x y z g => ?_⟩
  have ex := t.tri.mp g
  subst ex
  exact ⟨(e (.int x) (by simp)).2 x rfl, (e (.int y) (by simp)).2 y rfl, (e (.int z) (by simp)).2 z rfl⟩
theorem Good.no {H : Hp} {v : V} (h : NoTup H v) : Good H v := ⟨.inr h, fun _ _ _ g => (h.noTri g).elim⟩
theorem small300 {n : Int} (h : n.natAbs ≤ 1000000) : n.natAbs < 2 ^ 300 := Nat.lt_of_le_of_lt h (by decide +kernel)
section
variable {P : Program} {w : World} {K : PySem.W.Frag} {mg : Str → Option Value} {base : Heap} {f : Addr} {fd : FuncData}
structure NearP (vs : List V) (H : Hp) (Q : VK) : Prop where
  ex : ∃ (p : Addr) (n : Nat) (v : V) (x y z : Int), vs = [.ref p, v] ∧ Sk p n H ∧ n + 4 ≤ 1000000 ∧ Tri H v x y z ∧ x.natAbs ≤ 5000 ∧ y.natAbs ≤ 5000 ∧ z.natAbs ≤ 5000 ∧ ∀ (v' : V) (H' : Hp), Good H' v' → Keep p H H' → Sk p (n + 4) H' → Q v' H'
def spNear : Sp := fun vs H Q _ => NearP vs H Q
set_option maxHeartbeats 8000000 in
theorem ok_near (F : FnD K "_law_near" "_law_near" s_L_near f fd) (T : Glob mg) (C_L_drop : Cal P w K mg base 1 "_law_drop" ["_law_vial_here", "_law_total"] spTake) (C_L_any : Cal P w K mg base 2 "_law_any" ["_law_vial_here", "_law_items"] (spOneOf K)) : FnOk P w K mg base CX0 3 f fd ["_law_vial_here", "_law_value"] spNear := by
  refine F.ok sc_L_near (fun vs H Q E h => ?_) (fun cdv A outer s H vs Q E hr h => ?_)
  · obtain ⟨p, n, v, x, y, z, rfl, _⟩ := h.ex; rfl
  · obtain ⟨p, n, v, x, y, z, rfl, hs, hn, ⟨t, rfl, ht⟩, bx, by_, bz, q⟩ := h.ex
    have ntp : t ≠ p := fun e => by
      obtain ⟨_, a, _⟩ := hs
      rw [e, a] at ht
      cases ht
    refine ⟨_, PSs.nox (pss_cons (ps_par (i := 2) (j := 3) (by rfl) sc_L_near.nd rfl rfl (by decide) rfl rfl (pa_cons (pe_cal C_L_drop (hr.mono (by decide)) (pa_cons (pv 0) (pa_cons pe_int pa_nil))) (pa_cons (pe_cal C_L_drop (hr.mono (by decide)) (pa_cons (pv 0) (pa_cons pe_int pa_nil))) pa_nil)) (by rfl))
      (pss_cons (ps_if (pt_cmp (pc_lt (pv 3) pe_int)) (pss_one (ps_ret (pe_op op_catA (pe_op op_catA (pe_slice sl_tupA (pv 1) po_none (po_some (pv 2))) (pe_tup (pa_cons (pe_op op_add (pe_ix ix_tup (pv 1) (pv 2) (fun _ _ => rfl)) (pe_cal C_L_any (hr.mono (by decide)) (pa_cons (pv 0) (pa_cons (pe_lst (pa_cons (pe_un un_neg pe_int) (pa_cons (pe_un un_neg pe_int) (pa_cons pe_int (pa_cons pe_int pa_nil))))) pa_nil)))) pa_nil))) (pe_slice sl_tupA (pv 1) (po_some (pe_op op_add (pv 2) pe_int)) po_none)))) pss_nil)
      (pss_cons (ps_if (pt_cmp (pc_eqI (pv 3) pe_int)) (pss_one (ps_ret (pe_op op_catA (pe_op op_catA (pe_slice sl_tupA (pv 1) po_none (po_some (pv 2))) (pe_tup (pa_cons (pe_un un_neg (pe_ix ix_tup (pv 1) (pv 2) (fun _ _ => rfl))) pa_nil))) (pe_slice sl_tupA (pv 1) (po_some (pe_op op_add (pv 2) pe_int)) po_none)))) pss_nil)
      (pss_cons (ps_if (pt_cmp (pc_eqI (pv 3) pe_int)) (pss_one (ps_ret (pe_tup (pa_cons (pe_ix ix_tup (pv 1) pe_int (fun _ _ => rfl)) (pa_cons (pe_ix ix_tup (pv 1) pe_int (fun _ _ => rfl)) (pa_cons (pe_ix ix_tup (pv 1) pe_int (fun _ _ => rfl)) pa_nil)))))) pss_nil)
      (pss_cons (ps_if (pt_cmp (pc_eqI (pv 3) pe_int)) (pss_cons (ps_set (i := 4) sc_L_near.nd rfl (Or.inr rfl) (pe_cal C_L_any (hr.mono (by decide)) (pa_cons (pv 0) (pa_cons (pe_lst (pa_cons (pe_op op_powW pe_int pe_int) (pa_cons (pe_op op_powW pe_int pe_int) (pa_cons (pe_op op_powW pe_int pe_int) pa_nil)))) pa_nil))))
      (pss_one (ps_ret (pe_callTy call_tuple_of (by rfl) T.m_tuple (by decide +kernel) (pa_cons (pe_lc rfl sc_L_near.nd (own := [("_law_one", 5)]) (pi_tup (pv 1)) (blkOk_by (N := ["_law_vial_here", "_law_value", "_law_at", "_law_way", "_law_great", "_law_one"]) (sc := defScope s_L_near) (by decide +kernel)) (fun _ _ _ _ _ => pg_name (i := 5) sc_L_near.nd rfl (Or.inl rfl)) (fun _ _ _ _ _ => pts_nil) (fun _ _ _ _ _ => (pe_op op_mulW (pv 5) (pv 4)))) pa_nil))))) pss_nil)
      (pss_cons (ps_if (pt_cmp (pc_eqI (pv 3) pe_int)) (pss_one (ps_ret (pe_op op_catA (pe_op op_catA (pe_slice sl_tupA (pv 1) po_none (po_some (pv 2))) (pe_tup (pa_cons (pe_cal C_L_any (hr.mono (by decide)) (pa_cons (pv 0) (pa_cons (pe_lst (pa_cons pe_non (pa_cons pe_str (pa_cons pe_bl (pa_cons (pe_tup (pa_cons pe_int pa_nil)) (pa_cons pe_int pa_nil)))))) pa_nil))) pa_nil))) (pe_slice sl_tupA (pv 1) (po_some (pe_op op_add (pv 2) pe_int)) po_none)))) pss_nil)
      (pss_cons (ps_if (pt_cmp (pc_eqI (pv 3) pe_int)) (pss_one (ps_ret (pe_cal C_L_any (hr.mono (by decide)) (pa_cons (pv 0) (pa_cons (pe_lst (pa_cons (pe_callTy call_list_of (by rfl) T.m_list (by decide +kernel) (pa_cons (pv 1) pa_nil)) (pa_cons (pe_slice sl_tupA (pv 1) po_none (po_some pe_int)) (pa_cons (pe_op op_catA (pv 1) (pe_tup (pa_cons pe_int pa_nil))) (pa_cons (pe_tup (pa_cons pe_int (pa_cons pe_int (pa_cons pe_int pa_nil)))) (pa_cons pe_non (pa_cons (pe_tup pa_nil) (pa_cons pe_int (pa_cons pe_dnewK (pa_cons pe_str pa_nil)))))))))) pa_nil))))) pss_nil)
      (pss_one (ps_ret (pv 1)))))))))), ?_⟩
    refine ⟨_, rfl, take_of hs (by omega) (by decide) (by decide +kernel) fun r H1 r0 r1 k1 s1 _ => ⟨_, rfl, take_of s1 (by omega) (by decide) (by decide +kernel) fun wy H2 w0 w1 k2 s2 _ => ⟨_, _, rfl, ?_⟩⟩⟩
    have k12 := k1.trans k2
    have ht2 : H2 t = some (.tup [.int x, .int y, .int z]) := k12 _ _ ht ntp
    obtain ⟨i, rfl⟩ : ∃ i : Nat, r = i := ⟨r.toNat, by omega⟩
    have il : i < 3 := by omega
    obtain ⟨u, hu, bu⟩ : ∃ u : Int, ([x, y, z] : List Int)[i]? = some u ∧ u.natAbs ≤ 5000 := by
      have c : i = 0 ∨ i = 1 ∨ i = 2 := by omega
      rcases c with rfl | rfl | rfl
      · exact ⟨x, rfl, bx⟩
      · exact ⟨y, rfl, by_⟩
      · exact ⟨z, rfl, bz⟩
    have hat : ∀ {G : Hp}, atI ([.int x, .int y, .int z] : List V) (i : Int) = some (V.int u) := fun {G} => atI_nat (by
      have : ([.int x, .int y, .int z] : List V)[i]? = (([x, y, z] : List Int).map V.int)[i]? := rfl
      rw [this, List.getElem?_map, hu]
      rfl)
    have old : ∀ {G : Hp} {m : V}, m ∈ ([.int x, .int y, .int z] : List V) → El G m ∧ ∀ n, m = .int n → n.natAbs < 2 ^ 300 := fun {G m} hm => by
      have c : m = .int x ∨ m = .int y ∨ m = .int z := by simpa using hm
      rcases c with rfl | rfl | rfl
      · exact ⟨.int _, fun n e => by cases e; exact small300 (by omega)⟩
      · exact ⟨.int _, fun n e => by cases e; exact small300 (by omega)⟩
      · exact ⟨.int _, fun n e => by cases e; exact small300 (by omega)⟩
    have mid : ∀ {G : Hp} {a : Addr} {m : V}, G a = some (.tup ((cutV [.int x, .int y, .int z] none (some (i : Int)) ++ [m]) ++ cutV [.int x, .int y, .int z] (some ((i : Int) + 1)) none)) → El G m → (∀ n, m = .int n → n.natAbs < 2 ^ 300) → Good G (.ref a) := fun {G a m} h e1 e2 => by
      rw [cut_take, show ((i : Int) + 1) = ((i + 1 : Nat) : Int) by omega, cut_drop] at h
      refine Good.tup h ?_ fun c hc => ?_
      · simp only [List.length_append, List.length_take, List.length_drop, List.length_cons, List.length_nil]
        omega
      · rcases List.mem_append.mp hc with hc | hc
        · rcases List.mem_append.mp hc with hc | hc
          · exact old (List.mem_of_mem_take hc)
          · have ec : c = m := by simpa using hc
            subst ec
            exact ⟨e1, e2⟩
        · exact old (List.mem_of_mem_drop hc)
    have len1 : (cutV [.int x, .int y, .int z] none (some (i : Int)) : List V).length + 1 ≤ sizeLine := by
      have := cutV_length ([.int x, .int y, .int z] : List V) none (some (i : Int))
      exact Nat.le_trans (Nat.add_le_add_right this 1) (by show 4 ≤ sizeLine; decide)
    have len2 : ∀ m : V, (cutV [.int x, .int y, .int z] none (some (i : Int)) ++ [m] : List V).length + (cutV [.int x, .int y, .int z] (some ((i : Int) + 1)) none : List V).length ≤ sizeLine := fun m => by
      have h1 := cutV_length ([.int x, .int y, .int z] : List V) none (some (i : Int))
      have h2 := cutV_length ([.int x, .int y, .int z] : List V) (some ((i : Int) + 1)) none
      rw [List.length_append]
      exact Nat.le_trans (Nat.add_le_add (Nat.add_le_add_right h1 1) h2) (by show 7 ≤ sizeLine; decide)
    refine ⟨_, rfl, _, _, rfl, rfl, _, rfl, ifd (fun h1 => ?_) (fun h1 => ?_)⟩
    · refine ⟨_, rfl, _, rfl, i, rfl, slA_of ht2 fun a1 H3 e3 g3 => ?_⟩
      have ht3 := e3 _ _ ht2
      refine ⟨_, rfl, _, rfl, t, _, i, .int u, rfl, rfl, SqT.of ht3, hat (G := H), _, rfl, 2, rfl, 1, rfl, (by show 4 ≤ sizeLine; decide), fun b hb => one_of_new (s2.same e3) (by omega) hb (by show 1 ≤ 4; decide) (by show 4 ≤ 1000000; decide) fun m H4 hm k4 s4 => ?_⟩
      obtain ⟨d, rfl, bd⟩ : ∃ d : Int, m = .int d ∧ d.natAbs ≤ 2 := by
        have c : m = .int (-2) ∨ m = .int (-1) ∨ m = .int 1 ∨ m = .int 2 := by simpa using hm
        rcases c with e | e | e | e <;> exact ⟨_, e, by decide⟩
      have na1 : a1 ≠ p := fun e => by
        obtain ⟨_, a, _⟩ := s2.same e3
        rw [e, a] at g3
        cases g3
      refine ⟨_, _, rfl, rfl, (by show 1 ≤ sizeLine; decide), fun b5 hb5 => ?_⟩
      have e5 := same_upd (o := .tup [.int (u + d)]) hb5
      refine catA_of (e5 _ _ (k4 _ _ g3 na1)) upd_same len1 fun a6 H6 e6 g6 => ?_
      refine ⟨_, rfl, _, rfl, _, _, rfl, rfl, _, rfl, ?_⟩
      unfold tNoPart
      refine slA_of (e6 _ _ (e5 _ _ (k4 _ _ ht3 ntp))) fun a7 H7 e7 g7 => ?_
      refine catA_of (e7 _ _ g6) g7 (len2 _) fun a8 H8 e8 g8 => ?_
      have e58 := ((e5.trans e6).trans e7).trans e8
      exact q _ _ (mid g8 (.int _) fun n e => by cases e; exact small300 (by omega)) (((k12.trans (Keep.same e3)).trans k4).trans (Keep.same e58)) ((s4.same e58).mono (by omega))
    · refine ⟨_, rfl, _, _, rfl, rfl, _, rfl, ifd (fun h2 => ?_) (fun h2 => ?_)⟩
      · refine ⟨_, rfl, _, rfl, i, rfl, slA_of ht2 fun a1 H3 e3 g3 => ?_⟩
        have ht3 := e3 _ _ ht2
        refine ⟨_, rfl, _, rfl, t, _, i, .int u, rfl, rfl, SqT.of ht3, hat (G := H), u, rfl, (by show 1 ≤ sizeLine; decide), fun b5 hb5 => ?_⟩
        have e5 := same_upd (o := .tup [.int (-u)]) hb5
        refine catA_of (e5 _ _ g3) upd_same len1 fun a6 H6 e6 g6 => ?_
        refine ⟨_, rfl, _, rfl, _, _, rfl, rfl, _, rfl, ?_⟩
        unfold tNoPart
        refine slA_of (e6 _ _ (e5 _ _ ht3)) fun a7 H7 e7 g7 => ?_
        refine catA_of (e7 _ _ g6) g7 (len2 _) fun a8 H8 e8 g8 => ?_
        have e58 := (((e3.trans e5).trans e6).trans e7).trans e8
        exact q _ _ (mid g8 (.int _) fun n e => by cases e; exact small300 (by omega)) (k12.trans (Keep.same e58)) ((s2.same e58).mono (by omega))
      · refine ⟨_, rfl, _, _, rfl, rfl, _, rfl, ifd (fun h3 => ?_) (fun h3 => ?_)⟩
        · refine ⟨_, rfl, t, _, 1, .int y, rfl, rfl, SqT.of ht2, rfl, _, rfl, t, _, 0, .int x, rfl, rfl, SqT.of ht2, rfl, _, rfl, t, _, 2, .int z, rfl, rfl, SqT.of ht2, rfl, (by show 3 ≤ sizeLine; decide), fun b hb => ?_⟩
          refine q _ _ (Good.tup upd_same (by show 3 ≤ 10; decide) fun m hm => old ?_) (k12.trans (Keep.new hb)) ((s2.same (same_upd hb)).mono (by omega))
          have c : m = .int y ∨ m = .int x ∨ m = .int z := by simpa using hm
          rcases c with rfl | rfl | rfl <;> simp
        · refine ⟨_, rfl, _, _, rfl, rfl, _, rfl, ifd (fun h4 => ?_) (fun h4 => ?_)⟩
          · refine ⟨_, rfl, 10, 7, rfl, rfl, ⟨by decide, by decide +kernel⟩, 10, 31, rfl, rfl, ⟨by decide, by decide +kernel⟩, 10, 64, rfl, rfl, ⟨by decide, by decide +kernel⟩, (by show 3 ≤ sizeLine; decide), fun b hb => one_of_new s2 (by omega) hb (by show 1 ≤ 3; decide) (by show 3 ≤ 1000000; decide) fun m H3 hm k3 s3 => ?_⟩
            obtain ⟨g, rfl, g0, bg⟩ : ∃ g : Int, m = .int g ∧ 0 ≤ g ∧ g.natAbs < 2 ^ 230 := by
              have c : m = .int (10 ^ (7 : Int).toNat) ∨ m = .int (10 ^ (31 : Int).toNat) ∨ m = .int (10 ^ (64 : Int).toNat) := by simpa using hm
              rcases c with e | e | e
              · exact ⟨_, e, by decide +kernel, by decide +kernel⟩
              · exact ⟨_, e, by decide +kernel, by decide +kernel⟩
              · exact ⟨_, e, by decide +kernel, by decide +kernel⟩
            have ht3 := k3 _ _ ht2 ntp
            refine ⟨_, rfl, t, rfl, ⟨_, SqT.of ht3⟩, fun D hD => lc_tup (K := K) (a := t) (xs := ([x, y, z] : List Int).map V.int) (fun j H' => Same H3 H' ∧ H' D = some (.lst ((([x, y, z] : List Int).take j).map fun n => V.int (n * g)))) ⟨same_upd hD, upd_same⟩ (fun j H' _ hp => SqT.of (hp.1 _ _ ht3)) (fun j v H' hv hp => ?_) (fun H' hp => ?_)⟩
            · obtain ⟨e1, hd⟩ := hp
              obtain ⟨m, hm, rfl⟩ := int_of_map' hv
              have bm : m.natAbs < 2 ^ 13 := by
                have hm2 := List.mem_of_getElem? hm
                have c : m = x ∨ m = y ∨ m = z := by simpa using hm2
                rcases c with rfl | rfl | rfl <;> omega
              refine ⟨rfl, _, rfl, _, rfl, _, _, rfl, rfl, wmul bm bg (by decide) (by decide) (by decide), _, hd, ?_, ?_, ?_⟩
              · rw [List.length_map]
                have := List.length_take_le' j ([x, y, z] : List Int)
                exact Nat.lt_of_le_of_lt this (by show 3 < sizeLine; decide)
              · intro b o eb
                rw [upd_ne (ne_of_none eb hD)]
                exact e1 _ _ eb
              · rw [upd_same, List.take_add_one, hm, List.map_append]; rfl
            · obtain ⟨e1, hd⟩ := hp
              refine ⟨D, _, rfl, .inl ⟨SqL.of hd, fun b hb => ?_⟩⟩
              have e2 := e1.trans (same_upd (o := .tup ((([x, y, z] : List Int).take (([x, y, z] : List Int).map V.int).length).map fun n => V.int (n * g))) hb)
              refine q _ _ (Good.tup upd_same (by show 3 ≤ 10; decide) fun m hm => ?_) ((k12.trans k3).trans (Keep.same e2)) ((s3.same e2).mono (by omega))
              have c : m = .int (x * g) ∨ m = .int (y * g) ∨ m = .int (z * g) := by simpa using hm
              have l2 : ∀ {i : Int}, i.natAbs ≤ 5000 → (i * g).natAbs < 2 ^ 300 := fun {i} h => Nat.lt_of_lt_of_le (wide_lt (a := 13) (b := 230) (by omega) bg) (Nat.pow_le_pow_right (by decide) (by decide))
              rcases c with rfl | rfl | rfl
              · exact ⟨.int _, fun n e => by cases e; exact l2 bx⟩
              · exact ⟨.int _, fun n e => by cases e; exact l2 by_⟩
              · exact ⟨.int _, fun n e => by cases e; exact l2 bz⟩
          · refine ⟨_, rfl, _, _, rfl, rfl, _, rfl, ifd (fun h5 => ?_) (fun h5 => ?_)⟩
            · refine ⟨_, rfl, _, rfl, i, rfl, slA_of ht2 fun a1 H3 e3 g3 => ?_⟩
              have ht3 := e3 _ _ ht2
              refine ⟨_, rfl, (by show 1 ≤ sizeLine; decide), fun o ho => ⟨(by show 5 ≤ sizeLine; decide), fun b hb => one_of_new ((s2.same e3).same (same_upd ho)) (by omega) hb (by show 1 ≤ 5; decide) (by show 5 ≤ 1000000; decide) fun m H4 hm k4 s4 => ⟨(by show 1 ≤ sizeLine; decide), fun b5 hb5 => ?_⟩⟩⟩
              have no : o ≠ p := fun e => by
                obtain ⟨_, a, _⟩ := s2.same e3
                rw [e, a] at ho
                cases ho
              have na1 : a1 ≠ p := fun e => by
                obtain ⟨_, a, _⟩ := s2.same e3
                rw [e, a] at g3
                cases g3
              have ho4 := k4 _ _ upd_same no
              have k34 := (Keep.new (p := p) (o := .tup [.int 1]) ho).trans k4
              have e5 := same_upd (o := .tup [m]) hb5
              have em : El H4 m ∧ ∀ n, m = .int n → n.natAbs < 2 ^ 300 := by
                have c : m = .non ∨ m = .str "1" ∨ m = .bl true ∨ m = .ref o ∨ m = .int 0 := by simpa using hm
                rcases c with rfl | rfl | rfl | rfl | rfl
                · exact ⟨.non, fun n e => by cases e⟩
                · exact ⟨.one, fun n e => by cases e⟩
                · exact ⟨.bl _, fun n e => by cases e⟩
                · exact ⟨.tup ho4, fun n e => by cases e⟩
                · exact ⟨.int _, fun n e => by cases e; decide +kernel⟩
              refine catA_of (e5 _ _ (k34 _ _ g3 na1)) upd_same len1 fun a6 H6 e6 g6 => ?_
              refine ⟨_, rfl, _, rfl, _, _, rfl, rfl, _, rfl, ?_⟩
              unfold tNoPart
              refine slA_of (e6 _ _ (e5 _ _ (k34 _ _ ht3 ntp))) fun a7 H7 e7 g7 => ?_
              refine catA_of (e7 _ _ g6) g7 (len2 _) fun a8 H8 e8 g8 => ?_
              have e58 := ((e5.trans e6).trans e7).trans e8
              exact q _ _ (mid g8 (em.1.same e58) em.2) (((k12.trans (Keep.same e3)).trans k34).trans (Keep.same e58)) ((s4.same e58).mono (by omega))
            · refine ⟨_, rfl, _, _, rfl, rfl, _, rfl, ifd (fun h6 => ?_) (fun h6 => ?_)⟩
              · refine ⟨_, rfl, _, rfl, t, _, rfl, .inr (SqT.of ht2), fun l1 hl1 => ?_⟩
                have e1 := same_upd (o := .lst [.int x, .int y, .int z]) hl1
                refine ⟨_, rfl, 2, rfl, slA_of (e1 _ _ ht2) fun a2 H3 e2 g2 => ?_⟩
                have e12 := e1.trans e2
                refine ⟨_, rfl, (by show 1 ≤ sizeLine; decide), fun a3 h3' => ?_⟩
                have e3 := same_upd (o := .tup [.int 0]) h3'
                refine catA_of (e3 _ _ (e12 _ _ ht2)) upd_same (by show 4 ≤ sizeLine; decide) fun a4 H4 e4 g4 => ?_
                refine ⟨(by show 3 ≤ sizeLine; decide), fun a5 h5' => ⟨(by show 0 ≤ sizeLine; decide), fun a6 h6' => fun a7 h7' => ⟨(by show 9 ≤ sizeLine; decide), fun b hb => ?_⟩⟩⟩
                have e5 := same_upd (o := .tup [.int 0, .int 0, .int 0]) h5'
                have e6 := same_upd (o := .tup []) h6'
                have e7 := same_upd (o := .dK []) h7'
                have e17 := ((((e12.trans e3).trans e4).trans e5).trans e6).trans e7
                refine one_of_new (s2.same e17) (by omega) hb (by show 1 ≤ 9; decide) (by show 9 ≤ 1000000; decide) fun m H8 hm k8 s8 => ?_
                have np : ∀ {a : Addr} {G : Hp} {o : HO}, Same G (upd (upd (upd H4 a5 (.tup [.int 0, .int 0, .int 0])) a6 (.tup [])) a7 (.dK [])) → G a = some o → (∀ xs, o ≠ .lst xs) → H8 a = some o := fun {a G o} e g ne => k8 _ _ (e _ _ g) fun z => by
                  obtain ⟨_, h, _⟩ := s2.same e17
                  have g2 := e _ _ g
                  rw [z, h] at g2
                  exact ne _ (Option.some.inj g2).symm
                have fin : Good H8 m → Q m H8 := fun g => q m H8 g ((k12.trans (Keep.same e17)).trans k8) (s8.mono (by omega))
                have c : m = .ref l1 ∨ m = .ref a2 ∨ m = .ref a4 ∨ m = .ref a5 ∨ m = .non ∨ m = .ref a6 ∨ m = .int 0 ∨ m = .ref a7 ∨ m = .str "point" := by simpa using hm
                rcases c with rfl | rfl | rfl | rfl | rfl | rfl | rfl | rfl | rfl
                · refine fin (Good.no (.inr (.inr (.inr ⟨l1, rfl, .inl ⟨_, k8 _ _ (((((e2.trans e3).trans e4).trans e5).trans e6).trans e7 _ _ upd_same) ?_⟩⟩))))
                  exact (Sk.ne s2 hl1).symm
                · refine fin (Good.tup (np ((((e3.trans e4).trans e5).trans e6).trans e7) g2 fun xs e => by cases e) ?_ fun c hc => ?_)
                  · exact Nat.le_trans (cutV_length _ _ _) (by show 3 ≤ 10; decide)
                  · rw [show (2 : Int) = ((2 : Nat) : Int) from rfl, cut_take] at hc
                    exact old (List.mem_of_mem_take hc)
                · refine fin (Good.tup (np ((e5.trans e6).trans e7) g4 fun xs e => by cases e) (by show 4 ≤ 10; decide) fun c hc => ?_)
                  rcases List.mem_append.mp hc with hc | hc
                  · exact old hc
                  · have ec : c = .int 0 := by simpa using hc
                    subst ec
                    exact ⟨.int _, fun n e => by cases e; decide +kernel⟩
                · refine fin (Good.tup (np (e6.trans e7) upd_same fun xs e => by cases e) (by show 3 ≤ 10; decide) fun c hc => ?_)
                  have ec : c = .int 0 := by simpa using hc
                  subst ec
                  exact ⟨.int _, fun n e => by cases e; decide +kernel⟩
                · exact fin (Good.no (.inl rfl))
                · exact fin (Good.tup (np e7 upd_same fun xs e => by cases e) (by show 0 ≤ 10; decide) fun c hc => by cases hc)
                · exact fin (Good.no (.inr (.inl ⟨0, rfl⟩)))
                · exact fin (Good.no (.inr (.inr (.inr ⟨a7, rfl, .inr ⟨_, np (Same.refl _) upd_same fun xs e => by cases e⟩⟩))))
                · exact fin (Good.no (.inr (.inr (.inl ⟨_, rfl⟩))))
              · exact ⟨_, rfl, q _ _ (Good.tup ht2 (by show 3 ≤ 10; decide) fun c hc => old hc) k12 (s2.mono (by omega))⟩
end
end Sf

namespace Sf
open PySem PySem.Spec PyProof.Rows L2
section
variable {P : Program} {w : World} {K : PySem.W.Frag} {mg : Str → Option Value} {base : Heap} {f : Addr} {fd : FuncData}
structure OwnJP (vs : List V) (H : Hp) (Q : VK) : Prop where
  ex : ∃ (a b : Int) (v : V), vs = [.int a, .int b, v] ∧ a.natAbs < 2 ^ 60 ∧ b.natAbs < 2 ^ 60 ∧ Good H v ∧ ∀ (r : Bool) (H' : Hp), Same H H' → (r = true ↔ ∃ x y z, Tri H v x y z ∧ Sol a b 1 x y z) → Q (.bl r) H'
def spOwnJ : Sp := fun vs H Q _ => OwnJP vs H Q
theorem filt_nil {xs : List V} : xs.filter (fun v => !isI v) = [] ↔ xs.all isI = true := by
  rw [List.filter_eq_nil_iff, List.all_eq_true]
  constructor
  · intro h x hx
    have := h x hx
    simpa using this
  · intro h x hx
    rw [h x hx]
    decide
theorem ok_is_own (F : FnD K "_law_is_own" "_law_is_own" s_L_is_own f fd) (T : Glob mg) : FnOk P w K mg base CX0 1 f fd ["_law_a", "_law_b", "_law_value"] spOwnJ := by
  refine F.ok sc_L_is_own (fun vs H Q E h => ?_) (fun cdv A outer s H vs Q E hr h => ?_)
  · obtain ⟨a, b, v, rfl, _⟩ := h.ex; rfl
  · obtain ⟨a, b, v, rfl, ba, bb, ⟨hv, hbd⟩, q⟩ := h.ex
    refine ⟨_, PSs.nox (pss_cons (ps_if (PW.pt (pw_or (pt_not (pt_val (pe_callB call_isi (by rfl) T.m_isinstance (by decide +kernel) (pa_cons (pv 2) (pa_cons (pe_bltn (v := .ty "tuple") (u := .type "tuple") (by rfl) T.m_tuple (by decide +kernel) rfl) pa_nil))))) (pw_or1 (pt_cmp (pc_neI (pe_callB call_len_seq (by rfl) T.m_len (by decide +kernel) (pa_cons (pv 2) pa_nil)) pe_int))))) (pss_one (ps_ret pe_bl)) pss_nil)
      (pss_cons (ps_if (pt_cmpR (op_neD hr.units) (pe_lc rfl sc_L_is_own.nd (own := [("_law_one", 3)]) (pi_tup (pv 2)) (blkOk_by (N := ["_law_a", "_law_b", "_law_value", "_law_one", "_law_x", "_law_y", "_law_z"]) (sc := defScope s_L_is_own) (by decide +kernel)) (fun _ _ _ _ _ => pg_name (i := 3) sc_L_is_own.nd rfl (Or.inl rfl)) (fun _ _ _ _ _ => pts_one (PW.pt (pw_or (pt_not (pt_val (pe_callB (r := rIsi K) call_isi (by rfl) T.m_isinstance (by decide +kernel) (pa_cons (pv 3) (pa_cons (pe_bltn (v := .ty "int") (u := .type "int") (by rfl) T.m_int (by decide +kernel) rfl) pa_nil))))) (pw_or1 (pt_val (pe_callB (r := rIsi K) call_isi (by rfl) T.m_isinstance (by decide +kernel) (pa_cons (pv 3) (pa_cons (pe_bltn (v := .ty "bool") (u := .type "bool") (by rfl) T.m_bool (by decide +kernel) rfl) pa_nil)))))))) (fun _ _ _ _ _ => (pv 3))) (pe_lst pa_nil) (nomark _)) (pss_one (ps_ret pe_bl)) pss_nil)
      (pss_cons (ps_asg (pv 2) (pg_tup (by rfl) (pgs_cons (pg_name (i := 4) sc_L_is_own.nd rfl (Or.inl rfl)) (pgs_cons (pg_name (i := 5) sc_L_is_own.nd rfl (Or.inl rfl)) (pgs_cons (pg_name (i := 6) sc_L_is_own.nd rfl (Or.inl rfl)) pgs_nil)))))
      (pss_one (ps_ret (pe_and (pe_cmpR (op_neD hr.units) (pv 2) (pe_tup (pa_cons pe_int (pa_cons pe_int (pa_cons pe_int pa_nil)))) (nomark _)) (pe_one (pe_cmp (pc_eqI (pe_op op_add (pe_op op_mulW (pe_op op_mulW (pv 0) (pv 4)) (pv 4)) (pe_op op_mulW (pe_op op_mulW (pv 1) (pv 5)) (pv 5))) (pe_op op_mulW (pv 6) (pv 6))) rfl)))))))), ?_⟩
    have no : ∀ {H' : Hp}, Same H H' → (∀ x y z, ¬ Tri H v x y z) → Q (.bl false) H' := fun {H'} e n => q false H' e ⟨fun z => Bool.noConfusion z, fun ⟨x, y, z, g, _⟩ => (n x y z g).elim⟩
    rcases hv with ⟨xs, hv⟩ | hv
    · obtain ⟨e, rfl, he, hl, hx⟩ := id hv
      refine ⟨_, rfl, _, .ty "tuple", _, _, true, rfl, .ty "tuple", .base (.tup he), (by show kitB "tuple" "tuple" = some true; decide +kernel), _, rfl, ?_⟩
      refine ⟨_, rfl, e, _, rfl, .inr (SqT.of he), _, _, rfl, rfl, _, rfl, ifn (fun h3 => ?_) (fun h3 => ?_)⟩
      · refine no (Same.refl _) fun x y z g => ?_
        rw [hv.tri.mp g] at h3
        exact h3 rfl
      · have l3 : xs.length = 3 := by omega
        refine ⟨_, rfl, e, rfl, ⟨_, SqT.of he⟩, fun D hD => lc_tup (K := K) (a := e) (xs := xs) (fun i H' => Same H H' ∧ H' D = some (.lst ((xs.take i).filter fun v => !isI v))) ⟨same_upd hD, upd_same⟩ (fun i H' _ hp => SqT.of (hp.1 _ _ he)) (fun i v H' hv' hp => ?_) (fun H' hp => ?_)⟩
        · obtain ⟨e1, hd⟩ := hp
          have fl : ∀ l : List V, (l.filter fun v => !isI v).length ≤ l.length := fun l => List.length_filter_le _ _
          have len : ((xs.take i).filter fun v => !isI v).length < sizeLine := Nat.lt_of_le_of_lt (Nat.le_trans (fl _) (Nat.le_trans (List.length_take_le' i xs) hl)) (by decide)
          have same : ∀ {o : HO}, Same H (upd H' D o) := fun {o} b u eb => by
            rw [upd_ne (ne_of_none eb hD)]
            exact e1 _ _ eb
          have nxt : isI v = false → (xs.take (i + 1)).filter (fun v => !isI v) = ((xs.take i).filter fun v => !isI v) ++ [v] := fun hI => by
            rw [List.take_add_one, hv', List.filter_append]
            show _ ++ List.filter _ [v] = _
            rw [List.filter_cons, hI]
            rfl
          have stay : isI v = true → (xs.take (i + 1)).filter (fun v => !isI v) = (xs.take i).filter fun v => !isI v := fun hI => by
            rw [List.take_add_one, hv', List.filter_append]
            show _ ++ List.filter _ [v] = _
            rw [List.filter_cons, hI]
            exact List.append_nil _
          obtain ⟨t, bi, bb', ty, g1, g2, eI⟩ := ((hx v (List.mem_of_getElem? hv')).same e1).ty (K := K)
          refine ⟨rfl, _, rfl, _, .ty "int", _, _, bi, rfl, .ty "int", ty, kit_ty g1, _, rfl, ?_⟩
          cases bi with
          | false =>
            exact ⟨_, rfl, _, hd, len, same, by rw [upd_same, nxt eI]⟩
          | true =>
            refine ⟨_, rfl, _, .ty "bool", _, _, bb', rfl, .ty "bool", ty, kit_ty g2, _, rfl, ?_⟩
            cases bb' with
            | true => exact ⟨_, rfl, _, hd, len, same, by rw [upd_same, nxt eI]⟩
            | false => exact ⟨e1, by rw [stay eI]; exact hd⟩
        · obtain ⟨e1, hd⟩ := hp
          rw [List.take_length] at hd
          refine ⟨(by show 0 ≤ sizeLine; decide), fun b0 hb0 => ?_⟩
          have e2 := e1.trans (same_upd (o := .lst []) hb0)
          have hd2 := same_upd (o := .lst []) hb0 _ _ hd
          obtain ⟨ds, d1, d2, d3, d4⟩ := els_data (K := K) (H := upd H' b0 (.lst [])) (xs.filter fun v => !isI v) fun x h => ((hx x (List.mem_filter.mp h).1).same e2)
          refine ⟨.list ds, .list [], .lst (SqL.of hd2) d1, .lst (SqL.of upd_same) .nil, ?_, rfl, _, rfl, ifnb (fun h4 => ?_) (fun h4 => ?_)⟩
          · show (PyData.canLayAll0 ds && decide (PyData.depthAll ds + 1 ≤ 64)) = true
            rw [d2, decide_eq_true (by omega : PyData.depthAll ds + 1 ≤ 64)]
            rfl
          · rw [eqv_nil] at h4
            refine no e2 fun x y z g => ?_
            have h5 : xs.all isI = true := (three_ints l3).mpr ⟨x, y, z, hv.tri.mp g⟩
            have h6 := congrArg List.length (filt_nil.mpr h5)
            have h7 := of_decide_eq_false h4
            rw [d4] at h7
            exact h7 h6
          · rw [eqv_nil] at h4
            have h7 := of_decide_eq_true h4
            rw [d4] at h7
            obtain ⟨x, y, z, ex⟩ := (three_ints l3).mp (filt_nil.mp (List.eq_nil_of_length_eq_zero h7))
            subst ex
            have g : Tri H (.ref e) x y z := ⟨e, rfl, he⟩
            obtain ⟨b1, b2, b3⟩ := hbd _ _ _ g
            have he2 := e2 _ _ he
            have l2 : ∀ {i j : Int} {m n : Nat}, i.natAbs < 2 ^ m → j.natAbs < 2 ^ n → (i * j).natAbs < 2 ^ (m + n) := fun h1 h2 => wide_lt h1 h2
            refine ⟨_, rfl, e, _, rfl, .inl (.inl he2), rfl, _, _, rfl, _, _, rfl, _, _, rfl, rfl, ?_⟩
            refine ⟨_, rfl, (by show 3 ≤ sizeLine; decide), fun c0 hc0 => ?_⟩
            have e3 := e2.trans (same_upd (o := .tup [.int 0, .int 0, .int 0]) hc0)
            refine ⟨.tuple ([x, y, z].map PyData.int), .tuple ([0, 0, 0].map PyData.int), dp_tup (ns := [x, y, z]) (SqT.of (e3 _ _ he)), dp_tup (ns := [0, 0, 0]) (SqT.of upd_same), shp_tup _, shp_tup _, ?_⟩
            rw [eqv_tups']
            refine ⟨_, rfl, ifn (fun h5 => ?_) (fun h5 => ?_)⟩
            · have hn : ¬ (x = 0 ∧ y = 0 ∧ z = 0) := fun z0 => h5 (by rw [z0.1, z0.2.1, z0.2.2])
              refine ⟨_, rfl, _, rfl, _, _, rfl, rfl, wmul ba b1 (by decide) (by decide) (by decide), _, rfl, _, _, rfl, rfl, wmul (l2 ba b1) b1 (by decide) (by decide) (by decide), _, rfl, _, rfl, _, _, rfl, rfl, wmul bb b2 (by decide) (by decide) (by decide), _, rfl, _, _, rfl, rfl, wmul (l2 bb b2) b2 (by decide) (by decide) (by decide), _, _, rfl, rfl, ?_⟩
              refine ⟨_, rfl, _, rfl, _, _, rfl, rfl, wmul b3 b3 (by decide) (by decide) (by decide), _, _, rfl, rfl, ?_⟩
              refine q _ _ e3 ?_
              rw [decide_eq_true_iff]
              refine ⟨fun h => ⟨x, y, z, g, hn, by rw [Int.one_mul]; exact h⟩, fun ⟨x', y', z', g', _, h⟩ => ?_⟩
              obtain ⟨rfl, rfl, rfl⟩ := g.uni g'
              rw [Int.one_mul] at h
              exact h
            · refine q false _ e3 ⟨fun z => Bool.noConfusion z, fun ⟨x', y', z', g', h0, _⟩ => ?_⟩
              obtain ⟨rfl, rfl, rfl⟩ := g.uni g'
              injection h5 with h6 h7
              injection h7 with h7 h8
              injection h8 with h8 h9
              exact (h0 ⟨h6, h7, h8⟩).elim
    · obtain ⟨t, h1, h2⟩ := hv.kit (K := K)
      refine ⟨_, rfl, _, .ty "tuple", _, _, false, rfl, .ty "tuple", h1, h2, _, rfl, ?_⟩
      exact no (Same.refl _) fun x y z g => hv.noTri g
end
end Sf

namespace Sf
open PySem PySem.Spec PyProof.Rows L2
/-! a class called: what stands then -/
theorem same_new {H : Hp} {x dx C : Addr} (hx : H x = none) (hd : H dx = none) (nd : dx ≠ x) : Same H (upd (upd H dx (.own x)) x (.ins C dx [])) := (same_upd hd).trans (same_upd (by rw [upd_ne nd.symm]; exact hx))
theorem same_keep {x : Addr} {H H1 H2 : Hp} (hx : H x = none) (s : Same H H1) (k : Keep x H1 H2) : Same H H2 := fun d o e => k _ _ (s _ _ e) (ne_of_none e hx)
theorem new_alg {CA : Addr} {H : Hp} {a b : Int} {R : VK} {x dx : Addr} (a0 : a ≠ 0) (b0 : b ≠ 0) (a1 : a.natAbs ≤ 1000000000) (b1 : b.natAbs ≤ 1000000000) (hx : H x = none) (hd : H dx = none) (nd : dx ≠ x) (q : ∀ (H' : Hp), Same H H' → AlgAt CA H' x a b → R .non H') :
    AlgInitP CA [.ref x, .int a, .int b] (upd (upd H dx (.own x)) x (.ins CA dx [])) R :=
  ⟨x, dx, a, b, rfl, a0, b0, a1, b1, upd_same, fun H' k hA => q H' (same_keep hx (same_new hx hd nd) k) hA⟩
theorem new_rat {CR : Addr} {H : Hp} {t b : Int} {R : VK} {x dx : Addr} (b0 : b ≠ 0) (t1 : t.natAbs < 10 ^ 60) (b1 : b.natAbs < 10 ^ 60) (hx : H x = none) (hd : H dx = none) (nd : dx ≠ x) (q : ∀ (t' b' : Int) (H' : Hp), LowT t b t' b' → Same H H' → RatioAt CR H' x t' b' → R .non H') :
    RatInitP CR [.ref x, .int t, .int b] (upd (upd H dx (.own x)) x (.ins CR dx [])) R :=
  ⟨x, dx, t, b, rfl, b0, t1, b1, upd_same, fun t' b' H' l k hR => q t' b' H' l (same_keep hx (same_new hx hd nd) k) hR⟩
theorem new_four {CF CR CA : Addr} {H : Hp} {al e x dx : Addr} {a b : Int} {p : Q5} {R : VK} (hal : AlgAt CA H al a b) (he : H e = some (.tup (ents p))) (d0 : p.d ≠ 0) (hp : Pass60 p) (bp : Bd 3000 p) (hlow : ∀ r, Low5 p r → Bd 3000 r)
    (hx : H x = none) (hd : H dx = none) (nd : dx ≠ x) (q : ∀ (r : Q5) (H' : Hp), Low5 p r → Same H H' → FourAt CF CR H' x al a b r → R .non H') :
    FourInitP CF CR CA [.ref x, .ref al, .ref e, .int p.d] (upd (upd H dx (.own x)) x (.ins CF dx [])) R := by
  have s := same_new (C := CF) hx hd nd
  refine ⟨x, dx, al, e, a, b, p, rfl, hal.same s, fun z => ?_, s _ _ he, d0, hp, bp, upd_same, hlow, fun r H' l k hF => q r H' l (same_keep hx s k) hF⟩
  obtain ⟨_, _, _, g, _⟩ := hal.ex
  rw [z, hx] at g
  cases g
/-- a ratio has its lowest terms once -/
theorem low_one_r {t : Int} {t' b' : Int} (h : LowT t 1 t' b') : t' = t ∧ b' = 1 := by
  obtain ⟨h0, h1, h2⟩ := h
  have e : t' = t * b' := by rw [h1, Int.mul_one]
  have d : b'.natAbs ∣ t'.natAbs := Int.natAbs_dvd_natAbs.mpr ⟨t, by rw [e, Int.mul_comm]⟩
  have g : t'.natAbs.gcd b'.natAbs = b'.natAbs := Nat.gcd_eq_right d
  have b1 : b' = 1 := by omega
  subst b1
  exact ⟨by omega, rfl⟩
theorem low_one_q {w x y z : Int} {r : Q5} (h : Low5 ⟨w, x, y, z, 1⟩ r) : r = ⟨w, x, y, z, 1⟩ := by
  obtain ⟨h0, h1, h2, h3, h4, h5⟩ := h
  obtain ⟨w', x', y', z', d⟩ := r
  dsimp only at *
  have dv : ∀ {s t : Int}, s * d = t * 1 → d.natAbs ∣ t.natAbs := fun {s t} e => Int.natAbs_dvd_natAbs.mpr ⟨s, by rw [Int.mul_comm, e, Int.mul_one]⟩
  have g : d.natAbs ∣ gcd5 w' x' y' z' d := Nat.dvd_gcd (Nat.dvd_gcd (Nat.dvd_gcd (Nat.dvd_gcd (dv h1) (dv h2)) (dv h3)) (dv h4)) (Nat.dvd_refl _)
  rw [h5] at g
  have d1 : d = 1 := by
    have := Nat.dvd_one.mp g
    omega
  subst d1
  simp only [Int.mul_one] at h1 h2 h3 h4
  subst h1 h2 h3 h4
  rfl
end Sf

namespace Sf
open PySem PySem.Spec PyProof.Rows L2
theorem Tri.back {H H' : Hp} {v : V} {x y z : Int} (h : AnyV H v) (s : Same H H') (g : Tri H' v x y z) : Tri H v x y z := by
  rcases h with ⟨xs, h⟩ | h
  · exact h.tri.mpr ((h.same s).tri.mp g)
  · exact ((h.same s).noTri g).elim
theorem Tri.keep {p : Addr} {n m : Nat} {H H' : Hp} {v : V} {x y z : Int} (h : Tri H v x y z) (s : Sk p n H) (k : Keep p H H') : Tri H' v x y z := by
  obtain ⟨a, e, g⟩ := h
  refine ⟨a, e, k _ _ g fun z => ?_⟩
  obtain ⟨_, u, _⟩ := s
  rw [z, u] at g
  cases g
theorem abs_def (i : Int) : (if i < 0 then -i else i) = (i.natAbs : Int) := by split <;> omega
section
variable {P : Program} {w : World} {K : PySem.W.Frag} {mg : Str → Option Value} {base : Heap} {f : Addr} {fd : FuncData} {CR CA CF : Addr}
structure RightP (vs : List V) (H : Hp) (Q : VK) : Prop where
  ex : ∃ (p : Addr) (n : Nat), vs = [.ref p] ∧ Sk p n H ∧ n + 60 ≤ 1000000 ∧ ∀ (H' : Hp), Keep p H H' → Sk p (n + 60) H' → Q (.bl true) H'
def spRight : Sp := fun vs H Q _ => RightP vs H Q
set_option maxHeartbeats 16000000 in
theorem ok_right (F : FnD K "_law_right" "_law_right" s_L_right f fd) (T : Glob mg) (R : FourK K CF) (C_L_world : Cal P w K mg base 4 "_law_world" ["_law_vial_here"] spWorld) (C_L_near : Cal P w K mg base 3 "_law_near" ["_law_vial_here", "_law_value"] spNear) (C_L_is_own : Cal P w K mg base 1 "_law_is_own" ["_law_a", "_law_b", "_law_value"] spOwnJ)
    (C_P_is_point : Cal P w K mg base 4 "is_point" ["a", "b", "value"] spPoint) (N_Algebra_2 : CalC P w K mg base 6 "Algebra" CA ["self", "a", "b"] [] (spAlgInit CA)) (N_Four_2 : CalC P w K mg base 7 "Four" CF ["self", "algebra", "entries", "bottom"] [.int 1] (spFourInit CF CR CA)) (N_Ratio_1 : CalC P w K mg base 3 "Ratio" CR ["self", "top", "bottom"] [.int 1] (spRatInit CR))
    (O_Ratio : OwnK K CR) (M_Ratio_eq : CalM P w K mg base 2 "__eq__" CR ["self", "value"] (spRatEq CR)) (M_Four_bool : CalM P w K mg base 1 "__bool__" CF ["self"] (spFourBool CF CR)) : FnOk P w K mg base CX0 9 f fd ["_law_vial_here"] spRight := by
  refine F.ok sc_L_right (fun vs H Q E h => ?_) (fun cdv A outer s H vs Q E hr h => ?_)
  · obtain ⟨p, n, rfl, _⟩ := h.ex; rfl
  · obtain ⟨p, n, rfl, hs, hn, q⟩ := h.ex
    refine ⟨_, PSs.nox (pss_cons (ps_asg (pe_cal C_L_world (hr.mono (by decide)) (pa_cons (pv 0) pa_nil)) (pg_tup (by rfl) (pgs_cons (pg_name (i := 1) sc_L_right.nd rfl (Or.inl rfl)) (pgs_cons (pg_name (i := 2) sc_L_right.nd rfl (Or.inl rfl)) (pgs_cons (pg_name (i := 3) sc_L_right.nd rfl (Or.inl rfl)) pgs_nil)))))
      (pss_cons (ps_if (pt_not (pt_val (pe_cal C_L_is_own (hr.mono (by decide)) (pa_cons (pv 1) (pa_cons (pv 2) (pa_cons (pv 3) pa_nil)))))) (pss_one (ps_ret pe_bl)) pss_nil)
      (pss_cons (ps_for PassesOwn.never rfl (pi_range1 (by rfl) T.m_range (pa_cons pe_int pa_nil)) (pg_name (i := 4) sc_L_right.nd rfl (Or.inl rfl)) (pss_cons (ps_set (i := 5) sc_L_right.nd rfl (Or.inl rfl) (pe_cal C_L_near (hr.mono (by decide)) (pa_cons (pv 0) (pa_cons (pe_cut (pe_ifExp (pt_cmp (pc_lt (pv 4) pe_int)) (pv 3) (pe_tup (pa_cons pe_int (pa_cons pe_int (pa_cons pe_int pa_nil)))))) pa_nil))))
      (pss_cons (ps_set (i := 6) sc_L_right.nd rfl (Or.inl rfl) (pe_cal C_L_is_own (hr.mono (by decide)) (pa_cons (pv 1) (pa_cons (pv 2) (pa_cons (pv 5) pa_nil)))))
      (pss_cons (ps_if (pt_cmpR op_ne (pe_callB cr_repr_bl (by rfl) T.m_repr (by decide +kernel) (pa_cons (pe_cal C_P_is_point (hr.mono (by decide)) (pa_cons (pv 1) (pa_cons (pv 2) (pa_cons (pv 5) pa_nil)))) pa_nil)) (pe_callB cr_repr_bl (by rfl) T.m_repr (by decide +kernel) (pa_cons (pv 6) pa_nil)) (nomark _)) (pss_one (ps_ret pe_bl)) pss_nil)
      (pss_one (ps_if (PW.pt (pw_and (pt_val (pv 6)) (pw_and1 (pt_cmp (pc_lt (pe_callB (cr_max rfl) (by rfl) T.m_max (by decide +kernel) (pa_cons (pe_lc rfl sc_L_right.nd (own := [("_law_one", 7)]) (pi_tup (pv 5)) (blkOk_by (N := ["_law_vial_here", "_law_a", "_law_b", "_law_value", "_law_turn", "_law_near_here", "_law_due", "_law_one", "_law_four"]) (sc := defScope s_L_right) (by decide +kernel)) (fun _ _ _ _ _ => pg_name (i := 7) sc_L_right.nd rfl (Or.inl rfl)) (fun _ _ _ _ _ => pts_nil) (fun _ _ _ _ _ => (pe_callB call_abs (by rfl) T.m_abs (by decide +kernel) (pa_cons (pv 7) pa_nil)))) pa_nil)) (pe_op op_powW pe_int pe_int)))))) (pss_cons (ps_set (i := 8) sc_L_right.nd rfl (Or.inl rfl) (pe_new N_Four_2 (hr.mono (by decide)) (pa_cons (pe_new N_Algebra_2 (hr.mono (by decide)) (pa_cons (pv 1) (pa_cons (pv 2) pa_nil))) (pa_cons (pe_tup (pa_cons (pe_ix ix_tup (pv 5) pe_int (fun _ _ => rfl)) (pa_cons (pe_ix ix_tup (pv 5) pe_int (fun _ _ => rfl)) (pa_cons (pe_ix ix_tup (pv 5) pe_int (fun _ _ => rfl)) (pa_cons pe_int pa_nil))))) pa_nil))))
      (pss_one (ps_if (PW.pt (pw_or (pt_cmpR (ne_own M_Ratio_eq.me M_Ratio_eq.ok (hr.mono (by decide)) M_Ratio_eq.b pass0 O_Ratio.ne O_Ratio.mo) (pe_fld (pv 8) rfl) (pe_new N_Ratio_1 (hr.mono (by decide)) (pa_cons pe_int pa_nil)) (nomark _)) (pw_or1 (pt_not (pt_val (pe_callTy (bool_own M_Four_bool.me M_Four_bool.ok (hr.mono (by decide)) M_Four_bool.b pass0) (by rfl) T.m_bool (by decide +kernel) (pa_cons (pv 8) pa_nil))))))) (pss_one (ps_ret pe_bl)) pss_nil))) pss_nil))))))
      (pss_one (ps_ret pe_bl))))), ?_⟩
    refine ⟨_, rfl, ⟨p, n, rfl, hs, by omega, fun a b x y z t v H1 a0 b0 a1 b1 x1 y1 z1 so k1 s1 ht hv => ?_⟩⟩
    have a60 : a.natAbs < 2 ^ 60 := by omega
    have b60 : b.natAbs < 2 ^ 60 := by omega
    refine ⟨t, _, rfl, .inl (.inl ht), rfl, _, _, rfl, _, _, rfl, _, _, rfl, rfl, ?_⟩
    have tv : Tri H1 (.ref v) x y z := ⟨v, rfl, hv⟩
    have gv : ∀ {G : Hp}, Tri G (.ref v) x y z → Good G (.ref v) := fun {G} g => ⟨g.any, fun x' y' z' g' => by
      obtain ⟨rfl, rfl, rfl⟩ := g.uni g'
      exact ⟨small300 (by omega), small300 (by omega), small300 (by omega)⟩⟩
    refine ⟨_, rfl, _, rfl, _, rfl, ⟨a, b, .ref v, rfl, a60, b60, gv tv, fun r H2 e2 hr2 => ?_⟩⟩
    have er : r = true := hr2.mpr ⟨x, y, z, tv, so⟩
    subst er
    refine ⟨_, rfl, ?_⟩
    have tv2 := tv.same e2
    refine ⟨8, rfl, by decide, by decide, for_range (lo := 0) (n := 8) (fun i σ H' => ∃ v4 v5 v6 v7 v8, σ = [some (.ref p), some (.int a), some (.int b), some (.ref v), v4, v5, v6, v7, v8] ∧ Keep p H H' ∧ Sk p (n + 12 + 4 * i) H' ∧ Tri H' (.ref v) x y z) ⟨none, none, none, none, none, rfl, k1.trans (Keep.same e2), (s1.same e2).mono (by omega), tv2⟩ ?_ ?_⟩
    · rintro i σ H3 hi ⟨v4, v5, v6, v7, v8, rfl, k3, s3, tv3⟩
      refine ⟨_, rfl, fun u H' => ∃ x y z : Int, Same H3 H' ∧ Tri H' u x y z ∧ x.natAbs ≤ 5000 ∧ y.natAbs ≤ 5000 ∧ z.natAbs ≤ 5000, ?_, ?_⟩
      · refine ⟨_, rfl, _, _, rfl, rfl, _, rfl, ifd (fun h => ?_) (fun h => ?_)⟩
        · exact ⟨_, rfl, x, y, z, Same.refl _, tv3, x1, y1, z1⟩
        · exact ⟨(by show 3 ≤ sizeLine; decide), fun c hc => ⟨1, 1, 1, same_upd hc, ⟨c, rfl, upd_same⟩, by decide, by decide, by decide⟩⟩
      · rintro u H4 ⟨x4, y4, z4, e4, tu, bx4, by4, bz4⟩
        have s4 := s3.same e4
        refine ⟨p, n + 12 + 4 * i, u, x4, y4, z4, rfl, s4, by omega, tu, bx4, by4, bz4, fun u5 H5 g5 k5 s5 => ?_⟩
        have tv5 : Tri H5 (.ref v) x y z := (tv3.same e4).keep (m := 0) s4 k5
        refine ⟨_, rfl, _, rfl, _, rfl, ⟨a, b, u5, rfl, a60, b60, g5, fun r6 H6 e6 hr6 => ?_⟩⟩
        have g6 : Good H6 u5 := ⟨g5.1.same e6, fun x' y' z' g => g5.2 _ _ _ (g.back g5.1 e6)⟩
        refine ⟨_, rfl, _, rfl, _, rfl, ⟨a, b, u5, rfl, a0, b0, by omega, by omega, g6.1, g6.2, fun r7 H7 e7 hr7 => ?_⟩⟩
        have er : r7 = r6 := Bool.eq_iff_iff.mpr (hr7.trans (Iff.trans ⟨fun ⟨x', y', z', g, h⟩ => ⟨x', y', z', g.back g5.1 e6, h⟩, fun ⟨x', y', z', g, h⟩ => ⟨x', y', z', g.same e6, h⟩⟩ hr6.symm))
        subst er
        have e57 := e6.trans e7
        have k7 : Keep p H H7 := ((k3.trans (Keep.same e4)).trans k5).trans (Keep.same e57)
        have s7 : Sk p (n + 12 + 4 * (i + 1)) H7 := (s5.same e57).mono (by omega)
        have tv7 := tv5.same e57
        refine ⟨r7, rfl, _, rfl, r7, rfl, rfl, _, rfl, ifn (fun h => absurd rfl h) (fun _ => ?_)⟩
        refine ⟨_, rfl, _, rfl, ?_⟩
        cases r7 with
        | false => exact ⟨_, _, _, _, _, rfl, k7, s7, tv7⟩
        | true =>
          obtain ⟨x', y', z', g, so'⟩ := hr7.mp rfl
          obtain ⟨t', rfl, ht'⟩ := id (g.same e7)
          refine ⟨_, rfl, t', rfl, ⟨_, SqT.of ht'⟩, fun D hD => lc_tup (K := K) (a := t') (xs := ([x', y', z'] : List Int).map V.int) (fun j H' => Same H7 H' ∧ H' D = some (.lst (((([x', y', z'] : List Int).take j).map fun m => ((m.natAbs : Nat) : Int)).map V.int))) ⟨same_upd hD, upd_same⟩ (fun j H' _ hp => SqT.of (hp.1 _ _ ht')) (fun j m H' hm hp => ?_) (fun H' hp => ?_)⟩
          · obtain ⟨e1, hd⟩ := hp
            obtain ⟨m, hm2, rfl⟩ := int_of_map' hm
            refine ⟨rfl, _, rfl, m, rfl, _, hd, ?_, ?_, ?_⟩
            · rw [List.length_map, List.length_map]
              have := List.length_take_le' j ([x', y', z'] : List Int)
              exact Nat.lt_of_le_of_lt this (by show 3 < sizeLine; decide)
            · intro b o eb
              rw [upd_ne (ne_of_none eb hD)]
              exact e1 _ _ eb
            · rw [upd_same, abs_def, List.take_add_one, hm2, List.map_append, List.map_append]; rfl
          · obtain ⟨e8, hd⟩ := hp
            refine ⟨D, [(x'.natAbs : Int), (y'.natAbs : Int), (z'.natAbs : Int)], rfl, SqL.of hd, by show 0 < 3; decide, fun m hm hle => ?_⟩
            refine ⟨10, 60, rfl, rfl, ⟨by decide, by decide +kernel⟩, _, _, rfl, rfl, _, rfl, ifd (fun h => ?_) (fun h => ?_)⟩
            · have e60 : (10 : Int) ^ (60 : Int).toNat = 1000000000000000000000000000000000000000000000000000000000000 := by decide +kernel
              have n60 : (10 : Nat) ^ 60 = 1000000000000000000000000000000000000000000000000000000000000 := by decide +kernel
              rw [e60] at h
              have c1 := hle (x'.natAbs : Int) (by simp)
              have c2 := hle (y'.natAbs : Int) (by simp)
              have c3 := hle (z'.natAbs : Int) (by simp)
              have p1 : x'.natAbs < 10 ^ 60 := by omega
              have p2 : y'.natAbs < 10 ^ 60 := by omega
              have p3 : z'.natAbs < 10 ^ 60 := by omega
              have w60 : (10 : Nat) ^ 60 ≤ 2 ^ 3000 := by decide +kernel
              refine ⟨_, rfl, _, rfl, fun xa dxa hxa hdxa nda => new_alg a0 b0 (by omega) (by omega) hxa hdxa nda fun H9 e9 hA => ⟨rfl, ?_⟩⟩
              have ht9 := e9 _ _ (e8 _ _ ht')
              refine ⟨_, rfl, t', _, 2, .int z', rfl, rfl, SqT.of ht9, rfl, _, rfl, t', _, 0, .int x', rfl, rfl, SqT.of ht9, rfl, _, rfl, t', _, 1, .int y', rfl, rfl, SqT.of ht9, rfl, (by show 4 ≤ sizeLine; decide), fun e he => ?_⟩
              have z60 : (0 : Int).natAbs < 10 ^ 60 := by decide +kernel
              have o60 : (1 : Int).natAbs < 10 ^ 60 := by decide +kernel
              have zw : (0 : Int).natAbs < 2 ^ 3000 := by decide +kernel
              have ow : (1 : Int).natAbs < 2 ^ 3000 := by decide +kernel
              refine fun xf dxf hxf hdxf ndf => new_four (p := ⟨z', x', y', 0, 1⟩) (hA.same (same_upd he)) upd_same (by show (1 : Int) ≠ 0; decide) ⟨p3, p1, p2, z60, o60⟩ ⟨Nat.lt_of_lt_of_le p3 w60, Nat.lt_of_lt_of_le p1 w60, Nat.lt_of_lt_of_le p2 w60, zw, ow⟩ (fun r hr => by rw [low_one_q hr]; exact ⟨Nat.lt_of_lt_of_le p3 w60, Nat.lt_of_lt_of_le p1 w60, Nat.lt_of_lt_of_le p2 w60, zw, ow⟩) hxf hdxf ndf fun r H10 hr e10 hF => ⟨rfl, ?_⟩
              have er := low_one_q hr
              subst er
              obtain ⟨dF, eF, trF, nmF, t1, t2, n1, n2, q1, q2, q3, q4, q5, q6⟩ := hF.ex
              have nz : normT a b ⟨z', x', y', 0, 1⟩ = 0 := by
                have h := so'.2
                unfold normT
                dsimp only
                rw [Int.mul_zero, Int.add_zero]
                rw [Int.one_mul] at h
                omega
              rw [nz] at q6
              obtain ⟨rfl, rfl⟩ := low_one_r q6
              refine ⟨_, rfl, xf, CF, dF, _, .ref nmF, rfl, q1, R.own.cls, R.n5, rfl, fun xr dxr hxr hdxr ndr => new_rat (by decide) (by decide +kernel) (by decide +kernel) hxr hdxr ndr fun t' b' H11 hl e11 hR => ⟨rfl, ?_⟩⟩
              obtain ⟨rfl, rfl⟩ := low_one_r hl
              have q5' := q5.same e11
              refine ⟨nmF, xr, rfl, rfl, q5'.ins, hR.ins, ⟨nmF, .ref xr, 0, 1, 0, 1, rfl, q5', .rat hR, fun r hr => ⟨r, rfl, _, rfl, ?_⟩⟩⟩
              have er : r = true := hr.mpr ⟨rfl, rfl⟩
              subst er
              have hF11 := hF.same e11
              refine ⟨_, rfl, xf, rfl, hF11.ins, ⟨xf, xa, a, b, _, rfl, hF11, true, ⟨fun _ z => so'.1 ⟨z.2.1, z.2.2.1, z.1⟩, fun _ => rfl⟩, ⟨true, rfl, _, rfl, ?_⟩⟩⟩
              have eall := (((e8.trans e9).trans (same_upd (o := .tup [.int z', .int x', .int y', .int 0]) he)).trans e10).trans e11
              exact ⟨_, _, _, _, _, rfl, k7.trans (Keep.same eall), s7.same eall, tv7.same eall⟩
            · exact ⟨_, _, _, _, _, rfl, k7.trans (Keep.same e8), s7.same e8, tv7.same e8⟩
    · rintro σ H3 ⟨v4, v5, v6, v7, v8, rfl, k3, s3, tv3⟩
      exact q H3 k3 (s3.mono (by omega))
end
end Sf

namespace Sf
open PySem PySem.Spec PyProof.Rows L2
section
variable {P : Program} {w : World} {K : PySem.W.Frag} {mg : Str → Option Value} {base : Heap} {f : Addr} {fd : FuncData}
def spLaw (K : PySem.W.Frag) : Sp := fun vs H Q _ => ∃ (a : Addr) (ns : List Int), vs = [.ref a] ∧ SqL K H a (ns.map V.int) ∧ ns.length ≤ 63 ∧ ∀ H', Q (.bl true) H'
theorem tri_new {H : Hp} {t : Addr} {x y z : Int} (h : H t = some (.tup [.int x, .int y, .int z])) (hx : x.natAbs ≤ 1000000) (hy : y.natAbs ≤ 1000000) (hz : z.natAbs ≤ 1000000) : Good H (.ref t) :=
  Good.tup h (by show 3 ≤ 10; decide) fun u hu => by
    have c : u = .int x ∨ u = .int y ∨ u = .int z := by simpa using hu
    rcases c with rfl | rfl | rfl <;> exact ⟨.int _, fun n e => by cases e; exact small300 (by assumption)⟩
theorem sol_iff {H : Hp} {t : Addr} {x y z a b : Int} {r : Bool} (h : H t = some (.tup [.int x, .int y, .int z])) (hr : r = true ↔ ∃ x y z, Tri H (.ref t) x y z ∧ Sol a b 1 x y z) : r = true ↔ Sol a b 1 x y z := by
  refine hr.trans ⟨fun ⟨x', y', z', g, s⟩ => ?_, fun s => ⟨x, y, z, ⟨t, rfl, h⟩, s⟩⟩
  obtain ⟨rfl, rfl, rfl⟩ := g.uni ⟨t, rfl, h⟩
  exact s
set_option maxHeartbeats 16000000 in
theorem ok_law (F : FnD K "law" "law" s_L_law f fd) (T : Glob mg) (C_L_vial : Cal P w K mg base 1 "_law_vial" ["_law_script", "_law_at"] (spSack K)) (C_L_right : Cal P w K mg base 9 "_law_right" ["_law_vial_here"] spRight) (C_P_is_point : Cal P w K mg base 4 "is_point" ["a", "b", "value"] spPoint) :
    FnOk P w K mg base CX0 10 f fd ["_law_script"] (spLaw K) := by
  refine F.ok sc_L_law (fun vs H Q E h => ?_) (fun cdv A outer s H vs Q E hr h => ?_)
  · obtain ⟨a, ns, rfl, _⟩ := h; rfl
  · obtain ⟨a, ns, rfl, hS, hl, q⟩ := h
    refine ⟨_, PSs.nox (pss_cons (ps_for PassesOwn.never rfl (pi_range1 (by rfl) T.m_range (pa_cons (pe_callB (call_max2 rfl) (by rfl) T.m_max (by decide +kernel) (pa_cons pe_int (pa_cons (pe_callB (call_min2 rfl) (by rfl) T.m_min (by decide +kernel) (pa_cons pe_int (pa_cons (pe_callB call_len_seq (by rfl) T.m_len (by decide +kernel) (pa_cons (pv 0) pa_nil)) pa_nil))) pa_nil))) pa_nil)) (pg_name (i := 1) sc_L_law.nd rfl (Or.inl rfl)) (pss_cons (ps_set (i := 2) sc_L_law.nd rfl (Or.inl rfl) (pe_cal C_L_vial (hr.mono (by decide)) (pa_cons (pv 0) (pa_cons (pv 1) pa_nil))))
      (pss_one (ps_if (pt_not (PW.pt (pw_and (pt_val (pe_cal C_L_right (hr.mono (by decide)) (pa_cons (pv 2) pa_nil))) (pw_and1 (pt_val (pe_cal C_L_right (hr.mono (by decide)) (pa_cons (pv 2) pa_nil))))))) (pss_one (ps_ret pe_bl)) pss_nil))))
      (pss_cons (ps_set (i := 3) sc_L_law.nd rfl (Or.inl rfl) (pe_lst (pa_cons (pe_cal C_P_is_point (hr.mono (by decide)) (pa_cons pe_int (pa_cons pe_int (pa_cons (pe_tup (pa_cons pe_int (pa_cons pe_int (pa_cons pe_int pa_nil)))) pa_nil)))) (pa_cons (pe_cal C_P_is_point (hr.mono (by decide)) (pa_cons pe_int (pa_cons pe_int (pa_cons (pe_tup (pa_cons pe_int (pa_cons pe_int (pa_cons pe_int pa_nil)))) pa_nil)))) (pa_cons (pe_cal C_P_is_point (hr.mono (by decide)) (pa_cons (pe_op op_powW pe_int pe_int) (pa_cons (pe_un un_neg (pe_op op_powW pe_int pe_int)) (pa_cons (pe_tup (pa_cons pe_int (pa_cons pe_int (pa_cons pe_int pa_nil)))) pa_nil)))) pa_nil)))))
      (pss_one (ps_ret (pe_cmpR (op_eqD hr.units) (pe_op op_cat (pv 3) (pe_lst (pa_cons (pe_cal C_P_is_point (hr.mono (by decide)) (pa_cons (pe_un un_neg pe_int) (pa_cons (pe_un un_neg pe_int) (pa_cons (pe_tup (pa_cons pe_int (pa_cons pe_int (pa_cons pe_int pa_nil)))) pa_nil)))) (pa_cons (pe_cal C_P_is_point (hr.mono (by decide)) (pa_cons pe_int (pa_cons pe_int (pa_cons (pe_tup (pa_cons pe_bl (pa_cons pe_int (pa_cons pe_int pa_nil)))) pa_nil)))) pa_nil)))) (pe_lst (pa_cons pe_bl (pa_cons pe_bl (pa_cons pe_bl (pa_cons pe_bl (pa_cons pe_bl pa_nil)))))) (nomark _)))))), ?_⟩
    have hT : ∀ n : Nat, ∃ t : Nat, (if (if (n : Int) < 3 then (n : Int) else 3) > 1 then (if (n : Int) < 3 then (n : Int) else 3) else 1) = (t : Int) ∧ t ≤ 3 := fun n => by
      by_cases c : n < 3
      · by_cases c2 : n > 1
        · exact ⟨n, by rw [if_pos (by omega : (n : Int) < 3), if_pos (by omega)], by omega⟩
        · exact ⟨1, by rw [if_pos (by omega : (n : Int) < 3), if_neg (by omega)]; rfl, by omega⟩
      · exact ⟨3, by rw [if_neg (by omega : ¬ (n : Int) < 3), if_pos (by decide)]; rfl, by omega⟩
    obtain ⟨t, et, ht⟩ := hT (ns.map V.int).length
    refine ⟨_, rfl, a, _, rfl, .inl hS, _, _, rfl, _, _, rfl, (t : Int), ?_, by omega, by omega, ?_⟩
    · rw [← et]
    refine for_range (lo := 0) (n := t) (fun i σ H' => ∃ v1 v2, σ = [some (.ref a), v1, v2, none] ∧ Same H H') ⟨none, none, rfl, Same.refl H⟩ ?_ ?_
    · rintro i σ H0 hi ⟨v1, v2, rfl, hs0⟩
      refine ⟨_, rfl, _, rfl, a, ns, i, by rw [Int.zero_add]; rfl, hs0.seq hS, hl, by omega, fun p xs H1 e1 hpn hp1 hxs => ?_⟩
      have s1 : Sk p 0 H1 := ⟨xs, hp1, hxs⟩
      refine ⟨_, rfl, ⟨p, 0, rfl, s1, by decide, fun H2 k2 s2 => ⟨_, rfl, _, rfl, ⟨p, 60, rfl, s2, by decide, fun H3 k3 s3 => ⟨_, rfl, ?_⟩⟩⟩⟩⟩
      refine ⟨_, _, rfl, fun b o e => ?_⟩
      have e1' := e1 _ _ (hs0 _ _ e)
      have nb : b ≠ p := fun z => by
        rw [z] at e
        have := hs0 _ _ e
        rw [hpn] at this
        cases this
      exact k3 _ _ (k2 _ _ e1' nb) nb
    · rintro σ H0 ⟨v1, v2, rfl, hs0⟩
      refine ⟨(by show 3 ≤ sizeLine; decide), fun t1 ht1 => ⟨2, 7, .ref t1, rfl, by decide, by decide, by decide, by decide, (tri_new upd_same (by decide) (by decide) (by decide)).1, (tri_new upd_same (by decide) (by decide) (by decide)).2, fun r1 H1 e1 hr1 => ?_⟩⟩
      refine ⟨(by show 3 ≤ sizeLine; decide), fun t2 ht2 => ⟨2, 7, .ref t2, rfl, by decide, by decide, by decide, by decide, (tri_new upd_same (by decide) (by decide) (by decide)).1, (tri_new upd_same (by decide) (by decide) (by decide)).2, fun r2 H2 e2 hr2 => ?_⟩⟩
      refine ⟨10, 9, rfl, rfl, ⟨by decide, by decide +kernel⟩, 10, 9, rfl, rfl, ⟨by decide, by decide +kernel⟩, _, rfl, (by show 3 ≤ sizeLine; decide), fun t3 ht3 => ⟨10 ^ (9 : Int).toNat, -(10 ^ (9 : Int).toNat), .ref t3, rfl, by decide +kernel, by decide +kernel, by decide +kernel, by decide +kernel, (tri_new upd_same (by decide) (by decide) (by decide)).1, (tri_new upd_same (by decide) (by decide) (by decide)).2, fun r3 H3 e3 hr3 => ?_⟩⟩
      have q1 : r1 = true := (sol_iff upd_same hr1).mpr ⟨by decide, by decide⟩
      have q2 : r2 = false := by
        cases r2 with
        | false => rfl
        | true => exact absurd ((sol_iff upd_same hr2).mp rfl).1 (by decide)
      have q3 : r3 = true := (sol_iff upd_same hr3).mpr ⟨by decide, by decide +kernel⟩
      subst q1 q2 q3
      refine ⟨(by show 3 ≤ sizeLine; decide), fun L hL => ?_⟩
      refine ⟨_, rfl, 1, rfl, 1, rfl, (by show 3 ≤ sizeLine; decide), fun t4 ht4 => ⟨-1, -1, .ref t4, rfl, by decide, by decide, by decide, by decide, (tri_new upd_same (by decide) (by decide) (by decide)).1, (tri_new upd_same (by decide) (by decide) (by decide)).2, fun r4 H4 e4 hr4 => ?_⟩⟩
      have g5 : ∀ {G : Hp} {t5 : Addr}, G t5 = some (.tup [.bl true, .int 0, .int 1]) → Good G (.ref t5) := fun {G t5} h => Good.tup h (by show 3 ≤ 10; decide) fun u hu => by
        have c : u = .bl true ∨ u = .int 0 ∨ u = .int 1 := by simpa using hu
        rcases c with rfl | rfl | rfl
        · exact ⟨.bl _, fun n e => by cases e⟩
        · exact ⟨.int _, fun n e => by cases e; decide +kernel⟩
        · exact ⟨.int _, fun n e => by cases e; decide +kernel⟩
      refine ⟨(by show 3 ≤ sizeLine; decide), fun t5 ht5 => ⟨1, 1, .ref t5, rfl, by decide, by decide, by decide, by decide, (g5 upd_same).1, (g5 upd_same).2, fun r5 H5 e5 hr5 => ?_⟩⟩
      have q4 : r4 = false := by
        cases r4 with
        | false => rfl
        | true => exact absurd ((sol_iff upd_same hr4).mp rfl).2 (by decide)
      have q5 : r5 = false := by
        cases r5 with
        | false => rfl
        | true =>
          obtain ⟨x, y, z, ⟨b, e, g⟩, _⟩ := hr5.mp rfl
          cases e
          rw [upd_same] at g
          cases g
      subst q4 q5
      refine ⟨(by show 2 ≤ sizeLine; decide), fun M hM => ?_⟩
      have hL5 := ((((same_upd (o := .tup [.int 1, .int 1, .int 1]) ht4).trans e4).trans (same_upd (o := .tup [.bl true, .int 0, .int 1]) ht5)).trans e5).trans (same_upd (o := .lst [.bl false, .bl false]) hM)
      refine ⟨L, M, _, _, rfl, rfl, hL5 _ _ upd_same, upd_same, (by show 5 ≤ sizeLine; decide), fun N hN => ?_⟩
      refine ⟨(by show 5 ≤ sizeLine; decide), fun O hO => ?_⟩
      have hN5 := same_upd (o := .lst [.bl true, .bl false, .bl true, .bl false, .bl false]) hO
      refine ⟨.list [.bool true, .bool false, .bool true, .bool false, .bool false], .list [.bool true, .bool false, .bool true, .bool false, .bool false], .lst (SqL.of (hN5 _ _ upd_same)) (.cons (.bl _) (.cons (.bl _) (.cons (.bl _) (.cons (.bl _) (.cons (.bl _) .nil))))), .lst (SqL.of upd_same) (.cons (.bl _) (.cons (.bl _) (.cons (.bl _) (.cons (.bl _) (.cons (.bl _) .nil))))), by decide +kernel, by decide +kernel, ?_⟩
      rw [show PyData.eqv (.list [.bool true, .bool false, .bool true, .bool false, .bool false]) (.list [.bool true, .bool false, .bool true, .bool false, .bool false]) = true by decide +kernel]
      exact q _
end
end Sf

namespace Sf
open PySem PySem.Spec PyProof.Rows L2
theorem facts {P : Program} {w : World} {K : PySem.W.Frag} {h : Heap} {mg : Str → Option Value} {f : Addr} (X : K.In h) (G : h.Ns mainGlobals mg) (hfa : mg ("law" : Str) = some (.ref f)) (c : He.SaysD fa fn K) (z : ex K = true) :
    ∃ fd : FuncData, (∀ (s : Shared) (v : Value), BindsTo s fd ⟨[v], []⟩ [("_law_script", v)]) ∧ ∀ base : Heap, K.In base → base.Ns mainGlobals mg → FnOk P w K mg base CX0 10 f fd ["_law_script"] (spLaw K) := by
  obtain ⟨fd_L_vial, F_L_vial⟩ := c.def_ 0 (d := d_L_vial) rfl
  have g_L_vial := He.glo_ok X G (c.fact 0 (f := .glo "_law_vial") rfl)
  obtain ⟨fd_L_drop, F_L_drop⟩ := c.def_ 1 (d := d_L_drop) rfl
  have g_L_drop := He.glo_ok X G (c.fact 1 (f := .glo "_law_drop") rfl)
  obtain ⟨fd_L_any, F_L_any⟩ := c.def_ 2 (d := d_L_any) rfl
  have g_L_any := He.glo_ok X G (c.fact 2 (f := .glo "_law_any") rfl)
  obtain ⟨fd_L_number, F_L_number⟩ := c.def_ 3 (d := d_L_number) rfl
  have g_L_number := He.glo_ok X G (c.fact 3 (f := .glo "_law_number") rfl)
  obtain ⟨fd_L_world, F_L_world⟩ := c.def_ 4 (d := d_L_world) rfl
  have g_L_world := He.glo_ok X G (c.fact 4 (f := .glo "_law_world") rfl)
  obtain ⟨fd_L_near, F_L_near⟩ := c.def_ 5 (d := d_L_near) rfl
  have g_L_near := He.glo_ok X G (c.fact 5 (f := .glo "_law_near") rfl)
  obtain ⟨fd_L_is_own, F_L_is_own⟩ := c.def_ 6 (d := d_L_is_own) rfl
  have g_L_is_own := He.glo_ok X G (c.fact 6 (f := .glo "_law_is_own") rfl)
  obtain ⟨fd_P_is_integer, F_P_is_integer⟩ := c.def_ 7 (d := d_P_is_integer) rfl
  have g_P_is_integer := He.glo_ok X G (c.fact 7 (f := .glo "is_integer") rfl)
  obtain ⟨fd_P_check_number, F_P_check_number⟩ := c.def_ 8 (d := d_P_check_number) rfl
  have g_P_check_number := He.glo_ok X G (c.fact 8 (f := .glo "check_number") rfl)
  obtain ⟨fd_P_is_triple, F_P_is_triple⟩ := c.def_ 9 (d := d_P_is_triple) rfl
  have g_P_is_triple := He.glo_ok X G (c.fact 9 (f := .glo "is_triple") rfl)
  obtain ⟨fd_P_solves, F_P_solves⟩ := c.def_ 10 (d := d_P_solves) rfl
  have g_P_solves := He.glo_ok X G (c.fact 10 (f := .glo "solves") rfl)
  obtain ⟨fd_P_is_point, F_P_is_point⟩ := c.def_ 11 (d := d_P_is_point) rfl
  have g_P_is_point := He.glo_ok X G (c.fact 11 (f := .glo "is_point") rfl)
  obtain ⟨fd_P_stripped, F_P_stripped⟩ := c.def_ 12 (d := d_P_stripped) rfl
  have g_P_stripped := He.glo_ok X G (c.fact 12 (f := .glo "stripped") rfl)
  obtain ⟨fd_P_next_divisor, F_P_next_divisor⟩ := c.def_ 13 (d := d_P_next_divisor) rfl
  have g_P_next_divisor := He.glo_ok X G (c.fact 13 (f := .glo "next_divisor") rfl)
  obtain ⟨fd_P_prime_powers, F_P_prime_powers⟩ := c.def_ 14 (d := d_P_prime_powers) rfl
  have g_P_prime_powers := He.glo_ok X G (c.fact 14 (f := .glo "prime_powers") rfl)
  obtain ⟨fd_P_factors, F_P_factors⟩ := c.def_ 15 (d := d_P_factors) rfl
  have g_P_factors := He.glo_ok X G (c.fact 15 (f := .glo "factors") rfl)
  obtain ⟨fd_P_quarter, F_P_quarter⟩ := c.def_ 16 (d := d_P_quarter) rfl
  have g_P_quarter := He.glo_ok X G (c.fact 16 (f := .glo "quarter") rfl)
  obtain ⟨fd_P_eighth, F_P_eighth⟩ := c.def_ 17 (d := d_P_eighth) rfl
  have g_P_eighth := He.glo_ok X G (c.fact 17 (f := .glo "eighth") rfl)
  obtain ⟨fd_P_sign_at_two, F_P_sign_at_two⟩ := c.def_ 18 (d := d_P_sign_at_two) rfl
  have g_P_sign_at_two := He.glo_ok X G (c.fact 18 (f := .glo "sign_at_two") rfl)
  obtain ⟨fd_P_power_modulo, F_P_power_modulo⟩ := c.def_ 19 (d := d_P_power_modulo) rfl
  have g_P_power_modulo := He.glo_ok X G (c.fact 19 (f := .glo "power_modulo") rfl)
  obtain ⟨fd_P_rest_sign, F_P_rest_sign⟩ := c.def_ 20 (d := d_P_rest_sign) rfl
  have g_P_rest_sign := He.glo_ok X G (c.fact 20 (f := .glo "rest_sign") rfl)
  obtain ⟨fd_P_sign_at_odd, F_P_sign_at_odd⟩ := c.def_ 21 (d := d_P_sign_at_odd) rfl
  have g_P_sign_at_odd := He.glo_ok X G (c.fact 21 (f := .glo "sign_at_odd") rfl)
  obtain ⟨fd_P_sign, F_P_sign⟩ := c.def_ 22 (d := d_P_sign) rfl
  have g_P_sign := He.glo_ok X G (c.fact 22 (f := .glo "sign") rfl)
  obtain ⟨fd_P_signed_places, F_P_signed_places⟩ := c.def_ 23 (d := d_P_signed_places) rfl
  have g_P_signed_places := He.glo_ok X G (c.fact 23 (f := .glo "signed_places") rfl)
  obtain ⟨fd_P_product_of_primes, F_P_product_of_primes⟩ := c.def_ 24 (d := d_P_product_of_primes) rfl
  have g_P_product_of_primes := He.glo_ok X G (c.fact 24 (f := .glo "product_of_primes") rfl)
  obtain ⟨fd_P_Algebra___init__, F_P_Algebra___init__⟩ := c.def_ 25 (d := d_P_Algebra___init__) rfl
  obtain ⟨fd_P_check_algebra, F_P_check_algebra⟩ := c.def_ 26 (d := d_P_check_algebra) rfl
  have g_P_check_algebra := He.glo_ok X G (c.fact 25 (f := .glo "check_algebra") rfl)
  obtain ⟨fd_P_is_passed, F_P_is_passed⟩ := c.def_ 27 (d := d_P_is_passed) rfl
  have g_P_is_passed := He.glo_ok X G (c.fact 26 (f := .glo "is_passed") rfl)
  obtain ⟨fd_P_is_passed_entries, F_P_is_passed_entries⟩ := c.def_ 28 (d := d_P_is_passed_entries) rfl
  have g_P_is_passed_entries := He.glo_ok X G (c.fact 27 (f := .glo "is_passed_entries") rfl)
  obtain ⟨fd_P_lowest_entries, F_P_lowest_entries⟩ := c.def_ 29 (d := d_P_lowest_entries) rfl
  have g_P_lowest_entries := He.glo_ok X G (c.fact 28 (f := .glo "lowest_entries") rfl)
  obtain ⟨fd_P_lowest_terms, F_P_lowest_terms⟩ := c.def_ 30 (d := d_P_lowest_terms) rfl
  have g_P_lowest_terms := He.glo_ok X G (c.fact 29 (f := .glo "lowest_terms") rfl)
  obtain ⟨fd_P_sign_of, F_P_sign_of⟩ := c.def_ 31 (d := d_P_sign_of) rfl
  have g_P_sign_of := He.glo_ok X G (c.fact 30 (f := .glo "sign_of") rfl)
  obtain ⟨fd_P_Ratio___init__, F_P_Ratio___init__⟩ := c.def_ 32 (d := d_P_Ratio___init__) rfl
  obtain ⟨fd_P_made_ratio, F_P_made_ratio⟩ := c.def_ 33 (d := d_P_made_ratio) rfl
  have g_P_made_ratio := He.glo_ok X G (c.fact 31 (f := .glo "made_ratio") rfl)
  obtain ⟨fd_P_norm_of, F_P_norm_of⟩ := c.def_ 34 (d := d_P_norm_of) rfl
  have g_P_norm_of := He.glo_ok X G (c.fact 32 (f := .glo "norm_of") rfl)
  obtain ⟨fd_P_Four___init__, F_P_Four___init__⟩ := c.def_ 35 (d := d_P_Four___init__) rfl
  obtain ⟨fd_P_Ratio___eq__, F_P_Ratio___eq__⟩ := c.def_ 36 (d := d_P_Ratio___eq__) rfl
  obtain ⟨fd_P_Four___bool__, F_P_Four___bool__⟩ := c.def_ 37 (d := d_P_Four___bool__) rfl
  obtain ⟨fd_L_right, F_L_right⟩ := c.def_ 38 (d := d_L_right) rfl
  have g_L_right := He.glo_ok X G (c.fact 33 (f := .glo "_law_right") rfl)
  obtain ⟨fd_L_law, F_L_law⟩ := c.def_ 39 (d := d_L_law) rfl
  have g_L_law := He.glo_ok X G (c.fact 34 (f := .glo "law") rfl)
  have e := hfa.symm.trans g_L_law
  cases e
  have z0 := z
  obtain ⟨y1, z1⟩ := He.ba z0
  obtain ⟨y2, z2⟩ := He.ba z1
  obtain ⟨y3, z3⟩ := He.ba z2
  obtain ⟨y4, z4⟩ := He.ba z3
  have own_Algebra : OwnK K (He.ga K "Algebra") := ownB_ok (He.cls_ok (c.fact 56 (f := .cls "Algebra") rfl)) y2
  have own_Ratio : OwnK K (He.ga K "Ratio") := ownB_ok (He.cls_ok (c.fact 64 (f := .cls "Ratio") rfl)) y3
  have own_Four : OwnK K (He.ga K "Four") := ownB_ok (He.cls_ok (c.fact 70 (f := .cls "Four") rfl)) y4
  have T : Glob mg := ⟨He.free_ok X G (c.fact 35 (f := .free "isinstance") rfl), He.free_ok X G (c.fact 36 (f := .free "int") rfl), He.free_ok X G (c.fact 37 (f := .free "bool") rfl), He.free_ok X G (c.fact 38 (f := .free "abs") rfl), He.free_ok X G (c.fact 39 (f := .free "tuple") rfl), He.free_ok X G (c.fact 40 (f := .free "all") rfl), He.free_ok X G (c.fact 41 (f := .free "len") rfl), He.free_ok X G (c.fact 42 (f := .free "sorted") rfl), He.free_ok X G (c.fact 43 (f := .free "set") rfl), He.free_ok X G (c.fact 44 (f := .free "any") rfl), He.free_ok X G (c.fact 45 (f := .free "str") rfl), He.free_ok X G (c.fact 46 (f := .free "zip") rfl), He.free_ok X G (c.fact 47 (f := .free "max") rfl), He.free_ok X G (c.fact 48 (f := .free "list") rfl), He.free_ok X G (c.fact 49 (f := .free "range") rfl), He.free_ok X G (c.fact 50 (f := .free "repr") rfl), He.free_ok X G (c.fact 51 (f := .free "min") rfl), gblB_ok X G y1, He.int_ok X G (c.fact 52 (f := .int "TOO_LONG" 1000000000000000000000000000000000000000000000000000000000000) rfl), He.int_ok X G (c.fact 53 (f := .int "MAX_NUMBER" 1000000000) rfl), He.int_ok X G (c.fact 54 (f := .int "MAX_POWER" 1000) rfl)⟩
  obtain ⟨us_P_Ratio___init___1, dv_P_Ratio___init___1, bd_P_Ratio___init___1⟩ := F_P_Ratio___init__.binds1 (ps := ["self", "top", "bottom"]) 2 0 (fun e => by cases e) rfl fun _ _ _ _ _ _ _ us its hl hi => match us, hl, its, hi with | [_, _], _, [_], _ => ⟨_, rfl, rfl⟩
  obtain ⟨us_P_Four___init___2, dv_P_Four___init___2, bd_P_Four___init___2⟩ := F_P_Four___init__.binds1 (ps := ["self", "algebra", "entries", "bottom"]) 3 0 (fun e => by cases e) rfl fun _ _ _ _ _ _ _ us its hl hi => match us, hl, its, hi with | [_, _, _], _, [_], _ => ⟨_, rfl, rfl⟩
  have b := FunD.bindsA (ps := ["_law_script"]) F_L_law fun _ _ _ _ _ _ us hl => match us, hl with | [_], _ => rfl
  refine ⟨fd_L_law, fun s v => b s [v] rfl, fun base _ _ => ?_⟩
  have C_L_vial : Cal P w K mg base 1 "_law_vial" ["_law_script", "_law_at"] (spSack K) := ⟨_, fd_L_vial, ok_vial F_L_vial T, g_L_vial, F_L_vial.kp, F_L_vial.bindsN fun _ _ _ _ _ _ us hl => match us, hl with | [_, _], _ => rfl⟩
  have C_L_drop : Cal P w K mg base 1 "_law_drop" ["_law_vial_here", "_law_total"] spTake := ⟨_, fd_L_drop, ok_drop F_L_drop T, g_L_drop, F_L_drop.kp, F_L_drop.bindsN fun _ _ _ _ _ _ us hl => match us, hl with | [_, _], _ => rfl⟩
  have C_L_any : Cal P w K mg base 2 "_law_any" ["_law_vial_here", "_law_items"] (spOneOf K) := ⟨_, fd_L_any, ok_any F_L_any T C_L_drop, g_L_any, F_L_any.kp, F_L_any.bindsN fun _ _ _ _ _ _ us hl => match us, hl with | [_, _], _ => rfl⟩
  have C_L_number : Cal P w K mg base 3 "_law_number" ["_law_vial_here", "_law_most"] spNum := ⟨_, fd_L_number, ok_number F_L_number C_L_drop C_L_any, g_L_number, F_L_number.kp, F_L_number.bindsN fun _ _ _ _ _ _ us hl => match us, hl with | [_, _], _ => rfl⟩
  have C_L_world : Cal P w K mg base 4 "_law_world" ["_law_vial_here"] spWorld := ⟨_, fd_L_world, ok_world F_L_world T C_L_drop C_L_number, g_L_world, F_L_world.kp, F_L_world.bindsN fun _ _ _ _ _ _ us hl => match us, hl with | [_], _ => rfl⟩
  have C_L_near : Cal P w K mg base 3 "_law_near" ["_law_vial_here", "_law_value"] spNear := ⟨_, fd_L_near, ok_near F_L_near T C_L_drop C_L_any, g_L_near, F_L_near.kp, F_L_near.bindsN fun _ _ _ _ _ _ us hl => match us, hl with | [_, _], _ => rfl⟩
  have C_L_is_own : Cal P w K mg base 1 "_law_is_own" ["_law_a", "_law_b", "_law_value"] spOwnJ := ⟨_, fd_L_is_own, ok_is_own F_L_is_own T, g_L_is_own, F_L_is_own.kp, F_L_is_own.bindsN fun _ _ _ _ _ _ us hl => match us, hl with | [_, _, _], _ => rfl⟩
  have C_P_is_integer : Cal P w K mg base 1 "is_integer" ["value"] (spIsInt K) := ⟨_, fd_P_is_integer, ok_is_integer F_P_is_integer T, g_P_is_integer, F_P_is_integer.kp, F_P_is_integer.bindsN fun _ _ _ _ _ _ us hl => match us, hl with | [_], _ => rfl⟩
  have C_P_check_number : Cal P w K mg base 2 "check_number" ["value"] spCheckNumber := ⟨_, fd_P_check_number, ok_check_number F_P_check_number T C_P_is_integer, g_P_check_number, F_P_check_number.kp, F_P_check_number.bindsN fun _ _ _ _ _ _ us hl => match us, hl with | [_], _ => rfl⟩
  have C_P_is_triple : Cal P w K mg base 2 "is_triple" ["value"] spTrip := ⟨_, fd_P_is_triple, ok_is_triple F_P_is_triple T C_P_is_integer, g_P_is_triple, F_P_is_triple.kp, F_P_is_triple.bindsN fun _ _ _ _ _ _ us hl => match us, hl with | [_], _ => rfl⟩
  have C_P_solves : Cal P w K mg base 3 "solves" ["a", "b", "c", "value"] spSolv := ⟨_, fd_P_solves, ok_solves F_P_solves T C_P_is_triple, g_P_solves, F_P_solves.kp, F_P_solves.bindsN fun _ _ _ _ _ _ us hl => match us, hl with | [_, _, _, _], _ => rfl⟩
  have C_P_is_point : Cal P w K mg base 4 "is_point" ["a", "b", "value"] spPoint := ⟨_, fd_P_is_point, ok_is_point F_P_is_point C_P_check_number C_P_solves, g_P_is_point, F_P_is_point.kp, F_P_is_point.bindsN fun _ _ _ _ _ _ us hl => match us, hl with | [_, _, _], _ => rfl⟩
  have C_P_stripped : Cal P w K mg base 1 "stripped" ["number", "prime"] spStripped := ⟨_, fd_P_stripped, ok_stripped F_P_stripped , g_P_stripped, F_P_stripped.kp, F_P_stripped.bindsN fun _ _ _ _ _ _ us hl => match us, hl with | [_, _], _ => rfl⟩
  have C_P_next_divisor : Cal P w K mg base 1 "next_divisor" ["divisor"] spNext := ⟨_, fd_P_next_divisor, ok_next F_P_next_divisor , g_P_next_divisor, F_P_next_divisor.kp, F_P_next_divisor.bindsN fun _ _ _ _ _ _ us hl => match us, hl with | [_], _ => rfl⟩
  have C_P_prime_powers : Cal P w K mg base 2 "prime_powers" ["number"] spFactors := ⟨_, fd_P_prime_powers, ok_prime_powers F_P_prime_powers T C_P_stripped C_P_next_divisor, g_P_prime_powers, F_P_prime_powers.kp, F_P_prime_powers.bindsN fun _ _ _ _ _ _ us hl => match us, hl with | [_], _ => rfl⟩
  have C_P_factors : Cal P w K mg base 3 "factors" ["number"] spFactors := ⟨_, fd_P_factors, ok_factors F_P_factors C_P_check_number C_P_prime_powers, g_P_factors, F_P_factors.kp, F_P_factors.bindsN fun _ _ _ _ _ _ us hl => match us, hl with | [_], _ => rfl⟩
  have C_P_quarter : Cal P w K mg base 1 "quarter" ["unit"] spQuarter := ⟨_, fd_P_quarter, ok_quarter F_P_quarter , g_P_quarter, F_P_quarter.kp, F_P_quarter.bindsN fun _ _ _ _ _ _ us hl => match us, hl with | [_], _ => rfl⟩
  have C_P_eighth : Cal P w K mg base 1 "eighth" ["unit"] spEighth := ⟨_, fd_P_eighth, ok_eighth F_P_eighth , g_P_eighth, F_P_eighth.kp, F_P_eighth.bindsN fun _ _ _ _ _ _ us hl => match us, hl with | [_], _ => rfl⟩
  have C_P_sign_at_two : Cal P w K mg base 2 "sign_at_two" ["a", "b"] (spSgn true) := ⟨_, fd_P_sign_at_two, ok_sign_at_two F_P_sign_at_two C_P_stripped C_P_quarter C_P_eighth, g_P_sign_at_two, F_P_sign_at_two.kp, F_P_sign_at_two.bindsN fun _ _ _ _ _ _ us hl => match us, hl with | [_, _], _ => rfl⟩
  have C_P_power_modulo : Cal P w K mg base 1 "power_modulo" ["number", "many", "modulus"] spPowMod := ⟨_, fd_P_power_modulo, ok_powmod F_P_power_modulo , g_P_power_modulo, F_P_power_modulo.kp, F_P_power_modulo.bindsN fun _ _ _ _ _ _ us hl => match us, hl with | [_, _, _], _ => rfl⟩
  have C_P_rest_sign : Cal P w K mg base 2 "rest_sign" ["number", "prime"] spRestSign := ⟨_, fd_P_rest_sign, ok_rest_sign F_P_rest_sign C_P_power_modulo, g_P_rest_sign, F_P_rest_sign.kp, F_P_rest_sign.bindsN fun _ _ _ _ _ _ us hl => match us, hl with | [_, _], _ => rfl⟩
  have C_P_sign_at_odd : Cal P w K mg base 3 "sign_at_odd" ["a", "b", "prime"] (spSgn false) := ⟨_, fd_P_sign_at_odd, ok_sign_at_odd F_P_sign_at_odd C_P_stripped C_P_rest_sign, g_P_sign_at_odd, F_P_sign_at_odd.kp, F_P_sign_at_odd.bindsN fun _ _ _ _ _ _ us hl => match us, hl with | [_, _, _], _ => rfl⟩
  have C_P_sign : Cal P w K mg base 4 "sign" ["a", "b", "place"] spSign := ⟨_, fd_P_sign, ok_sign F_P_sign C_P_sign_at_two C_P_sign_at_odd, g_P_sign, F_P_sign.kp, F_P_sign.bindsN fun _ _ _ _ _ _ us hl => match us, hl with | [_, _, _], _ => rfl⟩
  have C_P_signed_places : Cal P w K mg base 5 "signed_places" ["a", "b"] spPlaces := ⟨_, fd_P_signed_places, ok_signed_places F_P_signed_places T C_P_check_number C_P_factors C_P_sign, g_P_signed_places, F_P_signed_places.kp, F_P_signed_places.bindsN fun _ _ _ _ _ _ us hl => match us, hl with | [_, _], _ => rfl⟩
  have C_P_product_of_primes : Cal P w K mg base 1 "product_of_primes" ["places"] spDisc := ⟨_, fd_P_product_of_primes, ok_product_of_primes F_P_product_of_primes , g_P_product_of_primes, F_P_product_of_primes.kp, F_P_product_of_primes.bindsN fun _ _ _ _ _ _ us hl => match us, hl with | [_], _ => rfl⟩
  have OK_P_Algebra___init__ : FnOk P w K mg base CX0 6 _ fd_P_Algebra___init__ ["self", "a", "b"] (spAlgInit (He.ga K "Algebra")) := ok_Algebra_init F_P_Algebra___init__ T (⟨own_Algebra, He.noat_ok (c.fact 57 (f := .noat "Algebra" "places") rfl), He.noat_ok (c.fact 58 (f := .noat "Algebra" "a") rfl), He.noat_ok (c.fact 59 (f := .noat "Algebra" "b") rfl), He.noat_ok (c.fact 60 (f := .noat "Algebra" "discriminant") rfl), He.noat_ok (c.fact 61 (f := .noat "Algebra" "is_tables") rfl), He.noat_ok (c.fact 62 (f := .noat "Algebra" "is_definite") rfl)⟩ : AlgK K (He.ga K "Algebra")) C_P_signed_places C_P_product_of_primes
  have C_P_check_algebra : Cal P w K mg base 1 "check_algebra" ["value"] (spIsAlg (He.ga K "Algebra")) := ⟨_, fd_P_check_algebra, ok_check_algebra F_P_check_algebra T (⟨own_Algebra, He.noat_ok (c.fact 57 (f := .noat "Algebra" "places") rfl), He.noat_ok (c.fact 58 (f := .noat "Algebra" "a") rfl), He.noat_ok (c.fact 59 (f := .noat "Algebra" "b") rfl), He.noat_ok (c.fact 60 (f := .noat "Algebra" "discriminant") rfl), He.noat_ok (c.fact 61 (f := .noat "Algebra" "is_tables") rfl), He.noat_ok (c.fact 62 (f := .noat "Algebra" "is_definite") rfl)⟩ : AlgK K (He.ga K "Algebra")) (He.glo_ok X G (c.fact 55 (f := .glo "Algebra") rfl)), g_P_check_algebra, F_P_check_algebra.kp, F_P_check_algebra.bindsN fun _ _ _ _ _ _ us hl => match us, hl with | [_], _ => rfl⟩
  have C_P_is_passed : Cal P w K mg base 2 "is_passed" ["value"] (spPassed K) := ⟨_, fd_P_is_passed, ok_is_passed F_P_is_passed T C_P_is_integer, g_P_is_passed, F_P_is_passed.kp, F_P_is_passed.bindsN fun _ _ _ _ _ _ us hl => match us, hl with | [_], _ => rfl⟩
  have C_P_is_passed_entries : Cal P w K mg base 3 "is_passed_entries" ["value"] spPassE := ⟨_, fd_P_is_passed_entries, ok_is_passed_entries F_P_is_passed_entries T C_P_is_passed, g_P_is_passed_entries, F_P_is_passed_entries.kp, F_P_is_passed_entries.bindsN fun _ _ _ _ _ _ us hl => match us, hl with | [_], _ => rfl⟩
  have C_P_lowest_entries : Cal P w K mg base 1 "lowest_entries" ["entries", "bottom"] spLowE := ⟨_, fd_P_lowest_entries, ok_lowest_entries F_P_lowest_entries T, g_P_lowest_entries, F_P_lowest_entries.kp, F_P_lowest_entries.bindsN fun _ _ _ _ _ _ us hl => match us, hl with | [_, _], _ => rfl⟩
  have C_P_lowest_terms : Cal P w K mg base 1 "lowest_terms" ["top", "bottom"] spLowest := ⟨_, fd_P_lowest_terms, ok_lowest_terms F_P_lowest_terms T, g_P_lowest_terms, F_P_lowest_terms.kp, F_P_lowest_terms.bindsN fun _ _ _ _ _ _ us hl => match us, hl with | [_, _], _ => rfl⟩
  have C_P_sign_of : Cal P w K mg base 1 "sign_of" ["number"] spSignOf := ⟨_, fd_P_sign_of, ok_sign_of F_P_sign_of , g_P_sign_of, F_P_sign_of.kp, F_P_sign_of.bindsN fun _ _ _ _ _ _ us hl => match us, hl with | [_], _ => rfl⟩
  have OK_P_Ratio___init__ : FnOk P w K mg base CX0 3 _ fd_P_Ratio___init__ ["self", "top", "bottom"] (spRatInit (He.ga K "Ratio")) := ok_Ratio_init F_P_Ratio___init__ (⟨own_Ratio, He.noat_ok (c.fact 65 (f := .noat "Ratio" "top") rfl), He.noat_ok (c.fact 66 (f := .noat "Ratio" "bottom") rfl), He.noat_ok (c.fact 67 (f := .noat "Ratio" "sign") rfl)⟩ : RatioK K (He.ga K "Ratio")) C_P_is_passed C_P_lowest_terms C_P_sign_of
  have C_P_made_ratio : Cal P w K mg base 5 "made_ratio" ["top", "bottom"] (spMadeRatio (He.ga K "Ratio")) := ⟨_, fd_P_made_ratio, ok_made_ratio F_P_made_ratio (⟨own_Ratio, He.noat_ok (c.fact 65 (f := .noat "Ratio" "top") rfl), He.noat_ok (c.fact 66 (f := .noat "Ratio" "bottom") rfl), He.noat_ok (c.fact 67 (f := .noat "Ratio" "sign") rfl)⟩ : RatioK K (He.ga K "Ratio")) C_P_lowest_terms C_P_sign_of (⟨_, fd_P_Ratio___init__, us_P_Ratio___init___1, OK_P_Ratio___init__, He.mkr_ok (c.fact 68 (f := .mkr "Ratio") rfl), (He.glo_ok X G (c.fact 63 (f := .glo "Ratio") rfl)), bd_P_Ratio___init___1, dv_P_Ratio___init___1⟩ : CalC P w K mg base 3 "Ratio" (He.ga K "Ratio") ["self", "top", "bottom"] [.int 1] (spRatInit (He.ga K "Ratio"))), g_P_made_ratio, F_P_made_ratio.kp, F_P_made_ratio.bindsN fun _ _ _ _ _ _ us hl => match us, hl with | [_, _], _ => rfl⟩
  have C_P_norm_of : Cal P w K mg base 6 "norm_of" ["algebra", "entries", "bottom"] (spNorm (He.ga K "Ratio") (He.ga K "Algebra")) := ⟨_, fd_P_norm_of, ok_norm_of F_P_norm_of (⟨own_Algebra, He.noat_ok (c.fact 57 (f := .noat "Algebra" "places") rfl), He.noat_ok (c.fact 58 (f := .noat "Algebra" "a") rfl), He.noat_ok (c.fact 59 (f := .noat "Algebra" "b") rfl), He.noat_ok (c.fact 60 (f := .noat "Algebra" "discriminant") rfl), He.noat_ok (c.fact 61 (f := .noat "Algebra" "is_tables") rfl), He.noat_ok (c.fact 62 (f := .noat "Algebra" "is_definite") rfl)⟩ : AlgK K (He.ga K "Algebra")) C_P_made_ratio, g_P_norm_of, F_P_norm_of.kp, F_P_norm_of.bindsN fun _ _ _ _ _ _ us hl => match us, hl with | [_, _, _], _ => rfl⟩
  have OK_P_Four___init__ : FnOk P w K mg base CX0 7 _ fd_P_Four___init__ ["self", "algebra", "entries", "bottom"] (spFourInit (He.ga K "Four") (He.ga K "Ratio") (He.ga K "Algebra")) := ok_Four_init F_P_Four___init__ T (⟨own_Four, He.noat_ok (c.fact 71 (f := .noat "Four" "algebra") rfl), He.noat_ok (c.fact 72 (f := .noat "Four" "entries") rfl), He.noat_ok (c.fact 73 (f := .noat "Four" "bottom") rfl), He.noat_ok (c.fact 74 (f := .noat "Four" "trace") rfl), He.noat_ok (c.fact 75 (f := .noat "Four" "norm") rfl), He.noat_ok (c.fact 76 (f := .noat "Four" "is_ratio") rfl)⟩ : FourK K (He.ga K "Four")) C_P_check_algebra C_P_is_passed_entries C_P_is_passed C_P_lowest_entries C_P_made_ratio C_P_norm_of
  have OK_P_Ratio___eq__ : FnOk P w K mg base CX0 2 _ fd_P_Ratio___eq__ ["self", "value"] (spRatEq (He.ga K "Ratio")) := ok_Ratio_eq F_P_Ratio___eq__ T (⟨own_Ratio, He.noat_ok (c.fact 65 (f := .noat "Ratio" "top") rfl), He.noat_ok (c.fact 66 (f := .noat "Ratio" "bottom") rfl), He.noat_ok (c.fact 67 (f := .noat "Ratio" "sign") rfl)⟩ : RatioK K (He.ga K "Ratio")) (He.glo_ok X G (c.fact 63 (f := .glo "Ratio") rfl)) C_P_is_integer
  have OK_P_Four___bool__ : FnOk P w K mg base CX0 1 _ fd_P_Four___bool__ ["self"] (spFourBool (He.ga K "Four") (He.ga K "Ratio")) := ok_Four_bool F_P_Four___bool__ T (⟨own_Four, He.noat_ok (c.fact 71 (f := .noat "Four" "algebra") rfl), He.noat_ok (c.fact 72 (f := .noat "Four" "entries") rfl), He.noat_ok (c.fact 73 (f := .noat "Four" "bottom") rfl), He.noat_ok (c.fact 74 (f := .noat "Four" "trace") rfl), He.noat_ok (c.fact 75 (f := .noat "Four" "norm") rfl), He.noat_ok (c.fact 76 (f := .noat "Four" "is_ratio") rfl)⟩ : FourK K (He.ga K "Four"))
  have C_L_right : Cal P w K mg base 9 "_law_right" ["_law_vial_here"] spRight := ⟨_, fd_L_right, ok_right F_L_right T (⟨own_Four, He.noat_ok (c.fact 71 (f := .noat "Four" "algebra") rfl), He.noat_ok (c.fact 72 (f := .noat "Four" "entries") rfl), He.noat_ok (c.fact 73 (f := .noat "Four" "bottom") rfl), He.noat_ok (c.fact 74 (f := .noat "Four" "trace") rfl), He.noat_ok (c.fact 75 (f := .noat "Four" "norm") rfl), He.noat_ok (c.fact 76 (f := .noat "Four" "is_ratio") rfl)⟩ : FourK K (He.ga K "Four")) C_L_world C_L_near C_L_is_own C_P_is_point (⟨_, fd_P_Algebra___init__, [], OK_P_Algebra___init__, He.mkr_ok (c.fact 77 (f := .mkr "Algebra") rfl), (He.glo_ok X G (c.fact 55 (f := .glo "Algebra") rfl)), F_P_Algebra___init__.bindsN fun _ _ _ _ _ _ us hl => match us, hl with | [_, _, _], _ => rfl, .nil⟩ : CalC P w K mg base 6 "Algebra" (He.ga K "Algebra") ["self", "a", "b"] [] (spAlgInit (He.ga K "Algebra"))) (⟨_, fd_P_Four___init__, us_P_Four___init___2, OK_P_Four___init__, He.mkr_ok (c.fact 78 (f := .mkr "Four") rfl), (He.glo_ok X G (c.fact 69 (f := .glo "Four") rfl)), bd_P_Four___init___2, dv_P_Four___init___2⟩ : CalC P w K mg base 7 "Four" (He.ga K "Four") ["self", "algebra", "entries", "bottom"] [.int 1] (spFourInit (He.ga K "Four") (He.ga K "Ratio") (He.ga K "Algebra"))) (⟨_, fd_P_Ratio___init__, us_P_Ratio___init___1, OK_P_Ratio___init__, He.mkr_ok (c.fact 68 (f := .mkr "Ratio") rfl), (He.glo_ok X G (c.fact 63 (f := .glo "Ratio") rfl)), bd_P_Ratio___init___1, dv_P_Ratio___init___1⟩ : CalC P w K mg base 3 "Ratio" (He.ga K "Ratio") ["self", "top", "bottom"] [.int 1] (spRatInit (He.ga K "Ratio"))) own_Ratio (⟨_, fd_P_Ratio___eq__, OK_P_Ratio___eq__, He.meth_ok (c.fact 79 (f := .meth "Ratio" "__eq__") rfl), F_P_Ratio___eq__.bindsN fun _ _ _ _ _ _ us hl => match us, hl with | [_, _], _ => rfl⟩ : CalM P w K mg base 2 "__eq__" (He.ga K "Ratio") ["self", "value"] (spRatEq (He.ga K "Ratio"))) (⟨_, fd_P_Four___bool__, OK_P_Four___bool__, He.meth_ok (c.fact 80 (f := .meth "Four" "__bool__") rfl), F_P_Four___bool__.bindsN fun _ _ _ _ _ _ us hl => match us, hl with | [_], _ => rfl⟩ : CalM P w K mg base 1 "__bool__" (He.ga K "Four") ["self"] (spFourBool (He.ga K "Four") (He.ga K "Ratio"))), g_L_right, F_L_right.kp, F_L_right.bindsN fun _ _ _ _ _ _ us hl => match us, hl with | [_], _ => rfl⟩
  exact ok_law F_L_law T C_L_vial C_L_right C_P_is_point
end Sf
open PySem PySem.W PySem.Calls PyProof.Rows
set_option maxHeartbeats 0 in
theorem PySem.Challenge.cw_signfours_k16_whole_points_judged_holds : PySem.Challenge.rw_signfours_k16_whole_points_judged.Holds := by
  w_on; o_law
  refine HandSHeadRun.head_imp (r := OpenLaw.row PySem.Challenge.rw_signfours_k16_whole_points_judged) (q := view (OpenLaw.row PySem.Challenge.rw_signfours_k16_whole_points_judged).prog [0, 69]) (H := Sf.hk) (ob := Sf.ob) (M := 20000) (loose := Sf.loose) (d := HandSHeadRun.topDef (OpenLaw.row PySem.Challenge.rw_signfours_k16_whole_points_judged).prog 69) (kwd := []) Sf.ob_eq
    Sf.run (by kernel_rfl) (by kernel_rfl) (by kernel_rfl) (by rfl) (by first | assumption | decide +kernel) (by decide +kernel) ⟨rfl, rfl, rfl, rfl, rfl, by decide +kernel⟩ ?hw ?hc
  case hw => w_witness2
  case hc =>
    refine L2.walk_ofE (l := PySem.Challenge.rw_signfours_k16_whole_points_judged) (n := 63) (k := 10) (x := "_law_script") (CX := L2.CX0) rfl (by decide) (by kernel_rfl) ⟨rfl, by decide, by decide⟩ ?F (fun _ _ _ _ z => z)
    intro w mg fa h Y G hmg0
    obtain ⟨K, KX, c, z⟩ := Y
    have hmg : mg ("law" : PySem.Str) = some (.ref fa) := by
      have e : (HandSHeadRun.topDef (OpenLaw.row PySem.Challenge.rw_signfours_k16_whole_points_judged).prog 69).name = ("law" : PySem.Str) := by kernel_rfl
      rw [← e]
      exact hmg0
    obtain ⟨fd, hb, hF⟩ := Sf.facts (P := (PySem.Challenge.rw_signfours_k16_whole_points_judged).prog) (w := w) KX G hmg c z
    exact ⟨K, fd, Sf.spLaw K, KX, hb, fun H a ns hl _ hS => ⟨a, ns, rfl, hS, hl, fun _ => rfl⟩, hF⟩
