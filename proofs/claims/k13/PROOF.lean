import PyProof.Rows.All
import Wide.All
import OpenK.AllK
import Wide.FinOn
import KE.KStateDown
import Lean
import HandS.Base
import HandS.Call
import HandS.List
import HandS.Comp
import HandS.Ends
import HandS.Evl
import HandS.Dict
import HandS.Iter
import HandS.Text
import HandS.More
import HandS.DictComp
import HandS.Words
import HandS.WordsList
import HandS.WordsExc
import HandS.WordsDict
import HandS.Defaults
import HandS.IsInst
import HandS.Small
import HandS.Wide
import HandS.Style
import HandS.SortInts
import HandS.Set
import HandS.SetFor
import HandS.Strs
import HandS.Star
import HandS.Head0
import HandS.Head1
import HandS.Head2
import HandS.Head3
import HandS.HeadEnd
import HandS.HeadHook1
import HandS.HeadHook2
import KE.KOpsOwn
import KE.GoesMore
import KE.KFmtOwn
import HandS.OwnEq
import HandS.Records
import HandS.Gcd
import HandS.TupAny
import HandS.Walk
import HandS.Zip
import HandS.Zip0
import KE.KDictZip
import PyProof.CollectWalk
import PyProof.ListNew
import HandS.FStr
import HandS.StrMore
import HandS.Flow
import HandS.RaiseMore
import HandS.Exc
import HandS.TryMany
import HandS.Lambda
import PySem.Challenge.RW_signfours_k13_whole_tables_that_are_turn
set_option Elab.async false
set_option linter.all false
set_option maxRecDepth 100000
set_option maxHeartbeats 4000000
namespace Sf
open PySem PySem.Spec PyProof.Rows L2
/-- a def of the text that lets no exception out, ready to be called -/
structure Cal (P : Program) (w : World) (K : PySem.W.Frag) (mg : Str → Option Value) (base : Heap) (k : Nat) (x : Str) (ps : List Str) (sp : Sp) where
  f : Addr
  fd : FuncData
  ok : FnOk P w K mg base CX0 k f fd ps sp
  g : mg x = some (.ref f)
  kp : PySem.W.keepIn K (.ref f) = true
  b : Binds K fd ps []
section
variable {X : Cx} {k : Nat} {x : Str} {ps : List Str} {sp : Sp} {e : Expr} {es : List Expr} {t : TA} {p pos : Pos}
theorem pe_cal (C : Cal X.prog X.w X.K X.mg X.base k x ps sp) (hr : Room k X.A) (ha : PA X (e :: es) t) (hg : Gl X x := by rfl) (hdb : (x == ("__debug__" : Str)) = false := by decide)
    (he : starEach (e :: es) X.env = (false, eval e X.env) :: starEach es X.env := by rfl) (hpl : (backTo pos (starEach es X.env)).any (·.1) = false := by rfl) :
    PE X (.Call (.Name x p) (e :: es) [] pos) (tCall sp [] E0 t) :=
  pe_call C.ok hr hg C.g C.kp C.b .nil pass0 ha hdb he hpl
theorem pe_cal0 (C : Cal X.prog X.w X.K X.mg X.base k x ps sp) (hr : Room k X.A) (hg : Gl X x := by rfl) (hdb : (x == ("__debug__" : Str)) = false := by decide) :
    PE X (.Call (.Name x p) [] [] pos) (tCall sp [] E0 tNil) :=
  pe_call0 C.ok hr hg C.g C.kp C.b .nil pass0 hdb
/-- a power of any size that the machine's line takes -/
def CPowW (i j : Int) : Prop := 0 ≤ j ∧ (Builtin.Int.intBits i : Int) * j ≤ 2 ^ 27
theorem op_powW : OpR X (binaryOp .Pow) (rI CPowW fun i j => .int (i ^ j.toNat)) := opI fun _ _ _ _ _ _ _ hc q => pow_int hc.1 hc.2 q
/-- a dict that a call has just made, frozen from here on -/
theorem pe_frz {e : Expr} {te : TE} (h : PE X e te) : PE X e (fun σ H Q => te σ H fun x H1 => ∃ d u, x = .ref d ∧ H1 d = some u ∧ Mut (some u) ∧ ∀ od, Q x (upd H1 d (.frz od u))) := by
  refine ⟨fun pins s σ H Q I hw => ?_⟩
  refine thn (h.run pins s σ _ _ I hw) fun v s1 ⟨y, H1, I1, r, d, u, e1, hd, mu, q⟩ => ?_
  obtain ⟨od, I2⟩ := I1.lock hd mu
  exact ⟨y, _, I2, r, q od⟩
end
section
variable {X : Cx} {e : Expr}
/-- an expression, with a word behind it: what follows is shown once -/
def tMid (t : TE) : TE := fun σ H Q => ∃ Mid : V → Hp → Prop, t σ H Mid ∧ ∀ v H', Mid v H' → Q v H'
theorem pe_cut {t : TE} (h : PE X e t) : PE X e (tMid t) :=
  ⟨fun pins s σ H Q I ⟨Mid, hm, hu⟩ => thn (h.run pins s σ H Mid I hm) fun u s1 ⟨x, H1, I1, r, q⟩ => ⟨x, H1, I1, r, hu x H1 q⟩⟩
def tMidT (t : TT) : TT := fun σ H Q => ∃ Mid : Bool → Hp → Prop, t σ H Mid ∧ ∀ v H', Mid v H' → Q v H'
theorem pt_mid {t : TT} (h : PT X e t) : PT X e (tMidT t) :=
  ⟨fun pins s σ H Q I ⟨Mid, hm, hu⟩ => thn (h.run pins s σ H Mid I hm) fun b s1 ⟨H1, I1, q⟩ => ⟨H1, I1, hu b H1 q⟩⟩
end
theorem same_upd {H : Hp} {p : Addr} {o : HO} (h : H p = none) : Same H (upd H p o) := fun b x e => by
  rw [upd_ne (ne_of_none e h)]
  exact e
theorem CMulW.of {i j : Int} (hi : i.natAbs < 2 ^ 3000) (hj : j.natAbs < 2 ^ 3000) : CMulW i j := wide_mul hi hj (by decide) (by decide) (by decide)
theorem CDivW.of {i j : Int} (h0 : 0 < j) (hj : j.natAbs < 2 ^ 3000) : CDivW i j := wide_div h0 hj (by decide) (by decide)
theorem two3000 : (10 : Nat) ^ 600 < 2 ^ 3000 := by decide +kernel
end Sf
namespace Sf
open PySem PySem.Spec PyProof.Rows L2
/-- an if whose test is a decision -/
theorem ifd {p : Prop} [Decidable p] {A B : Prop} (h1 : p → A) (h2 : ¬ p → B) : if decide p = true then A else B := by
  by_cases h : p
  · rw [if_pos (decide_eq_true h)]; exact h1 h
  · rw [if_neg (by simpa using h)]; exact h2 h
theorem ifn {p : Prop} [Decidable p] {A B : Prop} (h1 : ¬ p → A) (h2 : p → B) : if (!decide p) = true then A else B := by
  by_cases h : p
  · rw [if_neg (by simpa using h)]; exact h2 h
  · rw [if_pos (by simpa using h)]; exact h1 h
theorem ifb {b : Bool} {A B : Prop} (h1 : b = true → A) (h2 : b = false → B) : if b = true then A else B := by
  cases b with
  | true => rw [if_pos rfl]; exact h1 rfl
  | false => rw [if_neg Bool.false_ne_true]; exact h2 rfl
end Sf
namespace Sf
open PySem PySem.Spec PyProof.Rows L2
/-! the head's facts and one more Bool -/
abbrev AlO : Type := He.AlD × Bool
/-- what is looked at: the module's names, what they name, so on; a code object's own things are left out -/
def refsN (o : Obj) : List Addr := match o.data with
  | .dict es _ => es.toList.flatMap fun e => He.refV e.val
  | .func fd => He.refV fd.code ++ He.refV fd.defaults
  | .cls cd => cd.ns :: cd.mro.flatMap He.refV
  | _ => []
def stepN (g : Addr → Option Obj) (as : List Addr) : List Addr := as.flatMap fun a => match g a with
  | some o => refsN o
  | none => []
def asN (g : Addr → Option Obj) : Nat → List Addr → List Addr
  | 0, as => as
  | n + 1, as => as ++ asN g n (stepN g as)
def obsO (n : Nat) (fa : List He.Fa) (fn : List He.DefD) (ex : PySem.W.Frag → Bool) (g : Addr → Option Obj) : AlO := (He.obsD fa fn (He.frG g (asN g n [mainGlobals])), ex (He.frG g (asN g n [mainGlobals])))
def hookO (n : Nat) (fa : List He.Fa) (fn : List He.DefD) (ex : PySem.W.Frag → Bool) : PySem.W.Hook where
  α := AlO
  obs := fun s => obsO n fa fn ex s.heap.get?
  val := fun _ => (He.valD fn, true)
  says := fun _ h => ∃ K : PySem.W.Frag, K.In h ∧ He.SaysD fa fn K ∧ ex K = true
  of := fun _ _ e => ⟨_, He.frG_in, congrArg (fun z : AlO => z.1) e, congrArg (fun z : AlO => z.2) e⟩
  keeps := fun _ _ _ ⟨K, hK, c⟩ k => ⟨K, PySem.W.Frag.In.keeps hK k, c⟩
theorem obsO_eq {n : Nat} {fa : List He.Fa} {fn : List He.DefD} {ex : PySem.W.Frag → Bool} {g : Addr → Option Obj} {s : Shared} (h : ∀ a, g a = s.heap.get? a) : obsO n fa fn ex g = (hookO n fa fn ex).obs s := by
  have e : g = s.heap.get? := funext h
  rw [e] <;> rfl
def ownB (K : PySem.W.Frag) (x : Str) : Bool := PySem.W.selfFirst K (He.ga K x) && (decide (PySem.W.subIn K (.type "int") (.ref (He.ga K x)) = some false) && (He.eqO (PySem.W.findIn K (.ref (He.ga K x)) "__ne__") (some (some (.builtin "object.__ne__"))) &&
  (decide (PySem.W.mroIn K (He.ga K x) (.type "object") = some true) && (He.eqO (PySem.W.findIn K (.ref (He.ga K x)) "__class__") (some (some (.builtin "object.__class__"))) && (He.eqO (PySem.W.specialIn K (.builtin "object.__class__") "__get__") (some (some (.builtin "getset_descriptor.__get__"))) &&
  (decide (PySem.W.takesIn K (.builtin "object.__class__") = some true) && (decide (PySem.W.kitOne K (.ref (He.ga K x)) (.ref (He.ga K x)) = some true) && decide (PySem.W.kitOne K (.type "int") (.ref (He.ga K x)) = some false))))))))
/-- a module's name that holds a built-in function -/
def gblB (K : PySem.W.Frag) (x : Str) (id : String) : Bool := He.eqO (PySem.W.nsIn K mainGlobals x) (some (some (.builtin id)))
theorem gblB_ok {K : PySem.W.Frag} {h : Heap} {mg : Str → Option Value} (X : K.In h) (G : h.Ns mainGlobals mg) {x : Str} {id : String} (c : gblB K x id = true) : mg x = some (.builtin id) := PySem.W.mg_of X G (He.eqO_ok c)
end Sf

namespace Sf
open PySem PySem.Spec PyProof.Rows L2
def top (i : Nat) : Stmt := PySem.Challenge.pw_signfours_k13_whole_tables_that_are_turn.main.body.getD i (.Pass ⟨0, 0, 0, 0⟩)
abbrev s_P__wall : Stmt := top 1
theorem sc_P__wall : FnScope ["k"] ["k"] (defScope s_P__wall) := ⟨rfl, rfl, rfl, by decide +kernel, rfl, by decide +kernel, by decide +kernel⟩
abbrev s_P_is_integer : Stmt := top 4
theorem sc_P_is_integer : FnScope ["value"] ["value"] (defScope s_P_is_integer) := ⟨rfl, rfl, rfl, by decide +kernel, rfl, by decide +kernel, by decide +kernel⟩
abbrev s_P_is_passed : Stmt := top 5
theorem sc_P_is_passed : FnScope ["value"] ["value"] (defScope s_P_is_passed) := ⟨rfl, rfl, rfl, by decide +kernel, rfl, by decide +kernel, by decide +kernel⟩
abbrev s_P_ParseError___init__ : Stmt := inClass (top 12) 0
theorem sc_P_ParseError___init__ : FnScope ["self", "spot"] ["self", "spot"] (defScope s_P_ParseError___init__) := ⟨rfl, rfl, rfl, by decide +kernel, rfl, by decide +kernel, by decide +kernel⟩
abbrev s_P_InvalidNumber___init__ : Stmt := inClass (top 13) 0
theorem sc_P_InvalidNumber___init__ : FnScope ["self", "given"] ["self", "given"] (defScope s_P_InvalidNumber___init__) := ⟨rfl, rfl, rfl, by decide +kernel, rfl, by decide +kernel, by decide +kernel⟩
abbrev s_P_Refused___init__ : Stmt := inClass (top 14) 0
theorem sc_P_Refused___init__ : FnScope ["self", "reason"] ["self", "reason"] (defScope s_P_Refused___init__) := ⟨rfl, rfl, rfl, by decide +kernel, rfl, by decide +kernel, by decide +kernel⟩
abbrev s_P_Ratio___init__ : Stmt := inClass (top 16) 0
theorem sc_P_Ratio___init__ : FnScope ["self", "top", "bottom"] ["self", "top", "bottom"] (defScope s_P_Ratio___init__) := ⟨rfl, rfl, rfl, by decide +kernel, rfl, by decide +kernel, by decide +kernel⟩
abbrev s_P_Ratio_read : Stmt := inClass (top 16) 1
theorem sc_P_Ratio_read : FnScope ["text", "top", "slash", "bottom", "found"] ["text"] (defScope s_P_Ratio_read) := ⟨rfl, rfl, rfl, by decide +kernel, rfl, by decide +kernel, by decide +kernel⟩
abbrev s_P_Ratio_over : Stmt := inClass (top 16) 2
theorem sc_P_Ratio_over : FnScope ["self", "other", "top", "bottom"] ["self", "other"] (defScope s_P_Ratio_over) := ⟨rfl, rfl, rfl, by decide +kernel, rfl, by decide +kernel, by decide +kernel⟩
abbrev s_P_Ratio_compared : Stmt := inClass (top 16) 3
theorem sc_P_Ratio_compared : FnScope ["self", "other"] ["self", "other"] (defScope s_P_Ratio_compared) := ⟨rfl, rfl, rfl, by decide +kernel, rfl, by decide +kernel, by decide +kernel⟩
abbrev s_P_Ratio___add__ : Stmt := inClass (top 16) 4
theorem sc_P_Ratio___add__ : FnScope ["self", "other", "top", "bottom"] ["self", "other"] (defScope s_P_Ratio___add__) := ⟨rfl, rfl, rfl, by decide +kernel, rfl, by decide +kernel, by decide +kernel⟩
abbrev s_P_Ratio___sub__ : Stmt := inClass (top 16) 5
theorem sc_P_Ratio___sub__ : FnScope ["self", "other", "top", "bottom"] ["self", "other"] (defScope s_P_Ratio___sub__) := ⟨rfl, rfl, rfl, by decide +kernel, rfl, by decide +kernel, by decide +kernel⟩
abbrev s_P_Ratio___mul__ : Stmt := inClass (top 16) 6
theorem sc_P_Ratio___mul__ : FnScope ["self", "other", "top", "bottom"] ["self", "other"] (defScope s_P_Ratio___mul__) := ⟨rfl, rfl, rfl, by decide +kernel, rfl, by decide +kernel, by decide +kernel⟩
abbrev s_P_Ratio___neg__ : Stmt := inClass (top 16) 7
theorem sc_P_Ratio___neg__ : FnScope ["self"] ["self"] (defScope s_P_Ratio___neg__) := ⟨rfl, rfl, rfl, by decide +kernel, rfl, by decide +kernel, by decide +kernel⟩
abbrev s_P_Ratio___eq__ : Stmt := inClass (top 16) 8
theorem sc_P_Ratio___eq__ : FnScope ["self", "value"] ["self", "value"] (defScope s_P_Ratio___eq__) := ⟨rfl, rfl, rfl, by decide +kernel, rfl, by decide +kernel, by decide +kernel⟩
abbrev s_P_Ratio___bool__ : Stmt := inClass (top 16) 9
theorem sc_P_Ratio___bool__ : FnScope ["self"] ["self"] (defScope s_P_Ratio___bool__) := ⟨rfl, rfl, rfl, by decide +kernel, rfl, by decide +kernel, by decide +kernel⟩
abbrev s_P_Ratio___str__ : Stmt := inClass (top 16) 10
theorem sc_P_Ratio___str__ : FnScope ["self"] ["self"] (defScope s_P_Ratio___str__) := ⟨rfl, rfl, rfl, by decide +kernel, rfl, by decide +kernel, by decide +kernel⟩
abbrev s_P_made_ratio : Stmt := top 17
theorem sc_P_made_ratio : FnScope ["top", "bottom", "terms", "made"] ["top", "bottom"] (defScope s_P_made_ratio) := ⟨rfl, rfl, rfl, by decide +kernel, rfl, by decide +kernel, by decide +kernel⟩
abbrev s_P_lowest_terms : Stmt := top 18
theorem sc_P_lowest_terms : FnScope ["top", "bottom", "common"] ["top", "bottom"] (defScope s_P_lowest_terms) := ⟨rfl, rfl, rfl, by decide +kernel, rfl, by decide +kernel, by decide +kernel⟩
abbrev s_P_sign_of : Stmt := top 19
theorem sc_P_sign_of : FnScope ["number"] ["number"] (defScope s_P_sign_of) := ⟨rfl, rfl, rfl, by decide +kernel, rfl, by decide +kernel, by decide +kernel⟩
abbrev s_P_is_fraction : Stmt := top 20
theorem sc_P_is_fraction : FnScope ["value"] ["value"] (defScope s_P_is_fraction) := ⟨rfl, rfl, rfl, by decide +kernel, rfl, by decide +kernel, by decide +kernel⟩
abbrev s_P_check_ratio : Stmt := top 21
theorem sc_P_check_ratio : FnScope ["value"] ["value"] (defScope s_P_check_ratio) := ⟨rfl, rfl, rfl, by decide +kernel, rfl, by decide +kernel, by decide +kernel⟩
abbrev s_P_terms_of : Stmt := top 22
theorem sc_P_terms_of : FnScope ["ratio"] ["ratio"] (defScope s_P_terms_of) := ⟨rfl, rfl, rfl, by decide +kernel, rfl, by decide +kernel, by decide +kernel⟩
abbrev s_P_is_digits : Stmt := top 23
theorem sc_P_is_digits : FnScope ["word"] ["word"] (defScope s_P_is_digits) := ⟨rfl, rfl, rfl, by decide +kernel, rfl, by decide +kernel, by decide +kernel⟩
abbrev s_P_factors : Stmt := top 26
theorem sc_P_factors : FnScope ["number"] ["number"] (defScope s_P_factors) := ⟨rfl, rfl, rfl, by decide +kernel, rfl, by decide +kernel, by decide +kernel⟩
abbrev s_P_prime_powers : Stmt := top 27
theorem sc_P_prime_powers : FnScope ["number", "rest", "found", "divisor"] ["number"] (defScope s_P_prime_powers) := ⟨rfl, rfl, rfl, by decide +kernel, rfl, by decide +kernel, by decide +kernel⟩
abbrev s_P_check_number : Stmt := top 28
theorem sc_P_check_number : FnScope ["value"] ["value"] (defScope s_P_check_number) := ⟨rfl, rfl, rfl, by decide +kernel, rfl, by decide +kernel, by decide +kernel⟩
abbrev s_P_next_divisor : Stmt := top 29
theorem sc_P_next_divisor : FnScope ["divisor"] ["divisor"] (defScope s_P_next_divisor) := ⟨rfl, rfl, rfl, by decide +kernel, rfl, by decide +kernel, by decide +kernel⟩
abbrev s_P_stripped : Stmt := top 30
theorem sc_P_stripped : FnScope ["number", "prime", "many"] ["number", "prime"] (defScope s_P_stripped) := ⟨rfl, rfl, rfl, by decide +kernel, rfl, by decide +kernel, by decide +kernel⟩
abbrev s_P_rest_sign : Stmt := top 31
theorem sc_P_rest_sign : FnScope ["number", "prime"] ["number", "prime"] (defScope s_P_rest_sign) := ⟨rfl, rfl, rfl, by decide +kernel, rfl, by decide +kernel, by decide +kernel⟩
abbrev s_P_power_modulo : Stmt := top 32
theorem sc_P_power_modulo : FnScope ["number", "many", "modulus", "made", "square"] ["number", "many", "modulus"] (defScope s_P_power_modulo) := ⟨rfl, rfl, rfl, by decide +kernel, rfl, by decide +kernel, by decide +kernel⟩
abbrev s_P_signed_places : Stmt := top 34
theorem sc_P_signed_places : FnScope ["a", "b", "divisors", "place"] ["a", "b"] (defScope s_P_signed_places) := ⟨rfl, rfl, rfl, by decide +kernel, rfl, by decide +kernel, by decide +kernel⟩
abbrev s_P_sign : Stmt := top 35
theorem sc_P_sign : FnScope ["a", "b", "place"] ["a", "b", "place"] (defScope s_P_sign) := ⟨rfl, rfl, rfl, by decide +kernel, rfl, by decide +kernel, by decide +kernel⟩
abbrev s_P_sign_at_two : Stmt := top 36
theorem sc_P_sign_at_two : FnScope ["a", "b", "s", "one", "t", "other", "told"] ["a", "b"] (defScope s_P_sign_at_two) := ⟨rfl, rfl, rfl, by decide +kernel, rfl, by decide +kernel, by decide +kernel⟩
abbrev s_P_quarter : Stmt := top 37
theorem sc_P_quarter : FnScope ["unit"] ["unit"] (defScope s_P_quarter) := ⟨rfl, rfl, rfl, by decide +kernel, rfl, by decide +kernel, by decide +kernel⟩
abbrev s_P_eighth : Stmt := top 38
theorem sc_P_eighth : FnScope ["unit"] ["unit"] (defScope s_P_eighth) := ⟨rfl, rfl, rfl, by decide +kernel, rfl, by decide +kernel, by decide +kernel⟩
abbrev s_P_sign_at_odd : Stmt := top 39
theorem sc_P_sign_at_odd : FnScope ["a", "b", "prime", "s", "one", "t", "other", "told"] ["a", "b", "prime"] (defScope s_P_sign_at_odd) := ⟨rfl, rfl, rfl, by decide +kernel, rfl, by decide +kernel, by decide +kernel⟩
abbrev s_P_Algebra___init__ : Stmt := inClass (top 43) 0
theorem sc_P_Algebra___init__ : FnScope ["self", "a", "b"] ["self", "a", "b"] (defScope s_P_Algebra___init__) := ⟨rfl, rfl, rfl, by decide +kernel, rfl, by decide +kernel, by decide +kernel⟩
abbrev s_P_Algebra_basis : Stmt := inClass (top 43) 1
theorem sc_P_Algebra_basis : FnScope ["self"] ["self"] (defScope s_P_Algebra_basis) := ⟨rfl, rfl, rfl, by decide +kernel, rfl, by decide +kernel, by decide +kernel⟩
abbrev s_P_Algebra___eq__ : Stmt := inClass (top 43) 2
theorem sc_P_Algebra___eq__ : FnScope ["self", "value"] ["self", "value"] (defScope s_P_Algebra___eq__) := ⟨rfl, rfl, rfl, by decide +kernel, rfl, by decide +kernel, by decide +kernel⟩
abbrev s_P_Algebra___str__ : Stmt := inClass (top 43) 3
theorem sc_P_Algebra___str__ : FnScope ["self"] ["self"] (defScope s_P_Algebra___str__) := ⟨rfl, rfl, rfl, by decide +kernel, rfl, by decide +kernel, by decide +kernel⟩
abbrev s_P_Four___init__ : Stmt := inClass (top 44) 0
theorem sc_P_Four___init__ : FnScope ["self", "algebra", "entries", "bottom"] ["self", "algebra", "entries", "bottom"] (defScope s_P_Four___init__) := ⟨rfl, rfl, rfl, by decide +kernel, rfl, by decide +kernel, by decide +kernel⟩
abbrev s_P_Four_mate : Stmt := inClass (top 44) 1
theorem sc_P_Four_mate : FnScope ["self"] ["self"] (defScope s_P_Four_mate) := ⟨rfl, rfl, rfl, by decide +kernel, rfl, by decide +kernel, by decide +kernel⟩
abbrev s_P_Four_inverse : Stmt := inClass (top 44) 2
theorem sc_P_Four_inverse : FnScope ["self", "entries", "part"] ["self"] (defScope s_P_Four_inverse) := ⟨rfl, rfl, rfl, by decide +kernel, rfl, by decide +kernel, by decide +kernel⟩
abbrev s_P_Four_power : Stmt := inClass (top 44) 3
theorem sc_P_Four_power : FnScope ["self", "many", "made", "under", "square", "below"] ["self", "many"] (defScope s_P_Four_power) := ⟨rfl, rfl, rfl, by decide +kernel, rfl, by decide +kernel, by decide +kernel⟩
abbrev s_P_Four_scaled : Stmt := inClass (top 44) 4
theorem sc_P_Four_scaled : FnScope ["self", "ratio", "top", "bottom", "part"] ["self", "ratio"] (defScope s_P_Four_scaled) := ⟨rfl, rfl, rfl, by decide +kernel, rfl, by decide +kernel, by decide +kernel⟩
abbrev s_P_Four___add__ : Stmt := inClass (top 44) 5
theorem sc_P_Four___add__ : FnScope ["self", "other", "entries", "one", "two"] ["self", "other"] (defScope s_P_Four___add__) := ⟨rfl, rfl, rfl, by decide +kernel, rfl, by decide +kernel, by decide +kernel⟩
abbrev s_P_Four___sub__ : Stmt := inClass (top 44) 6
theorem sc_P_Four___sub__ : FnScope ["self", "other"] ["self", "other"] (defScope s_P_Four___sub__) := ⟨rfl, rfl, rfl, by decide +kernel, rfl, by decide +kernel, by decide +kernel⟩
abbrev s_P_Four___mul__ : Stmt := inClass (top 44) 7
theorem sc_P_Four___mul__ : FnScope ["self", "other", "entries"] ["self", "other"] (defScope s_P_Four___mul__) := ⟨rfl, rfl, rfl, by decide +kernel, rfl, by decide +kernel, by decide +kernel⟩
abbrev s_P_Four___neg__ : Stmt := inClass (top 44) 8
theorem sc_P_Four___neg__ : FnScope ["self", "part"] ["self"] (defScope s_P_Four___neg__) := ⟨rfl, rfl, rfl, by decide +kernel, rfl, by decide +kernel, by decide +kernel⟩
abbrev s_P_Four___eq__ : Stmt := inClass (top 44) 9
theorem sc_P_Four___eq__ : FnScope ["self", "value"] ["self", "value"] (defScope s_P_Four___eq__) := ⟨rfl, rfl, rfl, by decide +kernel, rfl, by decide +kernel, by decide +kernel⟩
abbrev s_P_Four___bool__ : Stmt := inClass (top 44) 10
theorem sc_P_Four___bool__ : FnScope ["self"] ["self"] (defScope s_P_Four___bool__) := ⟨rfl, rfl, rfl, by decide +kernel, rfl, by decide +kernel, by decide +kernel⟩
abbrev s_P_Four___str__ : Stmt := inClass (top 44) 11
theorem sc_P_Four___str__ : FnScope ["self"] ["self"] (defScope s_P_Four___str__) := ⟨rfl, rfl, rfl, by decide +kernel, rfl, by decide +kernel, by decide +kernel⟩
abbrev s_P_made_four : Stmt := top 45
theorem sc_P_made_four : FnScope ["algebra", "entries", "bottom", "lowest", "made"] ["algebra", "entries", "bottom"] (defScope s_P_made_four) := ⟨rfl, rfl, rfl, by decide +kernel, rfl, by decide +kernel, by decide +kernel⟩
abbrev s_P_check_algebra : Stmt := top 46
theorem sc_P_check_algebra : FnScope ["value"] ["value"] (defScope s_P_check_algebra) := ⟨rfl, rfl, rfl, by decide +kernel, rfl, by decide +kernel, by decide +kernel⟩
abbrev s_P_check_four : Stmt := top 47
theorem sc_P_check_four : FnScope ["value"] ["value"] (defScope s_P_check_four) := ⟨rfl, rfl, rfl, by decide +kernel, rfl, by decide +kernel, by decide +kernel⟩
abbrev s_P_check_fours : Stmt := top 48
theorem sc_P_check_fours : FnScope ["one", "other"] ["one", "other"] (defScope s_P_check_fours) := ⟨rfl, rfl, rfl, by decide +kernel, rfl, by decide +kernel, by decide +kernel⟩
abbrev s_P_check_operands : Stmt := top 49
theorem sc_P_check_operands : FnScope ["one", "other"] ["one", "other"] (defScope s_P_check_operands) := ⟨rfl, rfl, rfl, by decide +kernel, rfl, by decide +kernel, by decide +kernel⟩
abbrev s_P_is_passed_entries : Stmt := top 50
theorem sc_P_is_passed_entries : FnScope ["value", "part"] ["value"] (defScope s_P_is_passed_entries) := ⟨rfl, rfl, rfl, by decide +kernel, rfl, by decide +kernel, by decide +kernel⟩
abbrev s_P_product_of_primes : Stmt := top 51
theorem sc_P_product_of_primes : FnScope ["places", "made", "place"] ["places"] (defScope s_P_product_of_primes) := ⟨rfl, rfl, rfl, by decide +kernel, rfl, by decide +kernel, by decide +kernel⟩
abbrev s_P_lowest_entries : Stmt := top 52
theorem sc_P_lowest_entries : FnScope ["entries", "bottom", "w", "x", "y", "z", "common"] ["entries", "bottom"] (defScope s_P_lowest_entries) := ⟨rfl, rfl, rfl, by decide +kernel, rfl, by decide +kernel, by decide +kernel⟩
abbrev s_P_mate_entries : Stmt := top 53
theorem sc_P_mate_entries : FnScope ["entries", "w", "x", "y", "z"] ["entries"] (defScope s_P_mate_entries) := ⟨rfl, rfl, rfl, by decide +kernel, rfl, by decide +kernel, by decide +kernel⟩
abbrev s_P_norm_of : Stmt := top 54
theorem sc_P_norm_of : FnScope ["algebra", "entries", "bottom", "w", "x", "y", "z", "top"] ["algebra", "entries", "bottom"] (defScope s_P_norm_of) := ⟨rfl, rfl, rfl, by decide +kernel, rfl, by decide +kernel, by decide +kernel⟩
abbrev s_P_product_entries : Stmt := top 55
theorem sc_P_product_entries : FnScope ["algebra", "one", "other", "a", "b", "w", "x", "y", "z", "s", "t", "u", "v"] ["algebra", "one", "other"] (defScope s_P_product_entries) := ⟨rfl, rfl, rfl, by decide +kernel, rfl, by decide +kernel, by decide +kernel⟩
abbrev s_P_written_terms : Stmt := top 56
theorem sc_P_written_terms : FnScope ["entries", "terms", "size", "letter"] ["entries"] (defScope s_P_written_terms) := ⟨rfl, rfl, rfl, by decide +kernel, rfl, by decide +kernel, by decide +kernel⟩
abbrev s_P_written_term : Stmt := top 57
theorem sc_P_written_term : FnScope ["size", "letter", "sign", "digits"] ["size", "letter"] (defScope s_P_written_term) := ⟨rfl, rfl, rfl, by decide +kernel, rfl, by decide +kernel, by decide +kernel⟩
abbrev s_P_turned : Stmt := top 59
theorem sc_P_turned : FnScope ["one", "other"] ["one", "other"] (defScope s_P_turned) := ⟨rfl, rfl, rfl, by decide +kernel, rfl, by decide +kernel, by decide +kernel⟩
abbrev s_P_turn_of : Stmt := top 60
theorem sc_P_turn_of : FnScope ["four", "columns", "unit", "column", "at"] ["four"] (defScope s_P_turn_of) := ⟨rfl, rfl, rfl, by decide +kernel, rfl, by decide +kernel, by decide +kernel⟩
abbrev s_P_is_turn : Stmt := top 61
theorem sc_P_is_turn : FnScope ["algebra", "value", "first", "second", "third", "one"] ["algebra", "value"] (defScope s_P_is_turn) := ⟨rfl, rfl, rfl, by decide +kernel, rfl, by decide +kernel, by decide +kernel⟩
abbrev s_P_four_of_turn : Stmt := top 62
theorem sc_P_four_of_turn : FnScope ["algebra", "table", "units", "images", "sums", "start", "found", "led"] ["algebra", "table"] (defScope s_P_four_of_turn) := ⟨rfl, rfl, rfl, by decide +kernel, rfl, by decide +kernel, by decide +kernel⟩
abbrev s_P_led_sum : Stmt := top 63
theorem sc_P_led_sum : FnScope ["images", "units", "start", "found", "image", "unit"] ["images", "units", "start"] (defScope s_P_led_sum) := ⟨rfl, rfl, rfl, by decide +kernel, rfl, by decide +kernel, by decide +kernel⟩
abbrev s_P_entry_of : Stmt := top 64
theorem sc_P_entry_of : FnScope ["four", "at"] ["four", "at"] (defScope s_P_entry_of) := ⟨rfl, rfl, rfl, by decide +kernel, rfl, by decide +kernel, by decide +kernel⟩
abbrev s_P_is_table : Stmt := top 65
theorem sc_P_is_table : FnScope ["value", "row"] ["value"] (defScope s_P_is_table) := ⟨rfl, rfl, rfl, by decide +kernel, rfl, by decide +kernel, by decide +kernel⟩
abbrev s_P_is_row : Stmt := top 66
theorem sc_P_is_row : FnScope ["value", "entry"] ["value"] (defScope s_P_is_row) := ⟨rfl, rfl, rfl, by decide +kernel, rfl, by decide +kernel, by decide +kernel⟩
abbrev s_P_images_of : Stmt := top 67
theorem sc_P_images_of : FnScope ["algebra", "table", "row", "at"] ["algebra", "table"] (defScope s_P_images_of) := ⟨rfl, rfl, rfl, by decide +kernel, rfl, by decide +kernel, by decide +kernel⟩
abbrev s_P_four_of_column : Stmt := top 68
theorem sc_P_four_of_column : FnScope ["algebra", "column", "bottom", "entries", "entry"] ["algebra", "column"] (defScope s_P_four_of_column) := ⟨rfl, rfl, rfl, by decide +kernel, rfl, by decide +kernel, by decide +kernel⟩
abbrev s_P_primitive : Stmt := top 69
theorem sc_P_primitive : FnScope ["four", "w", "x", "y", "z", "common"] ["four"] (defScope s_P_primitive) := ⟨rfl, rfl, rfl, by decide +kernel, rfl, by decide +kernel, by decide +kernel⟩
abbrev s_L_bowl : Stmt := top 71
theorem sc_L_bowl : FnScope ["_law_script", "_law_at", "_law_cell", "_law_great", "_law_seed"] ["_law_script", "_law_at"] (defScope s_L_bowl) := ⟨rfl, rfl, rfl, by decide +kernel, rfl, by decide +kernel, by decide +kernel⟩
abbrev s_L_scoop : Stmt := top 72
theorem sc_L_scoop : FnScope ["_law_bowl_here", "_law_total", "_law_found", "_law_one", "_law_two"] ["_law_bowl_here", "_law_total"] (defScope s_L_scoop) := ⟨rfl, rfl, rfl, by decide +kernel, rfl, by decide +kernel, by decide +kernel⟩
abbrev s_L_one_of : Stmt := top 73
theorem sc_L_one_of : FnScope ["_law_bowl_here", "_law_items"] ["_law_bowl_here", "_law_items"] (defScope s_L_one_of) := ⟨rfl, rfl, rfl, by decide +kernel, rfl, by decide +kernel, by decide +kernel⟩
abbrev s_L_number : Stmt := top 74
theorem sc_L_number : FnScope ["_law_bowl_here", "_law_size", "_law_found"] ["_law_bowl_here"] (defScope s_L_number) := ⟨rfl, rfl, rfl, by decide +kernel, rfl, by decide +kernel, by decide +kernel⟩
abbrev s_L_pair : Stmt := top 75
theorem sc_L_pair : FnScope ["_law_bowl_here", "_law_known"] ["_law_bowl_here"] (defScope s_L_pair) := ⟨rfl, rfl, rfl, by decide +kernel, rfl, by decide +kernel, by decide +kernel⟩
abbrev s_L_common : Stmt := top 76
theorem sc_L_common : FnScope ["_law_one", "_law_other", "_law_turn"] ["_law_one", "_law_other"] (defScope s_L_common) := ⟨rfl, rfl, rfl, by decide +kernel, rfl, by decide +kernel, by decide +kernel⟩
abbrev s_L_lowest : Stmt := top 77
theorem sc_L_lowest : FnScope ["_law_entries", "_law_bottom", "_law_common_here", "_law_entry", "_law_share"] ["_law_entries", "_law_bottom"] (defScope s_L_lowest) := ⟨rfl, rfl, rfl, by decide +kernel, rfl, by decide +kernel, by decide +kernel⟩
abbrev s_L_times : Stmt := top 78
theorem sc_L_times : FnScope ["_law_pair_here", "_law_one", "_law_other", "_law_a", "_law_b", "_law_table", "_law_key", "_law_image", "_law_found", "_law_at", "_law_first", "_law_to", "_law_second", "_law_factor", "_law_spot"] ["_law_pair_here", "_law_one", "_law_other"] (defScope s_L_times) := ⟨rfl, rfl, rfl, by decide +kernel, rfl, by decide +kernel, by decide +kernel⟩
abbrev s_L_plus : Stmt := top 79
theorem sc_L_plus : FnScope ["_law_one", "_law_other", "_law_rows", "_law_first", "_law_second"] ["_law_one", "_law_other"] (defScope s_L_plus) := ⟨rfl, rfl, rfl, by decide +kernel, rfl, by decide +kernel, by decide +kernel⟩
abbrev s_L_scaled : Stmt := top 80
theorem sc_L_scaled : FnScope ["_law_one", "_law_top", "_law_bottom", "_law_entry"] ["_law_one", "_law_top", "_law_bottom"] (defScope s_L_scaled) := ⟨rfl, rfl, rfl, by decide +kernel, rfl, by decide +kernel, by decide +kernel⟩
abbrev s_L_mate : Stmt := top 81
theorem sc_L_mate : FnScope ["_law_one", "_law_entry"] ["_law_one"] (defScope s_L_mate) := ⟨rfl, rfl, rfl, by decide +kernel, rfl, by decide +kernel, by decide +kernel⟩
abbrev s_L_norm : Stmt := top 82
theorem sc_L_norm : FnScope ["_law_pair_here", "_law_one", "_law_found"] ["_law_pair_here", "_law_one"] (defScope s_L_norm) := ⟨rfl, rfl, rfl, by decide +kernel, rfl, by decide +kernel, by decide +kernel⟩
abbrev s_L_drawn : Stmt := top 83
theorem sc_L_drawn : FnScope ["_law_bowl_here", "_law_size", "_law_entries", "_law_turn"] ["_law_bowl_here"] (defScope s_L_drawn) := ⟨rfl, rfl, rfl, by decide +kernel, rfl, by decide +kernel, by decide +kernel⟩
abbrev s_L_column : Stmt := top 84
theorem sc_L_column : FnScope ["_law_table", "_law_at", "_law_entries", "_law_bottom", "_law_row", "_law_spot"] ["_law_table", "_law_at"] (defScope s_L_column) := ⟨rfl, rfl, rfl, by decide +kernel, rfl, by decide +kernel, by decide +kernel⟩
abbrev s_L_is_due : Stmt := top 85
theorem sc_L_is_due : FnScope ["_law_pair_here", "_law_table", "_law_x", "_law_y", "_law_z"] ["_law_pair_here", "_law_table"] (defScope s_L_is_due) := ⟨rfl, rfl, rfl, by decide +kernel, rfl, by decide +kernel, by decide +kernel⟩
abbrev s_L_near : Stmt := top 86
theorem sc_L_near : FnScope ["_law_bowl_here", "_law_turn", "_law_other", "_law_way", "_law_at", "_law_spot", "_law_rows", "_law_row", "_law_entry", "_law_to"] ["_law_bowl_here", "_law_turn", "_law_other"] (defScope s_L_near) := ⟨rfl, rfl, rfl, by decide +kernel, rfl, by decide +kernel, by decide +kernel⟩
abbrev s_L_odd : Stmt := top 87
theorem sc_L_odd : FnScope ["_law_bowl_here", "_law_turn", "_law_some"] ["_law_bowl_here", "_law_turn"] (defScope s_L_odd) := ⟨rfl, rfl, rfl, by decide +kernel, rfl, by decide +kernel, by decide +kernel⟩
abbrev s_L_is_refused : Stmt := top 88
theorem sc_L_is_refused : FnScope ["_law_algebra", "_law_table"] ["_law_algebra", "_law_table"] (defScope s_L_is_refused) := ⟨rfl, rfl, rfl, by decide +kernel, rfl, by decide +kernel, by decide +kernel⟩
abbrev s_L_right : Stmt := top 89
theorem sc_L_right : FnScope ["_law_bowl_here", "_law_pair_here", "_law_one", "_law_other", "_law_algebra", "_law_first", "_law_second", "_law_turn", "_law_more", "_law_told", "_law_turns", "_law_near_here", "_law_due", "_law_odd_here"] ["_law_bowl_here"] (defScope s_L_right) := ⟨rfl, rfl, rfl, by decide +kernel, rfl, by decide +kernel, by decide +kernel⟩
abbrev s_L_law : Stmt := top 90
theorem sc_L_law : FnScope ["_law_script", "_law_at", "_law_bowl_here", "_law_algebra", "_law_idle", "_law_to", "_law_half", "_law_told", "_law_four", "_law_entry"] ["_law_script"] (defScope s_L_law) := ⟨rfl, rfl, rfl, by decide +kernel, rfl, by decide +kernel, by decide +kernel⟩
end Sf

namespace Sf
open PySem PySem.Spec PyProof.Rows L2
def errB (K : PySem.W.Frag) (x : Str) : Bool := PySem.W.excIn K (He.ga K x) [.type "ValueError", .type "Exception", .type "BaseException", .type "object"] "ValueError.__new__" &&
  (PySem.W.keepIn K (.ref (He.ga K x)) && (decide (PySem.W.subIn K (.ref (He.ga K x)) (.type "BaseException") = some true) && (decide (PySem.W.typeIn K (.ref (He.ga K x)) = some (.type "type")) && decide (PySem.W.exmOne K (.ref (He.ga K x)) (.ref (He.ga K x)) = some true))))
end Sf
namespace Sf
open PySem PySem.Spec PyProof.Rows L2
def d_L_bowl : He.DefD := ⟨("_law_bowl", none), "_law_bowl", "_law_bowl", defArgs s_L_bowl, defBody s_L_bowl, defScope s_L_bowl, [], []⟩
def d_L_scoop : He.DefD := ⟨("_law_scoop", none), "_law_scoop", "_law_scoop", defArgs s_L_scoop, defBody s_L_scoop, defScope s_L_scoop, [], []⟩
def d_L_one_of : He.DefD := ⟨("_law_one_of", none), "_law_one_of", "_law_one_of", defArgs s_L_one_of, defBody s_L_one_of, defScope s_L_one_of, [], []⟩
def d_L_number : He.DefD := ⟨("_law_number", none), "_law_number", "_law_number", defArgs s_L_number, defBody s_L_number, defScope s_L_number, [], []⟩
def d_L_pair : He.DefD := ⟨("_law_pair", none), "_law_pair", "_law_pair", defArgs s_L_pair, defBody s_L_pair, defScope s_L_pair, [], []⟩
def d_L_common : He.DefD := ⟨("_law_common", none), "_law_common", "_law_common", defArgs s_L_common, defBody s_L_common, defScope s_L_common, [], []⟩
def d_L_lowest : He.DefD := ⟨("_law_lowest", none), "_law_lowest", "_law_lowest", defArgs s_L_lowest, defBody s_L_lowest, defScope s_L_lowest, [], []⟩
def d_L_drawn : He.DefD := ⟨("_law_drawn", none), "_law_drawn", "_law_drawn", defArgs s_L_drawn, defBody s_L_drawn, defScope s_L_drawn, [], []⟩
def d_L_times : He.DefD := ⟨("_law_times", none), "_law_times", "_law_times", defArgs s_L_times, defBody s_L_times, defScope s_L_times, [], []⟩
def d_L_mate : He.DefD := ⟨("_law_mate", none), "_law_mate", "_law_mate", defArgs s_L_mate, defBody s_L_mate, defScope s_L_mate, [], []⟩
def d_L_norm : He.DefD := ⟨("_law_norm", none), "_law_norm", "_law_norm", defArgs s_L_norm, defBody s_L_norm, defScope s_L_norm, [], []⟩
def d_L_column : He.DefD := ⟨("_law_column", none), "_law_column", "_law_column", defArgs s_L_column, defBody s_L_column, defScope s_L_column, [], []⟩
def d_L_scaled : He.DefD := ⟨("_law_scaled", none), "_law_scaled", "_law_scaled", defArgs s_L_scaled, defBody s_L_scaled, defScope s_L_scaled, [], []⟩
def d_L_is_due : He.DefD := ⟨("_law_is_due", none), "_law_is_due", "_law_is_due", defArgs s_L_is_due, defBody s_L_is_due, defScope s_L_is_due, [], []⟩
def d_P_is_integer : He.DefD := ⟨("is_integer", none), "is_integer", "is_integer", defArgs s_P_is_integer, defBody s_P_is_integer, defScope s_P_is_integer, [], []⟩
def d_P_is_passed : He.DefD := ⟨("is_passed", none), "is_passed", "is_passed", defArgs s_P_is_passed, defBody s_P_is_passed, defScope s_P_is_passed, [], []⟩
def d_P_lowest_terms : He.DefD := ⟨("lowest_terms", none), "lowest_terms", "lowest_terms", defArgs s_P_lowest_terms, defBody s_P_lowest_terms, defScope s_P_lowest_terms, [], []⟩
def d_P_sign_of : He.DefD := ⟨("sign_of", none), "sign_of", "sign_of", defArgs s_P_sign_of, defBody s_P_sign_of, defScope s_P_sign_of, [], []⟩
def d_P_Ratio___init__ : He.DefD := ⟨("Ratio", some "__init__"), "__init__", "Ratio.__init__", defArgs s_P_Ratio___init__, defBody s_P_Ratio___init__, defScope s_P_Ratio___init__, [.int 1], []⟩
def d_P_is_fraction : He.DefD := ⟨("is_fraction", none), "is_fraction", "is_fraction", defArgs s_P_is_fraction, defBody s_P_is_fraction, defScope s_P_is_fraction, [], []⟩
def d_P_terms_of : He.DefD := ⟨("terms_of", none), "terms_of", "terms_of", defArgs s_P_terms_of, defBody s_P_terms_of, defScope s_P_terms_of, [], []⟩
def d_P_made_ratio : He.DefD := ⟨("made_ratio", none), "made_ratio", "made_ratio", defArgs s_P_made_ratio, defBody s_P_made_ratio, defScope s_P_made_ratio, [], []⟩
def d_P_Ratio___add__ : He.DefD := ⟨("Ratio", some "__add__"), "__add__", "Ratio.__add__", defArgs s_P_Ratio___add__, defBody s_P_Ratio___add__, defScope s_P_Ratio___add__, [], []⟩
def d_P_Ratio___neg__ : He.DefD := ⟨("Ratio", some "__neg__"), "__neg__", "Ratio.__neg__", defArgs s_P_Ratio___neg__, defBody s_P_Ratio___neg__, defScope s_P_Ratio___neg__, [], []⟩
def d_L_near : He.DefD := ⟨("_law_near", none), "_law_near", "_law_near", defArgs s_L_near, defBody s_L_near, defScope s_L_near, [], []⟩
def d_L_odd : He.DefD := ⟨("_law_odd", none), "_law_odd", "_law_odd", defArgs s_L_odd, defBody s_L_odd, defScope s_L_odd, [], []⟩
def d_P_check_algebra : He.DefD := ⟨("check_algebra", none), "check_algebra", "check_algebra", defArgs s_P_check_algebra, defBody s_P_check_algebra, defScope s_P_check_algebra, [], []⟩
def d_P_is_row : He.DefD := ⟨("is_row", none), "is_row", "is_row", defArgs s_P_is_row, defBody s_P_is_row, defScope s_P_is_row, [], []⟩
def d_P_is_table : He.DefD := ⟨("is_table", none), "is_table", "is_table", defArgs s_P_is_table, defBody s_P_is_table, defScope s_P_is_table, [], []⟩
def d_P_lowest_entries : He.DefD := ⟨("lowest_entries", none), "lowest_entries", "lowest_entries", defArgs s_P_lowest_entries, defBody s_P_lowest_entries, defScope s_P_lowest_entries, [], []⟩
def d_P_is_passed_entries : He.DefD := ⟨("is_passed_entries", none), "is_passed_entries", "is_passed_entries", defArgs s_P_is_passed_entries, defBody s_P_is_passed_entries, defScope s_P_is_passed_entries, [], []⟩
def d_P_norm_of : He.DefD := ⟨("norm_of", none), "norm_of", "norm_of", defArgs s_P_norm_of, defBody s_P_norm_of, defScope s_P_norm_of, [], []⟩
def d_P_Four___init__ : He.DefD := ⟨("Four", some "__init__"), "__init__", "Four.__init__", defArgs s_P_Four___init__, defBody s_P_Four___init__, defScope s_P_Four___init__, [.int 1], []⟩
def d_P_made_four : He.DefD := ⟨("made_four", none), "made_four", "made_four", defArgs s_P_made_four, defBody s_P_made_four, defScope s_P_made_four, [], []⟩
def d_P_four_of_column : He.DefD := ⟨("four_of_column", none), "four_of_column", "four_of_column", defArgs s_P_four_of_column, defBody s_P_four_of_column, defScope s_P_four_of_column, [], []⟩
def d_P_images_of : He.DefD := ⟨("images_of", none), "images_of", "images_of", defArgs s_P_images_of, defBody s_P_images_of, defScope s_P_images_of, [], []⟩
def d_P_Algebra___eq__ : He.DefD := ⟨("Algebra", some "__eq__"), "__eq__", "Algebra.__eq__", defArgs s_P_Algebra___eq__, defBody s_P_Algebra___eq__, defScope s_P_Algebra___eq__, [], []⟩
def d_P_check_operands : He.DefD := ⟨("check_operands", none), "check_operands", "check_operands", defArgs s_P_check_operands, defBody s_P_check_operands, defScope s_P_check_operands, [], []⟩
def d_P_product_entries : He.DefD := ⟨("product_entries", none), "product_entries", "product_entries", defArgs s_P_product_entries, defBody s_P_product_entries, defScope s_P_product_entries, [], []⟩
def d_P_Four___mul__ : He.DefD := ⟨("Four", some "__mul__"), "__mul__", "Four.__mul__", defArgs s_P_Four___mul__, defBody s_P_Four___mul__, defScope s_P_Four___mul__, [], []⟩
def d_P_Four___eq__ : He.DefD := ⟨("Four", some "__eq__"), "__eq__", "Four.__eq__", defArgs s_P_Four___eq__, defBody s_P_Four___eq__, defScope s_P_Four___eq__, [], []⟩
def d_P_check_ratio : He.DefD := ⟨("check_ratio", none), "check_ratio", "check_ratio", defArgs s_P_check_ratio, defBody s_P_check_ratio, defScope s_P_check_ratio, [], []⟩
def d_P_Four_scaled : He.DefD := ⟨("Four", some "scaled"), "scaled", "Four.scaled", defArgs s_P_Four_scaled, defBody s_P_Four_scaled, defScope s_P_Four_scaled, [], []⟩
def d_P_Algebra_basis : He.DefD := ⟨("Algebra", some "basis"), "basis", "Algebra.basis", defArgs s_P_Algebra_basis, defBody s_P_Algebra_basis, defScope s_P_Algebra_basis, [], []⟩
def d_P_is_turn : He.DefD := ⟨("is_turn", none), "is_turn", "is_turn", defArgs s_P_is_turn, defBody s_P_is_turn, defScope s_P_is_turn, [], []⟩
def d_P_Four___add__ : He.DefD := ⟨("Four", some "__add__"), "__add__", "Four.__add__", defArgs s_P_Four___add__, defBody s_P_Four___add__, defScope s_P_Four___add__, [], []⟩
def d_P_Four___neg__ : He.DefD := ⟨("Four", some "__neg__"), "__neg__", "Four.__neg__", defArgs s_P_Four___neg__, defBody s_P_Four___neg__, defScope s_P_Four___neg__, [], []⟩
def d_P_Four___sub__ : He.DefD := ⟨("Four", some "__sub__"), "__sub__", "Four.__sub__", defArgs s_P_Four___sub__, defBody s_P_Four___sub__, defScope s_P_Four___sub__, [], []⟩
def d_P_Ratio___bool__ : He.DefD := ⟨("Ratio", some "__bool__"), "__bool__", "Ratio.__bool__", defArgs s_P_Ratio___bool__, defBody s_P_Ratio___bool__, defScope s_P_Ratio___bool__, [], []⟩
def d_P_mate_entries : He.DefD := ⟨("mate_entries", none), "mate_entries", "mate_entries", defArgs s_P_mate_entries, defBody s_P_mate_entries, defScope s_P_mate_entries, [], []⟩
def d_P_Four_inverse : He.DefD := ⟨("Four", some "inverse"), "inverse", "Four.inverse", defArgs s_P_Four_inverse, defBody s_P_Four_inverse, defScope s_P_Four_inverse, [], []⟩
def d_P_led_sum : He.DefD := ⟨("led_sum", none), "led_sum", "led_sum", defArgs s_P_led_sum, defBody s_P_led_sum, defScope s_P_led_sum, [], []⟩
def d_P_primitive : He.DefD := ⟨("primitive", none), "primitive", "primitive", defArgs s_P_primitive, defBody s_P_primitive, defScope s_P_primitive, [], []⟩
def d_P_Four___bool__ : He.DefD := ⟨("Four", some "__bool__"), "__bool__", "Four.__bool__", defArgs s_P_Four___bool__, defBody s_P_Four___bool__, defScope s_P_Four___bool__, [], []⟩
def d_P_four_of_turn : He.DefD := ⟨("four_of_turn", none), "four_of_turn", "four_of_turn", defArgs s_P_four_of_turn, defBody s_P_four_of_turn, defScope s_P_four_of_turn, [], []⟩
def d_L_is_refused : He.DefD := ⟨("_law_is_refused", none), "_law_is_refused", "_law_is_refused", defArgs s_L_is_refused, defBody s_L_is_refused, defScope s_L_is_refused, [], []⟩
def d_P_check_four : He.DefD := ⟨("check_four", none), "check_four", "check_four", defArgs s_P_check_four, defBody s_P_check_four, defScope s_P_check_four, [], []⟩
def d_P_check_fours : He.DefD := ⟨("check_fours", none), "check_fours", "check_fours", defArgs s_P_check_fours, defBody s_P_check_fours, defScope s_P_check_fours, [], []⟩
def d_P_turned : He.DefD := ⟨("turned", none), "turned", "turned", defArgs s_P_turned, defBody s_P_turned, defScope s_P_turned, [], []⟩
def d_P_entry_of : He.DefD := ⟨("entry_of", none), "entry_of", "entry_of", defArgs s_P_entry_of, defBody s_P_entry_of, defScope s_P_entry_of, [], []⟩
def d_P_turn_of : He.DefD := ⟨("turn_of", none), "turn_of", "turn_of", defArgs s_P_turn_of, defBody s_P_turn_of, defScope s_P_turn_of, [], []⟩
def d_P_check_number : He.DefD := ⟨("check_number", none), "check_number", "check_number", defArgs s_P_check_number, defBody s_P_check_number, defScope s_P_check_number, [], []⟩
def d_P_stripped : He.DefD := ⟨("stripped", none), "stripped", "stripped", defArgs s_P_stripped, defBody s_P_stripped, defScope s_P_stripped, [], []⟩
def d_P_next_divisor : He.DefD := ⟨("next_divisor", none), "next_divisor", "next_divisor", defArgs s_P_next_divisor, defBody s_P_next_divisor, defScope s_P_next_divisor, [], []⟩
def d_P_prime_powers : He.DefD := ⟨("prime_powers", none), "prime_powers", "prime_powers", defArgs s_P_prime_powers, defBody s_P_prime_powers, defScope s_P_prime_powers, [], []⟩
def d_P_factors : He.DefD := ⟨("factors", none), "factors", "factors", defArgs s_P_factors, defBody s_P_factors, defScope s_P_factors, [], []⟩
def d_P_quarter : He.DefD := ⟨("quarter", none), "quarter", "quarter", defArgs s_P_quarter, defBody s_P_quarter, defScope s_P_quarter, [], []⟩
def d_P_eighth : He.DefD := ⟨("eighth", none), "eighth", "eighth", defArgs s_P_eighth, defBody s_P_eighth, defScope s_P_eighth, [], []⟩
def d_P_sign_at_two : He.DefD := ⟨("sign_at_two", none), "sign_at_two", "sign_at_two", defArgs s_P_sign_at_two, defBody s_P_sign_at_two, defScope s_P_sign_at_two, [], []⟩
def d_P_power_modulo : He.DefD := ⟨("power_modulo", none), "power_modulo", "power_modulo", defArgs s_P_power_modulo, defBody s_P_power_modulo, defScope s_P_power_modulo, [], []⟩
def d_P_rest_sign : He.DefD := ⟨("rest_sign", none), "rest_sign", "rest_sign", defArgs s_P_rest_sign, defBody s_P_rest_sign, defScope s_P_rest_sign, [], []⟩
def d_P_sign_at_odd : He.DefD := ⟨("sign_at_odd", none), "sign_at_odd", "sign_at_odd", defArgs s_P_sign_at_odd, defBody s_P_sign_at_odd, defScope s_P_sign_at_odd, [], []⟩
def d_P_sign : He.DefD := ⟨("sign", none), "sign", "sign", defArgs s_P_sign, defBody s_P_sign, defScope s_P_sign, [], []⟩
def d_P_signed_places : He.DefD := ⟨("signed_places", none), "signed_places", "signed_places", defArgs s_P_signed_places, defBody s_P_signed_places, defScope s_P_signed_places, [], []⟩
def d_P_product_of_primes : He.DefD := ⟨("product_of_primes", none), "product_of_primes", "product_of_primes", defArgs s_P_product_of_primes, defBody s_P_product_of_primes, defScope s_P_product_of_primes, [], []⟩
def d_P_Algebra___init__ : He.DefD := ⟨("Algebra", some "__init__"), "__init__", "Algebra.__init__", defArgs s_P_Algebra___init__, defBody s_P_Algebra___init__, defScope s_P_Algebra___init__, [], []⟩
def d_P_Ratio___eq__ : He.DefD := ⟨("Ratio", some "__eq__"), "__eq__", "Ratio.__eq__", defArgs s_P_Ratio___eq__, defBody s_P_Ratio___eq__, defScope s_P_Ratio___eq__, [], []⟩
def d_L_right : He.DefD := ⟨("_law_right", none), "_law_right", "_law_right", defArgs s_L_right, defBody s_L_right, defScope s_L_right, [], []⟩
def d_L_law : He.DefD := ⟨("law", none), "law", "law", defArgs s_L_law, defBody s_L_law, defScope s_L_law, [], []⟩
def fn : List He.DefD := [d_L_bowl, d_L_scoop, d_L_one_of, d_L_number, d_L_pair, d_L_common, d_L_lowest, d_L_drawn, d_L_times, d_L_mate, d_L_norm, d_L_column, d_L_scaled, d_L_is_due, d_P_is_integer, d_P_is_passed, d_P_lowest_terms, d_P_sign_of, d_P_Ratio___init__, d_P_is_fraction, d_P_terms_of, d_P_made_ratio, d_P_Ratio___add__, d_P_Ratio___neg__, d_L_near, d_L_odd, d_P_check_algebra, d_P_is_row, d_P_is_table, d_P_lowest_entries, d_P_is_passed_entries, d_P_norm_of, d_P_Four___init__, d_P_made_four, d_P_four_of_column, d_P_images_of, d_P_Algebra___eq__, d_P_check_operands, d_P_product_entries, d_P_Four___mul__, d_P_Four___eq__, d_P_check_ratio, d_P_Four_scaled, d_P_Algebra_basis, d_P_is_turn, d_P_Four___add__, d_P_Four___neg__, d_P_Four___sub__, d_P_Ratio___bool__, d_P_mate_entries, d_P_Four_inverse, d_P_led_sum, d_P_primitive, d_P_Four___bool__, d_P_four_of_turn, d_L_is_refused, d_P_check_four, d_P_check_fours, d_P_turned, d_P_entry_of, d_P_turn_of, d_P_check_number, d_P_stripped, d_P_next_divisor, d_P_prime_powers, d_P_factors, d_P_quarter, d_P_eighth, d_P_sign_at_two, d_P_power_modulo, d_P_rest_sign, d_P_sign_at_odd, d_P_sign, d_P_signed_places, d_P_product_of_primes, d_P_Algebra___init__, d_P_Ratio___eq__, d_L_right, d_L_law]
def fa : List He.Fa := ([.glo "_law_bowl", .glo "_law_scoop", .glo "_law_one_of", .glo "_law_number", .glo "_law_pair", .glo "_law_common", .glo "_law_lowest", .glo "_law_drawn", .glo "_law_times", .glo "_law_mate", .glo "_law_norm", .glo "_law_column", .glo "_law_scaled", .glo "_law_is_due", .glo "is_integer", .glo "is_passed", .glo "lowest_terms", .glo "sign_of", .glo "is_fraction", .glo "terms_of", .glo "made_ratio", .glo "_law_near", .glo "_law_odd", .glo "check_algebra", .glo "is_row", .glo "is_table", .glo "lowest_entries", .glo "is_passed_entries", .glo "norm_of", .glo "made_four"] : List He.Fa) ++ ([.glo "four_of_column", .glo "images_of", .glo "check_operands", .glo "product_entries", .glo "check_ratio", .glo "is_turn", .glo "mate_entries", .glo "led_sum", .glo "primitive", .glo "four_of_turn", .glo "_law_is_refused", .glo "check_four", .glo "check_fours", .glo "turned", .glo "entry_of", .glo "turn_of", .glo "check_number", .glo "stripped", .glo "next_divisor", .glo "prime_powers", .glo "factors", .glo "quarter", .glo "eighth", .glo "sign_at_two", .glo "power_modulo", .glo "rest_sign", .glo "sign_at_odd", .glo "sign", .glo "signed_places", .glo "product_of_primes"] : List He.Fa) ++ ([.glo "_law_right", .glo "law", .free "isinstance", .free "int", .free "bool", .free "abs", .free "str", .free "sorted", .free "tuple", .free "set", .free "len", .free "zip", .free "any", .free "all", .free "range", .free "max", .free "enumerate", .free "list", .free "min", .int "TOO_LONG" 1000000000000000000000000000000000000000000000000000000000000, .int "MAX_NUMBER" 1000000000, .int "MAX_POWER" 1000, .glo "Ratio", .cls "Ratio", .noat "Ratio" "top", .noat "Ratio" "bottom", .noat "Ratio" "sign", .mkr "Ratio", .noat "Ratio" "__radd__", .meth "Ratio" "__add__"] : List He.Fa) ++ ([.meth "Ratio" "__neg__", .glo "Algebra", .cls "Algebra", .noat "Algebra" "places", .noat "Algebra" "a", .noat "Algebra" "b", .noat "Algebra" "discriminant", .noat "Algebra" "is_tables", .noat "Algebra" "is_definite", .glo "Four", .cls "Four", .noat "Four" "algebra", .noat "Four" "entries", .noat "Four" "bottom", .noat "Four" "trace", .noat "Four" "norm", .noat "Four" "is_ratio", .mkr "Four", .meth "Algebra" "__eq__", .meth "Four" "__mul__", .meth "Four" "__eq__", .meth "Four" "scaled", .meth "Algebra" "basis", .meth "Four" "__neg__", .meth "Four" "__add__", .meth "Ratio" "__bool__", .meth "Four" "__sub__", .meth "Four" "inverse", .meth "Four" "__bool__", .glo "InvalidOperation"] : List He.Fa) ++ ([.mkr "Algebra", .meth "Ratio" "__eq__"] : List He.Fa)
def ex (K : PySem.W.Frag) : Bool := gblB K "gcd" "math.gcd" && (gblB K "lcm" "math.lcm" && (ownB K "Ratio" && (ownB K "Algebra" && (ownB K "Four" && (errB K "InvalidOperation" && (true))))))
abbrev R : PySem.W.OpenRow := PySem.W.OpenLaw.row PySem.Challenge.rw_signfours_k13_whole_tables_that_are_turn
abbrev hk : PySem.W.Hook := hookO 4 fa fn ex
def ob (s : PySem.W.SharedT) : AlO := obsO 4 fa fn ex (HandSHeadRun.getT s)
theorem ob_eq (s : PySem.W.SharedT) : ob s = hk.obs s.abs := obsO_eq (HandSHeadRun.getT_eq s)
def loose : List Str := (["_wall", "TOO_LONG", "is_integer", "is_passed", "FourError", "InvalidRatio", "InvalidAlgebra", "InvalidFour", "InvalidOperation", "ParseError", "InvalidNumber", "Refused", "Ratio", "made_ratio", "lowest_terms", "sign_of", "is_fraction", "check_ratio", "terms_of", "is_digits", "MAX_NUMBER", "factors", "prime_powers", "check_number", "next_divisor", "stripped", "rest_sign", "power_modulo", "signed_places", "sign"] : List Str) ++ (["sign_at_two", "quarter", "eighth", "sign_at_odd", "MAX_POWER", "LETTERS", "Algebra", "Four", "made_four", "check_algebra", "check_four", "check_fours", "check_operands", "is_passed_entries", "product_of_primes", "lowest_entries", "mate_entries", "norm_of", "product_entries", "written_terms", "written_term", "turned", "turn_of", "is_turn", "four_of_turn", "led_sum", "entry_of", "is_table", "is_row", "images_of"] : List Str) ++ (["four_of_column", "primitive", "_law_bowl", "_law_scoop", "_law_one_of", "_law_number", "_law_pair", "_law_common", "_law_lowest", "_law_times", "_law_plus", "_law_scaled", "_law_mate", "_law_norm", "_law_drawn", "_law_column", "_law_is_due", "_law_near", "_law_odd", "_law_is_refused", "_law_right"] : List Str)
set_option maxHeartbeats 0 in
theorem run (w : World) : HandSHeadRun.RunEqI R (PySem.W.view R.prog [0, 90]) hk ob 20000 loose w := by
  unfold HandSHeadRun.RunEqI
  kernel_rfl
end Sf

namespace Sf
open PySem PySem.Spec PyProof.Rows L2
abbrev FnD (K : PySem.W.Frag) (x qual : Str) (st : Stmt) (f : Addr) (fd : FuncData) : Prop := FunD K x qual (defArgs st) (defBody st) (defScope st) [] [] f fd
/-- a def with defaults -/
abbrev FnDD (K : PySem.W.Frag) (x qual : Str) (st : Stmt) (dvs : List V) (f : Addr) (fd : FuncData) : Prop := FunD K x qual (defArgs st) (defBody st) (defScope st) dvs [] f fd
theorem lt3000 {a : Int} (h0 : 0 ≤ a) (h : a < 10 ^ 400) : a.natAbs < 2 ^ 3000 := by
  have h1 : (10 : Int) ^ 400 < 2 ^ 3000 := by decide +kernel
  have h2 : ((a.natAbs : Nat) : Int) < ((2 ^ 3000 : Nat) : Int) := by
    rw [Int.natAbs_of_nonneg h0]
    exact Int.lt_trans h h1
  exact Int.ofNat_lt.mp h2
theorem lt3000s {a : Int} (h0 : -1000000000000000000000000000000 < a) (h : a < 1000000000000000000000000000000) : a.natAbs < 2 ^ 3000 := Nat.lt_trans (by omega : a.natAbs < 1000000000000000000000000000000) (by decide +kernel)
theorem inV_two (x a b : Int) : inV (.int x) [.int a, .int b] = decide (x = a ∨ x = b) := by
  show ((a == x) || ((b == x) || false)) = _
  rw [Bool.or_false, Bool.eq_iff_iff]
  simp only [Bool.or_eq_true, beq_iff_eq, decide_eq_true_eq]
  constructor
  · rintro (h | h)
    · exact .inl h.symm
    · exact .inr h.symm
  · rintro (h | h)
    · exact .inl h.symm
    · exact .inr h.symm
theorem inV_ints (x : Int) (l : List Int) : inV (.int x) (l.map V.int) = decide (x ∈ l) := by
  unfold inV
  rw [List.any_map, Bool.eq_iff_iff, List.any_eq_true]
  simp only [decide_eq_true_eq]
  constructor
  · rintro ⟨y, hy, e⟩
    have e2 : (y == x) = true := e
    rw [← beq_iff_eq.mp e2]
    exact hy
  · intro h
    refine ⟨x, h, ?_⟩
    show (x == x) = true
    exact beq_self_eq_true x
theorem all_flat (l : List Int) : (l.map V.int).all flatV = true := by
  rw [List.all_map, List.all_eq_true]
  intro x _
  rfl
end Sf

namespace Sf
open PySem PySem.Spec PyProof.Rows L2
section
variable {P : Program} {w : World} {K : PySem.W.Frag} {mg : Str → Option Value} {base : Heap} {f : Addr} {fd : FuncData}
def spNext : Sp := fun vs H Q _ => ∃ d : Int, vs = [.int d] ∧ Q (.int (if d = 2 then 3 else d + 2)) H
theorem ok_next (F : FnD K "next_divisor" "next_divisor" s_P_next_divisor f fd) : FnOk P w K mg base CX0 1 f fd ["divisor"] spNext := by
  refine F.ok sc_P_next_divisor (fun vs H Q E h => ?_) (fun cdv A outer s H vs Q E hr h => ?_)
  · obtain ⟨d, rfl, _⟩ := h; rfl
  · obtain ⟨d, rfl, q⟩ := h
    refine ⟨_, PSs.nox (pss_one (ps_ret (pe_ifExp (pt_cmp (pc_eqI (pv 0) pe_int)) pe_int (pe_op op_add (pv 0) pe_int)))), ?_⟩
    refine ⟨_, rfl, _, _, rfl, rfl, _, rfl, ifd (fun h => ?_) (fun h => ?_)⟩
    · rw [if_pos h] at q
      exact q
    · rw [if_neg h] at q
      exact ⟨_, rfl, _, _, rfl, rfl, q⟩
end
end Sf

namespace Sf
open PySem PySem.Spec PyProof.Rows L2
section
variable {P : Program} {w : World} {K : PySem.W.Frag} {mg : Str → Option Value} {base : Heap} {f : Addr} {fd : FuncData}
/-- what is left of a number other than 0, and how often p was taken out -/
def Strip (n p : Int) (m : Nat) (u : Int) : Prop := n = p ^ m * u ∧ u % p ≠ 0
def spStripped : Sp := fun vs H Q _ => ∃ n p : Int, vs = [.int n, .int p] ∧ n ≠ 0 ∧ 2 ≤ p ∧ p.natAbs < 2 ^ 3000 ∧
  ∀ (m : Nat) (u : Int) (a : Addr), Strip n p m u → H a = none → Q (.ref a) (upd H a (.tup [.int m, .int u]))
theorem strip_less {u p : Int} (hu : u ≠ 0) (hp : 2 ≤ p) (h : u % p = 0) : (u / p).natAbs < u.natAbs ∧ u / p ≠ 0 ∧ u = p * (u / p) := by
  have e : u = p * (u / p) := by
    have := Int.emod_add_mul_ediv u p
    omega
  have h2 : u / p ≠ 0 := fun z => by
    rw [z] at e
    omega
  refine ⟨?_, h2, e⟩
  have e2 : u.natAbs = p.natAbs * (u / p).natAbs := by
    conv => lhs; rw [e]
    exact Int.natAbs_mul _ _
  have h3 : 0 < (u / p).natAbs := by omega
  have h4 : 2 ≤ p.natAbs := by omega
  have h5 : 2 * (u / p).natAbs ≤ p.natAbs * (u / p).natAbs := Nat.mul_le_mul_right _ h4
  omega
theorem ok_stripped (F : FnD K "stripped" "stripped" s_P_stripped f fd) : FnOk P w K mg base CX0 1 f fd ["number", "prime"] spStripped := by
  refine F.ok sc_P_stripped (fun vs H Q E h => ?_) (fun cdv A outer s H vs Q E hr h => ?_)
  · obtain ⟨n, p, rfl, _⟩ := h; rfl
  · obtain ⟨n, p, rfl, hn, hp, hb, q⟩ := h
    refine ⟨_, PSs.nox (pss_cons (ps_set (i := 2) sc_P_stripped.nd rfl (Or.inl rfl) pe_int)
      (pss_cons (ps_while PassesOwn.never (pt_cmp (pc_eqI (pe_op op_mod (pv 0) (pv 1)) pe_int)) (pss_cons (ps_set (i := 2) sc_P_stripped.nd rfl (Or.inl rfl) (pe_op op_add (pv 2) pe_int))
      (pss_one (ps_set (i := 0) sc_P_stripped.nd rfl (Or.inl rfl) (pe_op op_fdivW (pv 0) (pv 1))))))
      (pss_one (ps_ret (pe_tup (pa_cons (pv 2) (pa_cons (pv 0) pa_nil))))))), ?_⟩
    refine ⟨fun c σ H' => H' = H ∧ ∃ (m : Nat) (u : Int), σ = [some (.int u), some (.int p), some (.int m)] ∧ n = p ^ m * u ∧ u ≠ 0 ∧ c = u.natAbs, ⟨_, rfl, 0, n, rfl, by simp, hn, rfl⟩, ?_⟩
    rintro c σ _ ⟨rfl, m, u, rfl, e, hu, rfl⟩
    refine ⟨_, rfl, _, rfl, _, _, rfl, rfl, (by omega), _, _, rfl, rfl, _, rfl, ifd (fun h => ⟨_, fun _ _ z => z, ?_⟩) (fun h => ?_)⟩
    · have hl := strip_less hu hp h
      refine ⟨_, rfl, _, _, rfl, rfl, _, rfl, _, rfl, _, _, rfl, rfl, CDivW.of (by omega) hb, ?_⟩
      refine ⟨_, hl.1, rfl, m + 1, u / p, rfl, ?_, hl.2.1, rfl⟩
      rw [e, Int.pow_succ, Int.mul_assoc, ← hl.2.2]
    · refine ⟨_, rfl, _, rfl, (by show 2 ≤ sizeLine; decide), fun a ha => ?_⟩
      exact q m u a ⟨e, h⟩ ha
end
end Sf

namespace Sf
open PySem PySem.Spec PyProof.Rows L2
section
variable {P : Program} {w : World} {K : PySem.W.Frag} {mg : Str → Option Value} {base : Heap} {f : Addr} {fd : FuncData}
theorem pow_mod (a m : Int) (k : Nat) : (a % m) ^ k % m = a ^ k % m := by
  induction k with
  | zero => rw [Int.pow_zero, Int.pow_zero]
  | succ k ih => rw [Int.pow_succ, Int.pow_succ, Int.mul_emod, ih, Int.emod_emod_of_dvd _ (Int.dvd_refl _), ← Int.mul_emod]
/-- a power, reduced -/
def spPowMod : Sp := fun vs H Q _ => ∃ n k m : Int, vs = [.int n, .int k, .int m] ∧ 0 ≤ k ∧ 1 ≤ m ∧ m.natAbs < 2 ^ 1000 ∧ Q (.int (n ^ k.toNat % m)) H
theorem mod_lt3000 {a m : Int} (h1 : 1 ≤ m) (hb : m.natAbs < 2 ^ 1000) : (a % m).natAbs < 2 ^ 3000 := by
  have h2 := Int.emod_nonneg a (by omega : m ≠ 0)
  have h3 := Int.emod_lt_of_pos a (by omega : 0 < m)
  have h4 : (a % m).natAbs < 2 ^ 1000 := by omega
  exact Nat.lt_trans h4 (by decide +kernel)
theorem pow_half (a : Int) (k : Int) (hk : 0 < k) : a ^ k.toNat = (a * a) ^ (k / 2).toNat * a ^ (k % 2).toNat := by
  have e : k.toNat = (k / 2).toNat + (k / 2).toNat + (k % 2).toNat := by omega
  rw [e, Int.pow_add, Int.pow_add, Int.mul_pow]
theorem ok_powmod (F : FnD K "power_modulo" "power_modulo" s_P_power_modulo f fd) : FnOk P w K mg base CX0 1 f fd ["number", "many", "modulus"] spPowMod := by
  refine F.ok sc_P_power_modulo (fun vs H Q E h => ?_) (fun cdv A outer s H vs Q E hr h => ?_)
  · obtain ⟨n, k, m, rfl, _⟩ := h; rfl
  · obtain ⟨n, k, m, rfl, hk, hm, hb, q⟩ := h
    refine ⟨_, PSs.nox (pss_cons (ps_set (i := 3) sc_P_power_modulo.nd rfl (Or.inl rfl) (pe_op op_mod pe_int (pv 2)))
      (pss_cons (ps_set (i := 4) sc_P_power_modulo.nd rfl (Or.inl rfl) (pe_op op_mod (pv 0) (pv 2)))
      (pss_cons (ps_while PassesOwn.never (pt_cmp (pc_gt (pv 1) pe_int)) (pss_cons (ps_if (pt_cmp (pc_eqI (pe_op op_mod (pv 1) pe_int) pe_int)) (pss_one (ps_set (i := 3) sc_P_power_modulo.nd rfl (Or.inl rfl) (pe_op op_mod (pe_op op_mulW (pv 3) (pv 4)) (pv 2)))) pss_nil)
      (pss_cons (ps_set (i := 4) sc_P_power_modulo.nd rfl (Or.inl rfl) (pe_op op_mod (pe_op op_mulW (pv 4) (pv 4)) (pv 2)))
      (pss_one (ps_set (i := 1) sc_P_power_modulo.nd rfl (Or.inl rfl) (pe_op op_fdivW (pv 1) pe_int))))))
      (pss_one (ps_ret (pv 3)))))), ?_⟩
    have hm0 : (0 : Int) < m := by omega
    refine ⟨_, rfl, _, _, rfl, rfl, hm0, _, rfl, _, rfl, _, _, rfl, rfl, hm0, ?_⟩
    refine ⟨fun c σ H' => H' = H ∧ ∃ k' made sq : Int, σ = [some (.int n), some (.int k'), some (.int m), some (.int made), some (.int sq)] ∧ 0 ≤ k' ∧ (made * sq ^ k'.toNat) % m = n ^ k.toNat % m ∧ made % m = made ∧ made.natAbs < 2 ^ 3000 ∧ sq.natAbs < 2 ^ 3000 ∧ c = k'.toNat,
      ⟨_, rfl, k, 1 % m, n % m, rfl, hk, ?_, Int.emod_emod_of_dvd _ (Int.dvd_refl _), mod_lt3000 hm hb, mod_lt3000 hm hb, rfl⟩, ?_⟩
    · rw [Int.mul_emod, Int.emod_emod_of_dvd _ (Int.dvd_refl _), ← Int.mul_emod, Int.one_mul]
      exact pow_mod _ _ _
    rintro c σ _ ⟨rfl, k', made, sq, rfl, hk', e, em, b1, b2, rfl⟩
    refine ⟨_, rfl, _, _, rfl, rfl, _, rfl, ifd (fun h => ⟨_, fun _ _ z => z, ?_⟩) (fun h => ?_)⟩
    · have hh := pow_half sq k' h
      have hsq : ((sq * sq) ^ (k' / 2).toNat) % m = ((sq * sq % m) ^ (k' / 2).toNat) % m := (pow_mod _ _ _).symm
      refine ⟨_, rfl, _, _, rfl, rfl, (by show (0 : Int) < 2; decide), _, _, rfl, rfl, _, rfl, ifd (fun h2 => ?_) (fun h2 => ?_)⟩
      · refine ⟨_, rfl, _, rfl, _, _, rfl, rfl, CMulW.of b1 b2, _, rfl, _, _, rfl, rfl, hm0, ?_⟩
        refine ⟨_, rfl, _, rfl, _, _, rfl, rfl, CMulW.of b2 b2, _, rfl, _, _, rfl, rfl, hm0, ?_⟩
        refine ⟨_, rfl, _, _, rfl, rfl, CDivW.of (by decide) (by decide +kernel), ?_⟩
        refine ⟨_, ?_, rfl, k' / 2, _, _, rfl, by omega, ?_, Int.emod_emod_of_dvd _ (Int.dvd_refl _), mod_lt3000 hm hb, mod_lt3000 hm hb, rfl⟩
        · omega
        · rw [← e, hh, h2]
          show made * sq % m * (sq * sq % m) ^ (k' / 2).toNat % m = made * ((sq * sq) ^ (k' / 2).toNat * sq ^ 1) % m
          rw [Int.mul_emod, ← hsq, Int.emod_emod_of_dvd _ (Int.dvd_refl _), ← Int.mul_emod, Int.pow_one]
          congr 1
          rw [Int.mul_assoc, Int.mul_comm sq]
      · refine ⟨_, rfl, _, rfl, _, _, rfl, rfl, CMulW.of b2 b2, _, rfl, _, _, rfl, rfl, hm0, ?_⟩
        refine ⟨_, rfl, _, _, rfl, rfl, CDivW.of (by decide) (by decide +kernel), ?_⟩
        refine ⟨_, ?_, rfl, k' / 2, _, _, rfl, by omega, ?_, em, b1, mod_lt3000 hm hb, rfl⟩
        · omega
        · have h3 : k' % 2 = 0 := by omega
          rw [← e, hh, h3]
          show made * (sq * sq % m) ^ (k' / 2).toNat % m = made * ((sq * sq) ^ (k' / 2).toNat * sq ^ 0) % m
          rw [Int.mul_emod, ← hsq, ← Int.mul_emod, Int.pow_zero, Int.mul_one]
    · have h3 : k' = 0 := by omega
      subst h3
      have e2 : made = n ^ k.toNat % m := by
        rw [← e]
        show made = made * sq ^ 0 % m
        rw [Int.pow_zero, Int.mul_one, em]
      refine ⟨_, rfl, ?_⟩
      rw [e2]
      exact q
end
end Sf

namespace Sf
/-! primes by trial -/
def PrP (n : Int) : Prop := 2 ≤ n ∧ ∀ k : Int, 2 ≤ k → k < n → n % k ≠ 0
theorem prp_of_trial {n d : Int} (hn : 2 ≤ n) (hd : 2 ≤ d) (h : ∀ k : Int, 2 ≤ k → k < d → n % k ≠ 0) (hl : n < d * d) : PrP n := by
  refine ⟨hn, fun k h2 hk hz => ?_⟩
  by_cases hkd : k < d
  · exact h k h2 hkd hz
  · have e : n = k * (n / k) := by
      have := Int.emod_add_mul_ediv n k
      omega
    have hm0 : 0 < n / k := by
      rcases Int.lt_or_le 0 (n / k) with z | z
      · exact z
      · have : k * (n / k) ≤ 0 := Int.mul_nonpos_of_nonneg_of_nonpos (by omega) z
        omega
    have hm1 : n / k ≠ 1 := fun z => by
      rw [z] at e
      omega
    have h3 : d * (n / k) ≤ k * (n / k) := Int.mul_le_mul_of_nonneg_right (by omega) (by omega)
    have h4 : d * (n / k) < d * d := by omega
    have h5 : n / k < d := Int.lt_of_mul_lt_mul_left h4 (by omega)
    refine h (n / k) (by omega) h5 ?_
    rw [e]
    exact Int.emod_eq_zero_of_dvd ⟨k, by rw [Int.mul_ediv_cancel_left _ (by omega : k ≠ 0)]; exact Int.mul_comm _ _⟩
/-- no divisor below d; d is 2 or odd -/
def NoDiv (n d : Int) : Prop := 2 ≤ d ∧ (d = 2 ∨ d % 2 = 1) ∧ ∀ k : Int, 2 ≤ k → k < d → n % k ≠ 0
theorem nodiv2 (n : Int) : NoDiv n 2 := ⟨by omega, .inl rfl, fun k h1 h2 => by omega⟩
theorem mod_of_dvd {n a b : Int} (h : n % b = 0) (hb : b % a = 0) : n % a = 0 := by
  have h1 : b ∣ n := Int.dvd_of_emod_eq_zero h
  have h2 : a ∣ b := Int.dvd_of_emod_eq_zero hb
  exact Int.emod_eq_zero_of_dvd (Int.dvd_trans h2 h1)
theorem nodiv_next {n d : Int} (h : NoDiv n d) (hd : n % d ≠ 0) : NoDiv n (if d = 2 then 3 else d + 2) := by
  obtain ⟨h1, h2, h3⟩ := h
  by_cases e : d = 2
  · rw [if_pos e]
    refine ⟨by omega, .inr rfl, fun k a b => ?_⟩
    have : k = d := by omega
    rw [this]
    exact hd
  · rw [if_neg e]
    refine ⟨by omega, .inr (by omega), fun k a b => ?_⟩
    by_cases c : k < d
    · exact h3 k a c
    · by_cases c2 : k = d
      · rw [c2]
        exact hd
      · intro z
        exact h3 2 (by omega) (by omega) (mod_of_dvd z (by omega))
theorem nodiv_prime {n d : Int} (h : NoDiv n d) (hd : n % d = 0) : PrP d := by
  refine ⟨h.1, fun k a b z => ?_⟩
  exact h.2.2 k a b (mod_of_dvd hd z)
theorem nodiv_of {n u d : Int} (h : NoDiv n d) (hu : n % u = 0) : NoDiv u d := ⟨h.1, h.2.1, fun k a b z => h.2.2 k a b (mod_of_dvd hu z)⟩
theorem nodiv_lt {n d : Int} (h : NoDiv n d) (hn : 2 ≤ n) : d ≤ n := by
  rcases Int.lt_or_le n d with z | z
  · exact absurd Int.emod_self (h.2.2 n hn z)
  · exact z
/-! factors -/
def prodF : List (Int × Nat) → Int
  | [] => 1
  | q :: l => q.1 ^ q.2 * prodF l
theorem prodF_append : ∀ l m : List (Int × Nat), prodF (l ++ m) = prodF l * prodF m
  | [], m => by
    show prodF m = 1 * prodF m
    rw [Int.one_mul]
  | q :: l, m => by
    show q.1 ^ q.2 * prodF (l ++ m) = q.1 ^ q.2 * prodF l * prodF m
    rw [prodF_append l m, Int.mul_assoc]
def Sorted (l : List (Int × Nat)) : Prop := l.Pairwise fun a b => a.1 < b.1
def Primes (l : List (Int × Nat)) : Prop := ∀ q ∈ l, PrP q.1 ∧ 1 ≤ q.2
def FactOf (n : Int) (l : List (Int × Nat)) : Prop := prodF l = n ∧ Sorted l ∧ Primes l
theorem pow_pos_int {p : Int} (h : 0 < p) (e : Nat) : 0 < p ^ e := Int.pow_pos h
theorem pow_ge {p : Int} (h : 2 ≤ p) : ∀ {e : Nat}, 1 ≤ e → 2 ≤ p ^ e
  | 0, h0 => by omega
  | e + 1, _ => by
    rw [Int.pow_succ]
    have h1 : 0 < p ^ e := pow_pos_int (by omega) e
    have h2 : 1 * 2 ≤ p ^ e * p := Int.mul_le_mul (by omega) h (by omega) (by omega)
    omega
theorem prodF_len : ∀ {l : List (Int × Nat)}, Primes l → (2 : Int) ^ l.length ≤ prodF l
  | [], _ => Int.le_refl _
  | q :: l, h => by
    have ih := prodF_len (l := l) fun r hr => h r (List.mem_cons_of_mem _ hr)
    obtain ⟨hp, he⟩ := h q List.mem_cons_self
    have h1 : 2 ≤ q.1 ^ q.2 := pow_ge hp.1 he
    show (2 : Int) ^ (l.length + 1) ≤ q.1 ^ q.2 * prodF l
    rw [Int.pow_succ, Int.mul_comm]
    have h0 : (0 : Int) < 2 ^ l.length := pow_pos_int (by omega) _
    exact Int.mul_le_mul h1 ih (by omega) (by omega)
theorem len_of_prod {l : List (Int × Nat)} (h : Primes l) (hb : prodF l ≤ 1000000000) : l.length < 30 := by
  have h1 := prodF_len h
  rcases Nat.lt_or_ge l.length 30 with z | z
  · exact z
  · have e : l.length = 30 + (l.length - 30) := by omega
    have h3 : (2 : Int) ^ 30 = 1073741824 := by decide
    have h4 : (0 : Int) < 2 ^ (l.length - 30) := pow_pos_int (by omega) _
    rw [e, Int.pow_add, h3] at h1
    omega
end Sf

namespace Sf
open PySem PySem.Spec PyProof.Rows L2
/-- what the module's names hold -/
structure Glob (mg : Str → Option Value) : Prop where
  m_isinstance : mg "isinstance" = none
  m_int : mg "int" = none
  m_bool : mg "bool" = none
  m_abs : mg "abs" = none
  m_str : mg "str" = none
  m_sorted : mg "sorted" = none
  m_tuple : mg "tuple" = none
  m_set : mg "set" = none
  m_len : mg "len" = none
  m_zip : mg "zip" = none
  m_any : mg "any" = none
  m_all : mg "all" = none
  m_range : mg "range" = none
  m_max : mg "max" = none
  m_enumerate : mg "enumerate" = none
  m_list : mg "list" = none
  m_min : mg "min" = none
  m_gcd : mg "gcd" = some (.builtin "math.gcd")
  m_lcm : mg "lcm" = some (.builtin "math.lcm")
  m_TOO_LONG : ∃ t, mg "TOO_LONG" = some (.int 1000000000000000000000000000000000000000000000000000000000000 t)
  m_MAX_NUMBER : ∃ t, mg "MAX_NUMBER" = some (.int 1000000000 t)
  m_MAX_POWER : ∃ t, mg "MAX_POWER" = some (.int 1000 t)
/-- what isinstance(x, int) and not isinstance(x, bool) comes to -/
def IntB (K : PySem.W.Frag) (H : Hp) (x : V) (b : Bool) : Prop := ∃ (t : String) (bi bb : Bool), TyX K H x (.type t) ∧ kitB t "int" = some bi ∧ kitB t "bool" = some bb ∧ b = (bi && !bb)
theorem IntB.int {K : PySem.W.Frag} {H : Hp} (i : Int) : IntB K H (.int i) true := ⟨"int", true, false, .base (.int i), by decide +kernel, by decide +kernel, rfl⟩
theorem IntB.bl {K : PySem.W.Frag} {H : Hp} (i : Bool) : IntB K H (.bl i) false := ⟨"bool", true, true, .base (.bl i), by decide +kernel, by decide +kernel, rfl⟩
theorem IntB.non {K : PySem.W.Frag} {H : Hp} : IntB K H .non false := ⟨"NoneType", false, false, .base .non, by decide +kernel, by decide +kernel, rfl⟩
theorem IntB.str {K : PySem.W.Frag} {H : Hp} (x : Str) : IntB K H (.str x) false := ⟨"str", false, false, .base (.str x), by decide +kernel, by decide +kernel, rfl⟩
theorem IntB.lst {K : PySem.W.Frag} {H : Hp} {a : Addr} {xs : List V} (h : H a = some (.lst xs)) : IntB K H (.ref a) false := ⟨"list", false, false, .base (.lst h), by decide +kernel, by decide +kernel, rfl⟩
theorem IntB.tup {K : PySem.W.Frag} {H : Hp} {a : Addr} {xs : List V} (h : H a = some (.tup xs)) : IntB K H (.ref a) false := ⟨"tuple", false, false, .base (.tup h), by decide +kernel, by decide +kernel, rfl⟩
theorem IntB.dK {K : PySem.W.Frag} {H : Hp} {a : Addr} {xs : List (Key × V)} (h : H a = some (.dK xs)) : IntB K H (.ref a) false := ⟨"dict", false, false, .base (.dK h), by decide +kernel, by decide +kernel, rfl⟩
end Sf

namespace Sf
open PySem PySem.Spec PyProof.Rows L2
section
variable {P : Program} {w : World} {K : PySem.W.Frag} {mg : Str → Option Value} {base : Heap} {f : Addr} {fd : FuncData}
def spIsInt (K : PySem.W.Frag) : Sp := fun vs H Q _ => ∃ (x : V) (b : Bool), vs = [x] ∧ IntB K H x b ∧ Q (.bl b) H
theorem ok_is_integer (F : FnD K "is_integer" "is_integer" s_P_is_integer f fd) (T : Glob mg) : FnOk P w K mg base CX0 1 f fd ["value"] (spIsInt K) := by
  refine F.ok sc_P_is_integer (fun vs H Q E h => ?_) (fun cdv A outer s H vs Q E hr h => ?_)
  · obtain ⟨x, b, rfl, _⟩ := h; rfl
  · obtain ⟨x, b, rfl, ⟨t, bi, bb, ty, h1, h2, rfl⟩, q⟩ := h
    refine ⟨_, PSs.nox (pss_one (ps_ret (pe_and (pe_callB call_isi (by rfl) T.m_isinstance (by decide +kernel) (pa_cons (pv 0) (pa_cons (pe_bltn (v := .ty "int") (u := .type "int") (by rfl) T.m_int (by decide +kernel) rfl) pa_nil))) (pe_one (pe_not (pe_callB call_isi (by rfl) T.m_isinstance (by decide +kernel) (pa_cons (pv 0) (pa_cons (pe_bltn (v := .ty "bool") (u := .type "bool") (by rfl) T.m_bool (by decide +kernel) rfl) pa_nil)))))))), ?_⟩
    refine ⟨_, rfl, _, _, _, _, _, rfl, .ty "int", ty, kit_ty h1, _, rfl, ifb (fun e => ?_) (fun e => ?_)⟩
    · refine ⟨_, rfl, _, _, _, _, _, rfl, .ty "bool", ty, kit_ty h2, _, rfl, ?_⟩
      rw [e] at q
      exact q
    · rw [e] at q
      exact q
end
end Sf

namespace Sf
open PySem PySem.Spec PyProof.Rows L2
section
variable {P : Program} {w : World} {K : PySem.W.Frag} {mg : Str → Option Value} {base : Heap} {f : Addr} {fd : FuncData}
def spCheckNumber : Sp := fun vs H Q _ => ∃ n : Int, vs = [.int n] ∧ n ≠ 0 ∧ -1000000000 ≤ n ∧ n ≤ 1000000000 ∧ Q .non H
theorem ok_check_number (F : FnD K "check_number" "check_number" s_P_check_number f fd) (T : Glob mg) (C_P_is_integer : Cal P w K mg base 1 "is_integer" ["value"] (spIsInt K)) : FnOk P w K mg base CX0 2 f fd ["value"] spCheckNumber := by
  refine F.ok sc_P_check_number (fun vs H Q E h => ?_) (fun cdv A outer s H vs Q E hr h => ?_)
  · obtain ⟨n, rfl, _⟩ := h; rfl
  · obtain ⟨n, rfl, h0, h1, h2, q⟩ := h
    obtain ⟨tM, hc_MAX_NUMBER⟩ := T.m_MAX_NUMBER
    refine ⟨_, PSs.nox (pss_one (ps_if (PW.pt (pw_or (pt_not (pt_val (pe_cal C_P_is_integer (hr.mono (by decide)) (pa_cons (pv 0) pa_nil)))) (pw_or (pt_cmp (pc_eqI (pv 0) pe_int)) (pw_or1 (pt_cmp (pc_gt (pe_callB call_abs (by rfl) T.m_abs (by decide +kernel) (pa_cons (pv 0) pa_nil)) (pe_glob (v := .int 1000000000) rfl hc_MAX_NUMBER ⟨_, rfl⟩))))))) (pss_one ps_never) pss_nil)), ?_⟩
    refine ⟨_, rfl, .int n, true, rfl, .int n, _, rfl, iteF ?_⟩
    refine ⟨_, rfl, _, _, rfl, rfl, _, rfl, ifd (fun e => absurd e h0) (fun _ => ?_)⟩
    refine ⟨_, rfl, n, rfl, _, _, rfl, rfl, _, rfl, ifd (fun e => ?_) (fun e => ?_)⟩
    · exfalso
      split at e <;> omega
    · exact q
end
end Sf

namespace Sf
open PySem PySem.Spec PyProof.Rows L2
section
variable {P : Program} {w : World} {K : PySem.W.Frag} {mg : Str → Option Value} {base : Heap} {f : Addr} {fd : FuncData}
/-- the residue sign by a power -/
def restSign (n p : Int) : Int := if n % p = 0 then 0 else if p = 2 then (if n % 8 = 1 ∨ n % 8 = 7 then 1 else -1) else if n ^ ((p - 1) / 2).toNat % p = 1 then 1 else -1
def spRestSign : Sp := fun vs H Q _ => ∃ n p : Int, vs = [.int n, .int p] ∧ 2 ≤ p ∧ p.natAbs < 2 ^ 1000 ∧ ∀ H', Same H H' → Q (.int (restSign n p)) H'
theorem ok_rest_sign (F : FnD K "rest_sign" "rest_sign" s_P_rest_sign f fd) (C_P_power_modulo : Cal P w K mg base 1 "power_modulo" ["number", "many", "modulus"] spPowMod) : FnOk P w K mg base CX0 2 f fd ["number", "prime"] spRestSign := by
  refine F.ok sc_P_rest_sign (fun vs H Q E h => ?_) (fun cdv A outer s H vs Q E hr h => ?_)
  · obtain ⟨n, p, rfl, _⟩ := h; rfl
  · obtain ⟨n, p, rfl, hp, hb, q⟩ := h
    refine ⟨_, PSs.nox (pss_cons (ps_if (pt_cmp (pc_eqI (pe_op op_mod (pv 0) (pv 1)) pe_int)) (pss_one (ps_ret pe_int)) pss_nil)
      (pss_cons (ps_if (pt_cmp (pc_eqI (pv 1) pe_int)) (pss_one (ps_ret (pe_ifExp (pt_cmpR op_in_seq (pe_op op_mod (pv 0) pe_int) (pe_tup (pa_cons pe_int (pa_cons pe_int pa_nil))) (by rfl)) pe_int (pe_un un_neg pe_int)))) pss_nil)
      (pss_one (ps_ret (pe_ifExp (pt_cmp (pc_eqI (pe_cal C_P_power_modulo (hr.mono (by decide)) (pa_cons (pv 0) (pa_cons (pe_op op_fdivW (pe_op op_sub (pv 1) pe_int) pe_int) (pa_cons (pv 1) pa_nil)))) pe_int)) pe_int (pe_un un_neg pe_int)))))), ?_⟩
    unfold restSign at q
    refine ⟨_, rfl, _, rfl, _, _, rfl, rfl, (by omega), _, _, rfl, rfl, _, rfl, ifd (fun h => ?_) (fun h => ?_)⟩
    · rw [if_pos h] at q
      exact q H (Same.refl H)
    · rw [if_neg h] at q
      refine ⟨_, rfl, _, _, rfl, rfl, _, rfl, ifd (fun h2 => ?_) (fun h2 => ?_)⟩
      · rw [if_pos h2] at q
        refine ⟨_, rfl, _, _, rfl, rfl, (by show (0 : Int) < 8; decide), (by show 2 ≤ sizeLine; decide), fun a ha => ?_⟩
        refine ⟨a, _, rfl, .inr (.inl (.inl upd_same)), rfl, rfl, _, rfl, ?_⟩
        rw [inV_two]
        refine ifd (fun e => ?_) (fun e => ?_)
        · rw [if_pos e] at q
          exact q _ (same_upd ha)
        · rw [if_neg e] at q
          exact ⟨_, rfl, q _ (same_upd ha)⟩
      · rw [if_neg h2] at q
        refine ⟨_, rfl, _, rfl, _, _, rfl, rfl, _, _, rfl, rfl, CDivW.of (by decide) (by decide +kernel), _, rfl, n, (p - 1) / 2, p, rfl, by omega, by omega, hb, _, _, rfl, rfl, _, rfl, ifd (fun h3 => ?_) (fun h3 => ?_)⟩
        · rw [if_pos h3] at q
          exact q H (Same.refl H)
        · rw [if_neg h3] at q
          exact ⟨_, rfl, q H (Same.refl H)⟩
end
end Sf

namespace Sf
open PySem PySem.Spec PyProof.Rows L2
/-- the sack of draws: three numbers, so many draws made -/
def SackO (n : Nat) (xs : List V) : Prop := ∃ a b c : Int, xs = [.int a, .int b, .int c] ∧ 0 ≤ a ∧ a < 10 ^ 400 ∧ 0 ≤ b ∧ b < 1000000000000000000000000 ∧ 0 ≤ c ∧ c ≤ n
theorem sq_upd {K : PySem.W.Frag} {H : Hp} {a p : Addr} {xs : List V} {o : HO} (h : SqL K H a xs) (n : a ≠ p) : SqL K (upd H p o) a xs := by
  rcases h with (h | ⟨u, h⟩) | h
  · exact .inl (.inl (by rw [upd_ne n]; exact h))
  · exact .inl (.inr ⟨u, by rw [upd_ne n]; exact h⟩)
  · exact .inr h
end Sf

namespace Sf
open PySem PySem.Spec PyProof.Rows L2
/-- all but the thing at p stays -/
def Keep (p : Addr) (H H' : Hp) : Prop := ∀ b o, H b = some o → b ≠ p → H' b = some o
theorem Keep.refl (p : Addr) (H : Hp) : Keep p H H := fun _ _ h _ => h
theorem Keep.trans {p : Addr} {H H1 H2 : Hp} (a : Keep p H H1) (b : Keep p H1 H2) : Keep p H H2 := fun c o h n => b c o (a c o h n) n
theorem Keep.same {p : Addr} {H H' : Hp} (s : Same H H') : Keep p H H' := fun c o h _ => s c o h
theorem Keep.upd {p : Addr} {H : Hp} {o : HO} : Keep p H (upd H p o) := fun c u h n => by rw [upd_ne n]; exact h
theorem Keep.new {p q : Addr} {H : Hp} {o : HO} (h : H q = none) : Keep p H (L2.upd H q o) := Keep.same (same_upd h)
/-- the sack stands at p, n draws made at most -/
def Sk (p : Addr) (n : Nat) (H : Hp) : Prop := ∃ xs, H p = some (.lst xs) ∧ SackO n xs
theorem SackO.mono {n m : Nat} {xs : List V} (h : SackO n xs) (l : n ≤ m) : SackO m xs := by
  obtain ⟨a, b, c, e, h1, h2, h3, h4, h5, h6⟩ := h
  exact ⟨a, b, c, e, h1, h2, h3, h4, h5, by omega⟩
theorem Sk.mono {p : Addr} {n m : Nat} {H : Hp} (h : Sk p n H) (l : n ≤ m) : Sk p m H := let ⟨xs, a, b⟩ := h; ⟨xs, a, b.mono l⟩
theorem Sk.same {p : Addr} {n : Nat} {H H' : Hp} (h : Sk p n H) (s : Same H H') : Sk p n H' := let ⟨xs, a, b⟩ := h; ⟨xs, s _ _ a, b⟩
theorem Sk.ne {p q : Addr} {n : Nat} {H : Hp} (h : Sk p n H) (hq : H q = none) : p ≠ q := let ⟨_, a, _⟩ := h; ne_of_none a hq
theorem Keep.free {p q : Addr} {n : Nat} {H H' : Hp} (k : Keep p H H') (s : Sk p n H') (h : H' q = none) : H q = none := by
  cases e : H q with
  | none => rfl
  | some o =>
    have n : q ≠ p := fun z => by
      obtain ⟨_, a, _⟩ := s
      rw [z, a] at h
      cases h
    rw [k q o e n] at h
    cases h
end Sf

namespace Sf
/-! the state of trial division: what was found, what is left -/
structure Trial (N : Int) (l : List (Int × Nat)) (r d : Int) : Prop where
  prod : prodF l * r = N
  pos : 1 ≤ r
  le : r ≤ N
  srt : Sorted l
  prm : Primes l
  low : ∀ q ∈ l, q.1 < d
  nod : NoDiv r d
theorem trial_start {N : Int} (h : 1 ≤ N) : Trial N [] N 2 := ⟨by show 1 * N = N; omega, h, Int.le_refl _, List.Pairwise.nil, (fun _ h => by cases h), (fun _ h => by cases h), nodiv2 N⟩
theorem sorted_snoc {l : List (Int × Nat)} {p : Int} {e : Nat} (h : Sorted l) (hl : ∀ q ∈ l, q.1 < p) : Sorted (l ++ [(p, e)]) := by
  unfold Sorted at *
  rw [List.pairwise_append]
  refine ⟨h, List.pairwise_singleton _ _, fun a ha b hb => ?_⟩
  rw [List.mem_singleton] at hb
  rw [hb]
  exact hl a ha
theorem primes_snoc {l : List (Int × Nat)} {p : Int} {e : Nat} (h : Primes l) (hp : PrP p) (he : 1 ≤ e) : Primes (l ++ [(p, e)]) := fun q hq => by
  rcases List.mem_append.mp hq with z | z
  · exact h q z
  · rw [List.mem_singleton] at z
    rw [z]
    exact ⟨hp, he⟩
theorem prodF_one (p : Int) (e : Nat) : prodF [(p, e)] = p ^ e := by
  show p ^ e * 1 = p ^ e
  rw [Int.mul_one]
theorem next_gt {d : Int} (h : 2 ≤ d) : d < (if d = 2 then 3 else d + 2) := by split <;> omega
theorem trial_pass {N r d : Int} {l : List (Int × Nat)} (h : Trial N l r d) (hd : r % d ≠ 0) : Trial N l r (if d = 2 then 3 else d + 2) :=
  ⟨h.prod, h.pos, h.le, h.srt, h.prm, fun q hq => Int.lt_trans (h.low q hq) (next_gt h.nod.1), nodiv_next h.nod hd⟩
theorem trial_take {N r d u : Int} {m : Nat} {l : List (Int × Nat)} (h : Trial N l r d) (hd : r % d = 0) (e : r = d ^ m * u) (hu : u % d ≠ 0) : Trial N (l ++ [(d, m)]) u (if d = 2 then 3 else d + 2) ∧ 1 ≤ m ∧ u ≤ r := by
  have hd2 := h.nod.1
  have hr := h.pos
  have hm : 1 ≤ m := by
    rcases Nat.eq_zero_or_pos m with z | z
    · subst z
      rw [Int.pow_zero, Int.one_mul] at e
      rw [e] at hd
      exact absurd hd hu
    · exact z
  have hdm : 0 < d ^ m := pow_pos_int (by omega) m
  have hu0 : 1 ≤ u := by
    rcases Int.lt_or_le 0 u with z | z
    · omega
    · have := Int.mul_nonpos_of_nonneg_of_nonpos (Int.le_of_lt hdm) z
      omega
  have hur : u ≤ r := by
    have : 1 * u ≤ d ^ m * u := Int.mul_le_mul_of_nonneg_right (by omega) (by omega)
    omega
  have hdu : r % u = 0 := Int.emod_eq_zero_of_dvd ⟨d ^ m, by rw [e]; exact Int.mul_comm _ _⟩
  refine ⟨⟨?_, hu0, Int.le_trans hur h.le, sorted_snoc h.srt h.low, primes_snoc h.prm (nodiv_prime h.nod hd) hm, fun q hq => ?_, nodiv_next (nodiv_of h.nod hdu) hu⟩, hm, hur⟩
  · rw [prodF_append, prodF_one, Int.mul_assoc, ← e]
    exact h.prod
  · have hn := next_gt hd2
    rcases List.mem_append.mp hq with z | z
    · exact Int.lt_trans (h.low q z) hn
    · rw [List.mem_singleton] at z
      rw [z]
      exact hn
theorem trial_end1 {N d : Int} {l : List (Int × Nat)} (h : Trial N l 1 d) : FactOf N l := ⟨by have := h.prod; rw [Int.mul_one] at this; exact this, h.srt, h.prm⟩
theorem trial_end {N r d : Int} {l : List (Int × Nat)} (h : Trial N l r d) (hr : 1 < r) (hd : r < d * d) : FactOf N (l ++ [(r, 1)]) ∧ ∀ q ∈ l, q.1 < r := by
  have h2 := nodiv_lt h.nod (by omega)
  have hl : ∀ q ∈ l, q.1 < r := fun q hq => Int.lt_of_lt_of_le (h.low q hq) h2
  have hp : PrP r := prp_of_trial (by omega) h.nod.1 h.nod.2.2 hd
  refine ⟨⟨?_, sorted_snoc h.srt hl, primes_snoc h.prm hp (by omega)⟩, hl⟩
  rw [prodF_append, prodF_one, Int.pow_succ, Int.pow_zero, Int.one_mul]
  exact h.prod
theorem prodF_pos {l : List (Int × Nat)} (h : Primes l) : 1 ≤ prodF l := by
  have h1 := prodF_len h
  have h2 : (0 : Int) < 2 ^ l.length := pow_pos_int (by omega) _
  omega
theorem trial_len {N r d : Int} {l : List (Int × Nat)} (h : Trial N l r d) (hN : N ≤ 1000000000) : l.length < 30 := by
  refine len_of_prod h.prm ?_
  have h1 := prodF_pos h.prm
  have h2 := h.prod
  have h3 := h.pos
  have h4 : prodF l * 1 ≤ prodF l * r := Int.mul_le_mul_of_nonneg_left h3 (by omega)
  omega
theorem fact_len {N : Int} {l : List (Int × Nat)} (h : FactOf N l) (hN : N ≤ 1000000000) : l.length < 30 := len_of_prod h.2.2 (by rw [h.1]; exact hN)
/-- the product of the primes with an odd power -/
def oddF : List (Int × Nat) → Int
  | [] => 1
  | q :: l => (if q.2 % 2 = 1 then q.1 else 1) * oddF l
theorem oddF_append : ∀ l m : List (Int × Nat), oddF (l ++ m) = oddF l * oddF m
  | [], m => by
    show oddF m = 1 * oddF m
    rw [Int.one_mul]
  | q :: l, m => by
    show (if q.2 % 2 = 1 then q.1 else 1) * oddF (l ++ m) = (if q.2 % 2 = 1 then q.1 else 1) * oddF l * oddF m
    rw [oddF_append l m, Int.mul_assoc]
theorem pow_split (p : Int) (e : Nat) : p ^ e = (if e % 2 = 1 then p else 1) * (p ^ (e / 2) * p ^ (e / 2)) := by
  have e1 : e = e % 2 + (e / 2 + e / 2) := by omega
  conv => lhs; rw [e1]
  rw [Int.pow_add, Int.pow_add]
  congr 1
  split
  · rename_i h
    rw [h, Int.pow_succ, Int.pow_zero, Int.one_mul]
  · rename_i h
    rw [show e % 2 = 0 by omega, Int.pow_zero]
theorem oddF_bound {l : List (Int × Nat)} : Primes l → 1 ≤ oddF l ∧ oddF l ≤ prodF l := by
  induction l with
  | nil => intro _; exact ⟨Int.le_refl _, Int.le_refl _⟩
  | cons q l ih =>
    intro h
    have ih := ih fun r hr => h r (List.mem_cons_of_mem _ hr)
    obtain ⟨hp, he⟩ := h q List.mem_cons_self
    have hp2 := hp.1
    have h1 : 1 ≤ (if q.2 % 2 = 1 then q.1 else 1) := by split <;> omega
    have h2 : (if q.2 % 2 = 1 then q.1 else 1) ≤ q.1 ^ q.2 := by
      rw [pow_split q.1 q.2]
      have h3 : 0 < q.1 ^ (q.2 / 2) := pow_pos_int (by omega) _
      have h4 : 0 < q.1 ^ (q.2 / 2) * q.1 ^ (q.2 / 2) := Int.mul_pos h3 h3
      have h5 : (if q.2 % 2 = 1 then q.1 else 1) * 1 ≤ (if q.2 % 2 = 1 then q.1 else 1) * (q.1 ^ (q.2 / 2) * q.1 ^ (q.2 / 2)) := Int.mul_le_mul_of_nonneg_left h4 (by omega)
      omega
    show 1 ≤ (if q.2 % 2 = 1 then q.1 else 1) * oddF l ∧ (if q.2 % 2 = 1 then q.1 else 1) * oddF l ≤ q.1 ^ q.2 * prodF l
    refine ⟨?_, Int.mul_le_mul h2 ih.2 (by omega) (by omega)⟩
    have := Int.mul_pos (show 0 < (if q.2 % 2 = 1 then q.1 else 1) by omega) (show 0 < oddF l by omega)
    omega
theorem prodF_take {l : List (Int × Nat)} (h : Primes l) (i : Nat) : prodF (l.take i) ≤ prodF l := by
  have e : prodF l = prodF (l.take i) * prodF (l.drop i) := by rw [← prodF_append, List.take_append_drop]
  have h1 : 1 ≤ prodF (l.take i) := prodF_pos fun q hq => h q (List.mem_of_mem_take hq)
  have h2 : 1 ≤ prodF (l.drop i) := prodF_pos fun q hq => h q (List.mem_of_mem_drop hq)
  have h3 : prodF (l.take i) * 1 ≤ prodF (l.take i) * prodF (l.drop i) := Int.mul_le_mul_of_nonneg_left h2 (by omega)
  omega
theorem self_le_pow {p : Int} (h : 2 ≤ p) : ∀ {e : Nat}, 1 ≤ e → p ≤ p ^ e
  | 0, h0 => by omega
  | e + 1, _ => by
    rw [Int.pow_succ]
    have h1 : 0 < p ^ e := pow_pos_int (by omega) e
    have h2 : 1 * p ≤ p ^ e * p := Int.mul_le_mul_of_nonneg_right (by omega) (by omega)
    omega
theorem prodF_mem : ∀ {l : List (Int × Nat)}, Primes l → ∀ q ∈ l, q.1 ≤ prodF l
  | [], _, q, hq => by cases hq
  | r :: l, h, q, hq => by
    have h1 : 1 ≤ prodF l := prodF_pos fun q hq => h q (List.mem_cons_of_mem _ hq)
    obtain ⟨hp, he⟩ := h r List.mem_cons_self
    have hp2 := hp.1
    have h2 := self_le_pow hp2 he
    show q.1 ≤ r.1 ^ r.2 * prodF l
    rcases List.mem_cons.mp hq with z | z
    · subst z
      have h3 : q.1 ^ q.2 * 1 ≤ q.1 ^ q.2 * prodF l := Int.mul_le_mul_of_nonneg_left h1 (by omega)
      omega
    · have h3 := prodF_mem (l := l) (fun q hq => h q (List.mem_cons_of_mem _ hq)) q z
      have h4 : 1 * prodF l ≤ r.1 ^ r.2 * prodF l := Int.mul_le_mul_of_nonneg_right (by omega) (by omega)
      omega
theorem nat_lt_pow {p : Int} (h : 2 ≤ p) : ∀ e : Nat, (e : Int) < p ^ e
  | 0 => by rw [Int.pow_zero]; decide
  | e + 1 => by
    have ih := nat_lt_pow h e
    rw [Int.pow_succ]
    have h1 : 0 < p ^ e := pow_pos_int (by omega) e
    have h2 : p ^ e * 2 ≤ p ^ e * p := Int.mul_le_mul_of_nonneg_left h (by omega)
    omega
theorem prodF_mem2 : ∀ {l : List (Int × Nat)}, Primes l → ∀ q ∈ l, (q.2 : Int) < prodF l
  | [], _, q, hq => by cases hq
  | r :: l, h, q, hq => by
    have h1 : 1 ≤ prodF l := prodF_pos fun q hq => h q (List.mem_cons_of_mem _ hq)
    obtain ⟨hp, he⟩ := h r List.mem_cons_self
    have hp2 := hp.1
    have h2 := self_le_pow hp2 he
    show (q.2 : Int) < r.1 ^ r.2 * prodF l
    rcases List.mem_cons.mp hq with z | z
    · subst z
      have h3 : q.1 ^ q.2 * 1 ≤ q.1 ^ q.2 * prodF l := Int.mul_le_mul_of_nonneg_left h1 (by omega)
      have h4 := nat_lt_pow hp2 q.2
      omega
    · have h3 := prodF_mem2 (l := l) (fun q hq => h q (List.mem_cons_of_mem _ hq)) q z
      have h4 : 1 * prodF l ≤ r.1 ^ r.2 * prodF l := Int.mul_le_mul_of_nonneg_right (by omega) (by omega)
      omega
end Sf

namespace Sf
open PySem PySem.Spec PyProof.Rows L2
/-- the pairs of a dict of factors -/
def kvsF (l : List (Int × Nat)) : List (Key × V) := l.map fun q => ((Sum.inl q.1 : Key), V.int q.2)
theorem kvsF_none : ∀ {l : List (Int × Nat)} {p : Int}, (∀ q ∈ l, q.1 < p) → valV (kvsF l) (Sum.inl p : Key) = none
  | [], _, _ => rfl
  | q :: l, p, h => by
    show valV (((Sum.inl q.1 : Key), V.int q.2) :: kvsF l) (Sum.inl p : Key) = none
    rw [valV_neg]
    · exact kvsF_none fun r hr => h r (List.mem_cons_of_mem _ hr)
    · intro e
      have e1 : q.1 = p := Sum.inl.inj e
      have := h q List.mem_cons_self
      omega
theorem kvsF_snoc (l : List (Int × Nat)) (p : Int) (e : Nat) : kvsF (l ++ [(p, e)]) = kvsF l ++ [((Sum.inl p : Key), V.int e)] := by
  unfold kvsF
  rw [List.map_append]
  rfl
theorem kvsF_len (l : List (Int × Nat)) : (kvsF l).length = l.length := List.length_map ..
section
variable {P : Program} {w : World} {K : PySem.W.Frag} {mg : Str → Option Value} {base : Heap} {f : Addr} {fd : FuncData}
def absI (n : Int) : Int := if n < 0 then -n else n
def spFactors : Sp := fun vs H Q _ => ∃ n : Int, vs = [.int n] ∧ n ≠ 0 ∧ -1000000000 ≤ n ∧ n ≤ 1000000000 ∧
  ∀ (l : List (Int × Nat)) (d : Addr) (H' : Hp), FactOf (absI n) l → Same H H' → H d = none → H' d = some (.dK (kvsF l)) → Q (.ref d) H'
theorem ok_prime_powers (F : FnD K "prime_powers" "prime_powers" s_P_prime_powers f fd) (T : Glob mg)
    (C_P_stripped : Cal P w K mg base 1 "stripped" ["number", "prime"] spStripped) (C_P_next_divisor : Cal P w K mg base 1 "next_divisor" ["divisor"] spNext) :
    FnOk P w K mg base CX0 2 f fd ["number"] spFactors := by
  refine F.ok sc_P_prime_powers (fun vs H Q E h => ?_) (fun cdv A outer s H vs Q E hr h => ?_)
  · obtain ⟨n, rfl, _⟩ := h; rfl
  · obtain ⟨n, rfl, hn, h1, h2, q⟩ := h
    have hu := hu_of hr
    have hN1 : 1 ≤ absI n := by unfold absI; split <;> omega
    have hN2 : absI n ≤ 1000000000 := by unfold absI; split <;> omega
    refine ⟨_, PSs.nox (pss_cons (ps_set (i := 1) sc_P_prime_powers.nd rfl (Or.inl rfl) (pe_callB call_abs (by rfl) T.m_abs (by decide +kernel) (pa_cons (pv 0) pa_nil)))
      (pss_cons (ps_set (i := 2) sc_P_prime_powers.nd rfl (Or.inl rfl) pe_dnewK)
      (pss_cons (ps_set (i := 3) sc_P_prime_powers.nd rfl (Or.inl rfl) pe_int)
      (pss_cons (ps_while PassesOwn.never (pt_cmp (pc_le (pe_op op_mulW (pv 3) (pv 3)) (pv 1))) (pss_cons (ps_if (pt_cmp (pc_eqI (pe_op op_mod (pv 1) (pv 3)) pe_int)) (pss_one (ps_asg (pe_cal C_P_stripped (hr.mono (by decide)) (pa_cons (pv 1) (pa_cons (pv 3) pa_nil))) (pg_tup (by rfl) (pgs_cons (pg_sub (pv 2) (pv 3) (set_dict hu)) (pgs_cons (pg_name (i := 1) sc_P_prime_powers.nd rfl (Or.inl rfl)) pgs_nil))))) pss_nil)
      (pss_one (ps_set (i := 3) sc_P_prime_powers.nd rfl (Or.inl rfl) (pe_cal C_P_next_divisor (hr.mono (by decide)) (pa_cons (pv 3) pa_nil))))))
      (pss_cons (ps_if (pt_cmp (pc_gt (pv 1) pe_int)) (pss_one (ps_dput hu (pv 2) (pv 1) pe_int rfl)) pss_nil)
      (pss_one (ps_ret (pv 2)))))))), ?_⟩
    refine ⟨_, rfl, n, rfl, fun d hd => ?_⟩
    refine ⟨fun c σ H' => ∃ (l : List (Int × Nat)) (r t : Int), σ = [some (.int n), some (.int r), some (.ref d), some (.int t)] ∧ Same H H' ∧ H' d = some (.dK (kvsF l)) ∧ Trial (absI n) l r t ∧ t ≤ absI n + 2 ∧ c = (r - t + 3).toNat,
      ⟨_, [], absI n, 2, rfl, same_upd hd, upd_same, trial_start hN1, by omega, rfl⟩, ?_⟩
    rintro c σ H' ⟨l, r, t, rfl, hs, hdd, ht, htN, rfl⟩
    have t2 := ht.nod.1
    have rN := ht.le
    have r1 := ht.pos
    have hlen := trial_len ht hN2
    have tb : t.natAbs < 2 ^ 3000 := lt3000s (by omega) (by omega)
    have htt : t * 2 ≤ t * t := Int.mul_le_mul_of_nonneg_left t2 (by omega)
    refine ⟨_, rfl, _, rfl, _, _, rfl, rfl, CMulW.of tb tb, _, rfl, _, _, rfl, rfl, _, rfl, ifd (fun h => ⟨_, fun _ _ z => z, ?_⟩) (fun h => ?_)⟩
    · have tr : t ≤ r := nodiv_lt ht.nod (by omega)
      refine ⟨_, rfl, _, rfl, _, _, rfl, rfl, (by omega), _, _, rfl, rfl, _, rfl, ifd (fun h2 => ?_) (fun h2 => ?_)⟩
      · refine ⟨_, rfl, _, rfl, r, t, rfl, by omega, t2, tb, fun m u a hst ha => ?_⟩
        obtain ⟨k1, k2, k3⟩ := trial_take ht h2 hst.1 hst.2
        have nad : d ≠ a := ne_of_none hdd ha
        refine ⟨a, _, rfl, .inl (.inl upd_same), rfl, _, _, rfl, _, rfl, _, rfl, d, _, rfl, DPut.k (k := Sum.inl t) (by rw [upd_ne nad]; exact hdd) (by rw [kvsF_len]; exact small1000 (by omega)), _, _, rfl, rfl, ?_⟩
        refine ⟨_, rfl, t, rfl, ?_⟩
        refine ⟨_, ?_, l ++ [(t, m)], u, _, rfl, ?_, ?_, k1, ?_, rfl⟩
        · split <;> omega
        · intro b o e
          have h3 := hs b o e
          have nb : b ≠ d := ne_of_none e hd
          rw [upd_ne nb, upd_ne (ne_of_none h3 ha)]
          exact h3
        · rw [upd_same, putK_new _ (kvsF_none ht.low), kvsF_snoc]
        · split <;> omega
      · refine ⟨_, rfl, t, rfl, ?_⟩
        refine ⟨_, ?_, l, r, _, rfl, hs, hdd, trial_pass ht h2, ?_, rfl⟩
        · split <;> omega
        · split <;> omega
    · refine ⟨_, rfl, _, _, rfl, rfl, _, rfl, ifd (fun h3 => ?_) (fun h3 => ?_)⟩
      · obtain ⟨k1, k2⟩ := trial_end ht (by omega) (by omega)
        refine ⟨_, rfl, _, rfl, d, _, rfl, DPut.k (k := Sum.inl r) hdd (by rw [kvsF_len]; exact small1000 (by omega)), ?_⟩
        refine ⟨_, rfl, q _ d _ k1 (fun b o e => ?_) hd ?_⟩
        · rw [upd_ne (ne_of_none e hd)]
          exact hs b o e
        · rw [upd_same, putK_new _ (kvsF_none k2), kvsF_snoc]
          rfl
      · have hr : r = 1 := by omega
        subst hr
        exact ⟨_, rfl, q l d H' (trial_end1 ht) hs hd hdd⟩
theorem ok_factors (F : FnD K "factors" "factors" s_P_factors f fd) (C_P_check_number : Cal P w K mg base 2 "check_number" ["value"] spCheckNumber)
    (C_P_prime_powers : Cal P w K mg base 2 "prime_powers" ["number"] spFactors) :
    FnOk P w K mg base CX0 3 f fd ["number"] spFactors := by
  refine F.ok sc_P_factors (fun vs H Q E h => ?_) (fun cdv A outer s H vs Q E hr h => ?_)
  · obtain ⟨n, rfl, _⟩ := h; rfl
  · obtain ⟨n, rfl, hn, h1, h2, q⟩ := h
    refine ⟨_, PSs.nox (pss_cons (ps_expr (pe_cal C_P_check_number (hr.mono (by decide)) (pa_cons (pv 0) pa_nil)))
      (pss_one (ps_ret (pe_cal C_P_prime_powers (hr.mono (by decide)) (pa_cons (pv 0) pa_nil))))), ?_⟩
    exact ⟨_, rfl, n, rfl, hn, h1, h2, _, rfl, n, rfl, hn, h1, h2, fun l d H1 hf hs hd hdd => q l d H1 hf hs hd hdd⟩
end
end Sf

namespace Sf
/-! a prime divides a product only if it divides a factor -/
theorem PrP.pos {p : Int} (h : PrP p) : 0 < p := by have := h.1; omega
theorem gcd_of_prime {p : Int} (h : PrP p) {a : Int} (ha : ¬ p ∣ a) : Nat.Coprime p.natAbs a.natAbs := by
  have hp := h.1
  have h1 : Nat.gcd p.natAbs a.natAbs ∣ p.natAbs := Nat.gcd_dvd_left ..
  have h2 : Nat.gcd p.natAbs a.natAbs ∣ a.natAbs := Nat.gcd_dvd_right ..
  have h0 : 0 < Nat.gcd p.natAbs a.natAbs := Nat.gcd_pos_of_pos_left _ (by omega)
  have hle : Nat.gcd p.natAbs a.natAbs ≤ p.natAbs := Nat.le_of_dvd (by omega) h1
  unfold Nat.Coprime
  rcases Nat.lt_or_ge (Nat.gcd p.natAbs a.natAbs) 2 with z | z
  · omega
  · rcases Nat.lt_or_ge (Nat.gcd p.natAbs a.natAbs) p.natAbs with z2 | z2
    · exfalso
      refine h.2 (Nat.gcd p.natAbs a.natAbs : Int) (by omega) (by omega) ?_
      refine Int.emod_eq_zero_of_dvd ?_
      have : ((Nat.gcd p.natAbs a.natAbs : Nat) : Int) ∣ ((p.natAbs : Nat) : Int) := Int.ofNat_dvd.mpr h1
      rwa [Int.natAbs_of_nonneg (by omega : 0 ≤ p)] at this
    · exfalso
      have e : Nat.gcd p.natAbs a.natAbs = p.natAbs := by omega
      rw [e] at h2
      exact ha (Int.natAbs_dvd_natAbs.mp h2)
theorem prime_mul {p : Int} (h : PrP p) {a b : Int} (hd : p ∣ a * b) : p ∣ a ∨ p ∣ b := by
  by_cases ha : p ∣ a
  · exact .inl ha
  · refine .inr ?_
    have h1 : p.natAbs ∣ a.natAbs * b.natAbs := by
      rw [← Int.natAbs_mul]
      exact Int.natAbs_dvd_natAbs.mpr hd
    exact Int.natAbs_dvd_natAbs.mp (Nat.Coprime.dvd_of_dvd_mul_left (gcd_of_prime h ha) h1)
theorem prime_one {p : Int} (h : PrP p) : ¬ p ∣ 1 := fun z => by
  have h1 := Int.le_of_dvd (by omega) z
  have := h.1
  omega
theorem prime_pow {p a : Int} (h : PrP p) : ∀ {e : Nat}, p ∣ a ^ e → p ∣ a
  | 0, z => absurd (by rwa [Int.pow_zero] at z) (prime_one h)
  | e + 1, z => by
    rw [Int.pow_succ] at z
    rcases prime_mul h z with y | y
    · exact prime_pow h y
    · exact y
theorem prime_dvd_prime {p q : Int} (hp : PrP p) (hq : PrP q) (h : p ∣ q) : p = q := by
  have h1 := hp.1
  have h2 := hq.1
  have h3 := Int.le_of_dvd (by omega) h
  rcases Int.lt_or_le p q with z | z
  · exact absurd (Int.emod_eq_zero_of_dvd h) (hq.2 p h1 z)
  · omega
theorem prime_prodF {p : Int} (h : PrP p) : ∀ {l : List (Int × Nat)}, Primes l → p ∣ prodF l → ∃ e, (p, e) ∈ l
  | [], _, z => absurd z (prime_one h)
  | q :: l, hl, z => by
    rcases prime_mul h (show p ∣ q.1 ^ q.2 * prodF l from z) with y | y
    · have e := prime_dvd_prime h (hl q List.mem_cons_self).1 (prime_pow h y)
      exact ⟨q.2, by rw [e]; exact List.mem_cons_self⟩
    · obtain ⟨e, he⟩ := prime_prodF h (fun r hr => hl r (List.mem_cons_of_mem _ hr)) y
      exact ⟨e, List.mem_cons_of_mem _ he⟩
theorem pow_cancel {p : Int} (h : PrP p) {R S : Int} (hR : ¬ p ∣ R) (hS : ¬ p ∣ S) : ∀ {a b : Nat}, p ^ a * R = p ^ b * S → a = b ∧ R = S
  | 0, 0, e => ⟨rfl, by rwa [Int.pow_zero, Int.one_mul, Int.one_mul] at e⟩
  | 0, b + 1, e => by
    rw [Int.pow_zero, Int.one_mul, Int.pow_succ, Int.mul_assoc] at e
    refine absurd ?_ hR
    rw [e, Int.mul_comm, Int.mul_assoc]
    exact Int.dvd_mul_right ..
  | a + 1, 0, e => by
    rw [Int.pow_zero, Int.one_mul, Int.pow_succ, Int.mul_assoc] at e
    refine absurd ?_ hS
    rw [← e, Int.mul_comm, Int.mul_assoc]
    exact Int.dvd_mul_right ..
  | a + 1, b + 1, e => by
    have h0 := h.pos
    rw [Int.pow_succ, Int.pow_succ, Int.mul_comm (p ^ a), Int.mul_comm (p ^ b), Int.mul_assoc, Int.mul_assoc] at e
    obtain ⟨h1, h2⟩ := pow_cancel h hR hS (Int.eq_of_mul_eq_mul_left (by omega) e)
    exact ⟨by omega, h2⟩
/-! one number, one factorization -/
def Distinct (l : List (Int × Nat)) : Prop := (l.map (·.1)).Nodup
theorem distinct_of_sorted {l : List (Int × Nat)} (h : Sorted l) : Distinct l := by
  unfold Distinct List.Nodup
  rw [List.pairwise_map]
  exact h.imp fun h e => by omega
theorem distinct_perm {l m : List (Int × Nat)} (h : l.Perm m) (d : Distinct l) : Distinct m := by
  unfold Distinct at *
  exact (h.map _).nodup_iff.mp d
theorem prodF_perm {l m : List (Int × Nat)} (h : l.Perm m) : prodF l = prodF m := by
  induction h with
  | nil => rfl
  | cons x _ ih => show x.1 ^ x.2 * _ = x.1 ^ x.2 * _; rw [ih]
  | swap x y l => show y.1 ^ y.2 * (x.1 ^ x.2 * _) = x.1 ^ x.2 * (y.1 ^ y.2 * _); exact Int.mul_left_comm ..
  | trans _ _ a b => exact a.trans b
theorem oddF_perm {l m : List (Int × Nat)} (h : l.Perm m) : oddF l = oddF m := by
  induction h with
  | nil => rfl
  | cons x _ ih => show (if x.2 % 2 = 1 then x.1 else 1) * _ = (if x.2 % 2 = 1 then x.1 else 1) * _; rw [ih]
  | swap x y l => exact Int.mul_left_comm ..
  | trans _ _ a b => exact a.trans b
theorem not_dvd_rest {p : Int} {e : Nat} {l : List (Int × Nat)} (hp : Primes ((p, e) :: l)) (hd : Distinct ((p, e) :: l)) : ¬ p ∣ prodF l := fun z => by
  obtain ⟨e', he⟩ := prime_prodF (hp (p, e) List.mem_cons_self).1 (fun r hr => hp r (List.mem_cons_of_mem _ hr)) z
  unfold Distinct at hd
  rw [List.map_cons, List.nodup_cons] at hd
  exact hd.1 (List.mem_map.mpr ⟨(p, e'), he, rfl⟩)
theorem fact_unique : ∀ {l m : List (Int × Nat)}, Primes l → Distinct l → Primes m → Distinct m → prodF l = prodF m → l.Perm m
  | [], m, _, _, hm, _, e => by
    cases m with
    | nil => exact List.Perm.nil
    | cons q m =>
      have h1 := prodF_len hm
      rw [← e] at h1
      have h2 : (0 : Int) < 2 ^ m.length := pow_pos_int (by omega) _
      rw [List.length_cons, Int.pow_succ] at h1
      have h3 : prodF [] = 1 := rfl
      omega
  | (p, a) :: l, m, hl, dl, hm, dm, e => by
    have hp := (hl (p, a) List.mem_cons_self).1
    have ha := (hl (p, a) List.mem_cons_self).2
    have hdv : p ∣ prodF m := by
      rw [← e]
      show p ∣ p ^ a * prodF l
      obtain ⟨k, rfl⟩ : ∃ k, a = k + 1 := ⟨a - 1, by have : 1 ≤ a := ha; omega⟩
      rw [Int.pow_succ, Int.mul_comm (p ^ k), Int.mul_assoc]
      exact Int.dvd_mul_right ..
    obtain ⟨b, hb⟩ := prime_prodF hp hm hdv
    have hperm := List.perm_cons_erase hb
    have hm2 : Primes ((p, b) :: m.erase (p, b)) := fun r hr => hm r (hperm.mem_iff.mpr hr)
    have dm2 : Distinct ((p, b) :: m.erase (p, b)) := distinct_perm hperm dm
    have e2 : p ^ a * prodF l = p ^ b * prodF (m.erase (p, b)) := e.trans (prodF_perm hperm)
    obtain ⟨h1, h2⟩ := pow_cancel hp (not_dvd_rest hl dl) (not_dvd_rest hm2 dm2) e2
    subst h1
    have ih := fact_unique (l := l) (m := m.erase (p, a)) (fun r hr => hl r (List.mem_cons_of_mem _ hr)) ((List.nodup_cons.mp dl).2) (fun r hr => hm2 r (List.mem_cons_of_mem _ hr)) ((List.nodup_cons.mp dm2).2) h2
    exact (ih.cons (p, a)).trans hperm.symm
/-! the square-free part -/
def oddL (l : List (Int × Nat)) : List (Int × Nat) := (l.filter fun q => q.2 % 2 == 1).map fun q => (q.1, 1)
theorem oddL_prod : ∀ l : List (Int × Nat), prodF (oddL l) = oddF l ∧ oddF (oddL l) = oddF l
  | [] => ⟨rfl, rfl⟩
  | q :: l => by
    obtain ⟨h1, h2⟩ := oddL_prod l
    unfold oddL at *
    by_cases h : q.2 % 2 = 1
    · rw [List.filter_cons_of_pos (by simp [h]), List.map_cons]
      show q.1 ^ 1 * _ = (if q.2 % 2 = 1 then q.1 else 1) * _ ∧ (if (1 : Nat) % 2 = 1 then q.1 else 1) * _ = (if q.2 % 2 = 1 then q.1 else 1) * _
      rw [if_pos h, h1, h2, Int.pow_succ, Int.pow_zero, Int.one_mul]
      exact ⟨rfl, rfl⟩
    · rw [List.filter_cons_of_neg (by simp [h])]
      show _ = (if q.2 % 2 = 1 then q.1 else 1) * _ ∧ _ = (if q.2 % 2 = 1 then q.1 else 1) * _
      rw [if_neg h, h1, h2, Int.one_mul]
      exact ⟨rfl, rfl⟩
theorem oddL_primes {l : List (Int × Nat)} (h : Primes l) : Primes (oddL l) := fun q hq => by
  obtain ⟨r, hr, e⟩ := List.mem_map.mp hq
  rw [← e]
  exact ⟨(h r (List.mem_filter.mp hr).1).1, Nat.le_refl _⟩
theorem oddL_distinct {l : List (Int × Nat)} (h : Distinct l) : Distinct (oddL l) := by
  unfold Distinct oddL
  rw [List.map_map]
  have : ((fun x : Int × Nat => x.1) ∘ fun q => (q.1, 1)) = fun q : Int × Nat => q.1 := rfl
  rw [this]
  exact h.sublist (List.filter_sublist.map _)
def rootF : List (Int × Nat) → Int
  | [] => 1
  | q :: l => q.1 ^ (q.2 / 2) * rootF l
theorem rootF_append : ∀ l m : List (Int × Nat), rootF (l ++ m) = rootF l * rootF m
  | [], m => by show rootF m = 1 * rootF m; rw [Int.one_mul]
  | q :: l, m => by
    show q.1 ^ (q.2 / 2) * rootF (l ++ m) = q.1 ^ (q.2 / 2) * rootF l * rootF m
    rw [rootF_append l m, Int.mul_assoc]
theorem odd_root : ∀ l : List (Int × Nat), oddF l * rootF l * rootF l = prodF l
  | [] => rfl
  | q :: l => by
    have ih := odd_root l
    show (if q.2 % 2 = 1 then q.1 else 1) * oddF l * (q.1 ^ (q.2 / 2) * rootF l) * (q.1 ^ (q.2 / 2) * rootF l) = q.1 ^ q.2 * prodF l
    rw [pow_split q.1 q.2, ← ih]
    generalize (if q.2 % 2 = 1 then q.1 else 1) = c
    generalize q.1 ^ (q.2 / 2) = g
    generalize oddF l = o
    generalize rootF l = r
    simp only [Int.mul_comm, Int.mul_left_comm, Int.mul_assoc]
theorem rootF_bound : ∀ {l : List (Int × Nat)}, Primes l → 1 ≤ rootF l ∧ rootF l ≤ prodF l
  | [], _ => ⟨Int.le_refl _, Int.le_refl _⟩
  | q :: l, h => by
    have ih := rootF_bound (l := l) fun r hr => h r (List.mem_cons_of_mem _ hr)
    have hp2 := (h q List.mem_cons_self).1.1
    have h1 : 0 < q.1 ^ (q.2 / 2) := pow_pos_int (by omega) _
    have h2 : q.1 ^ (q.2 / 2) ≤ q.1 ^ q.2 := by
      have e : q.2 = q.2 / 2 + (q.2 - q.2 / 2) := by omega
      have h3 : 0 < q.1 ^ (q.2 - q.2 / 2) := pow_pos_int (by omega) _
      have h4 : q.1 ^ (q.2 / 2) * 1 ≤ q.1 ^ (q.2 / 2) * q.1 ^ (q.2 - q.2 / 2) := Int.mul_le_mul_of_nonneg_left (by omega) (by omega)
      rw [← Int.pow_add, ← e] at h4
      omega
    show 1 ≤ q.1 ^ (q.2 / 2) * rootF l ∧ q.1 ^ (q.2 / 2) * rootF l ≤ q.1 ^ q.2 * prodF l
    refine ⟨?_, Int.mul_le_mul h2 ih.2 (by omega) (by omega)⟩
    have := Int.mul_pos h1 (show 0 < rootF l by omega)
    omega
theorem primes_take {l : List (Int × Nat)} (h : Primes l) (i : Nat) : Primes (l.take i) := fun r hr => h r (List.mem_of_mem_take hr)
theorem rootF_take_pos {l : List (Int × Nat)} (h : Primes l) (i j : Nat) {q : Int} (hq : 2 ≤ q := by omega) : 1 ≤ rootF (l.take i) * q ^ j := by
  have h1 := (rootF_bound (primes_take h i)).1
  have h2 : 0 < q ^ j := pow_pos_int (by omega) _
  have := Int.mul_pos (show 0 < rootF (l.take i) by omega) h2
  omega
theorem pow_le_pow {p : Int} (h : 1 ≤ p) {a b : Nat} (hab : a ≤ b) : p ^ a ≤ p ^ b := by
  have e : b = a + (b - a) := by omega
  have h1 : 0 < p ^ a := pow_pos_int (by omega) _
  have h2 : 0 < p ^ (b - a) := pow_pos_int (by omega) _
  have h4 : p ^ a * 1 ≤ p ^ a * p ^ (b - a) := Int.mul_le_mul_of_nonneg_left (by omega) (by omega)
  rw [← Int.pow_add, ← e] at h4
  omega
theorem rootF_take_le {l : List (Int × Nat)} (h : Primes l) {i j : Nat} (hi : i < l.length) (hj : j < l[i].2 / 2) : rootF (l.take i) * l[i].1 ^ j ≤ prodF l := by
  have hp2 := (h _ (List.getElem_mem hi)).1.1
  have h1 := rootF_bound (primes_take h (i + 1))
  have e : rootF (l.take (i + 1)) = rootF (l.take i) * l[i].1 ^ (l[i].2 / 2) := by
    rw [List.take_add_one, List.getElem?_eq_getElem hi, rootF_append]
    show _ = _
    congr 1
    show l[i].1 ^ (l[i].2 / 2) * 1 = _
    rw [Int.mul_one]
  have h2 := (rootF_bound (primes_take h i)).1
  have h3 : l[i].1 ^ j ≤ l[i].1 ^ (l[i].2 / 2) := pow_le_pow (by omega) (by omega)
  have h4 : rootF (l.take i) * l[i].1 ^ j ≤ rootF (l.take i) * l[i].1 ^ (l[i].2 / 2) := Int.mul_le_mul_of_nonneg_left h3 (by omega)
  have h5 := prodF_take h (i + 1)
  rw [← e] at h4
  omega
theorem sq_not_dvd {l : List (Int × Nat)} (h : Primes l) (d : Distinct l) {q : Int × Nat} (hq : q ∈ l) : ¬ (q.1 * q.1) ∣ oddF l := fun z => by
  have hp := (h q hq).1
  have hperm := List.perm_cons_erase hq
  have h2 : Primes (q :: l.erase q) := fun r hr => h r (hperm.mem_iff.mpr hr)
  have d2 : Distinct (q :: l.erase q) := distinct_perm hperm d
  rw [oddF_perm hperm] at z
  have h3 : q.1 ∣ oddF (l.erase q) := by
    obtain ⟨k, hk⟩ := z
    have hk2 : (if q.2 % 2 = 1 then q.1 else 1) * oddF (l.erase q) = q.1 * q.1 * k := hk
    by_cases c : q.2 % 2 = 1
    · rw [if_pos c, Int.mul_assoc] at hk2
      exact ⟨k, Int.eq_of_mul_eq_mul_left (by have := hp.pos; omega) hk2⟩
    · rw [if_neg c, Int.one_mul, Int.mul_assoc] at hk2
      exact ⟨q.1 * k, hk2⟩
  have h4 : q.1 ∣ prodF (l.erase q) := by
    rw [← odd_root]
    exact Int.dvd_mul_of_dvd_left (Int.dvd_mul_of_dvd_left h3)
  obtain ⟨p, e⟩ := q
  exact not_dvd_rest h2 d2 h4
end Sf

namespace Sf
open PySem PySem.Spec PyProof.Rows L2
/-- the rests of squares, and the sign by them -/
def sqs (p : Int) : List Int := (List.range (p - 1).toNat).map fun i => ((1 : Int) + (i : Nat)) * (1 + (i : Nat)) % p
theorem sqs_at {p : Int} {i : Nat} (h : i < (p - 1).toNat) : (sqs p)[i]? = some (((1 : Int) + (i : Nat)) * (1 + (i : Nat)) % p) := by
  unfold sqs
  rw [List.getElem?_map, List.getElem?_range h]
  rfl
def lawSign (n p : Int) : Int := if n % p = 0 then 0 else if p = 2 then (if n % 8 = 1 ∨ n % 8 = 7 then 1 else -1) else if n % p ∈ sqs p then 1 else -1
end Sf

namespace Sf
/-! residues by tables -/
def maskOf (p : Nat) : List Nat → Nat
  | [] => 0
  | x :: l => maskOf p l ||| 2 ^ (x * x % p)
theorem maskOf_bit (p r : Nat) : ∀ l : List Nat, (maskOf p l).testBit r = l.any fun x => x * x % p == r
  | [] => Nat.zero_testBit r
  | x :: l => by
    unfold maskOf
    rw [Nat.testBit_or, maskOf_bit p r l, Nat.testBit_two_pow, List.any_cons, Bool.or_comm]
    rfl
def euler (p : Nat) : Bool :=
  let m := maskOf p (List.range' 1 (p - 1))
  (List.range' 1 (p - 1)).all fun r => (r ^ ((p - 1) / 2) % p == 1) == m.testBit r && (r ^ ((p - 1) / 2) % p == 1 || r ^ ((p - 1) / 2) % p == p - 1)
theorem sqs_nat {p r : Nat} : ((r : Int) ∈ sqs p) ↔ (List.range' 1 (p - 1)).any (fun x => x * x % p == r) = true := by
  unfold sqs
  rw [List.mem_map, List.any_eq_true]
  constructor
  · rintro ⟨i, hi, e⟩
    rw [List.mem_range] at hi
    refine ⟨1 + i, by rw [List.mem_range'_1]; omega, ?_⟩
    rw [beq_iff_eq]
    have e2 : (((1 + i) * (1 + i) % p : Nat) : Int) = (r : Int) := by
      rw [← e]
      push_cast
      rfl
    exact Int.ofNat.inj e2
  · rintro ⟨x, hx, e⟩
    rw [List.mem_range'_1] at hx
    refine ⟨x - 1, by rw [List.mem_range]; omega, ?_⟩
    rw [beq_iff_eq] at e
    have e1 : (1 : Int) + ((x - 1 : Nat) : Int) = (x : Int) := by omega
    rw [e1, ← e]
    push_cast
    rfl
theorem emod_cast {n : Int} {p : Nat} (hp : 0 < p) : ∃ r : Nat, r < p ∧ n % p = (r : Int) := by
  have h1 := Int.emod_nonneg n (by omega : (p : Int) ≠ 0)
  have h2 := Int.emod_lt_of_pos n (by omega : (0 : Int) < p)
  exact ⟨(n % p).toNat, by omega, by omega⟩
theorem half_cast (p : Nat) (hp : 1 ≤ p) : ((((p : Int) - 1) / 2).toNat) = (p - 1) / 2 := by omega
theorem pow_rest {n : Int} {p r : Nat} (k : Nat) (e : n % p = (r : Int)) : n ^ k % p = ((r ^ k % p : Nat) : Int) := by
  rw [← pow_mod, e]
  push_cast
  rfl
theorem euler_at {p : Nat} (h : euler p = true) {r : Nat} (h1 : 1 ≤ r) (h2 : r < p) : (r ^ ((p - 1) / 2) % p = 1 ↔ (r : Int) ∈ sqs p) ∧ (r ^ ((p - 1) / 2) % p = 1 ∨ r ^ ((p - 1) / 2) % p = p - 1) := by
  unfold euler at h
  have h3 := List.all_eq_true.mp h r (by rw [List.mem_range'_1]; omega)
  rw [Bool.and_eq_true, maskOf_bit] at h3
  obtain ⟨h4, h5⟩ := h3
  refine ⟨?_, by simpa using h5⟩
  rw [sqs_nat]
  have h6 := beq_iff_eq.mp h4
  rw [← h6, beq_iff_eq]
theorem sign_eq {p : Nat} (hp : 3 ≤ p) (h : euler p = true) (n : Int) : restSign n p = lawSign n p := by
  unfold restSign lawSign
  by_cases h0 : n % p = 0
  · rw [if_pos h0, if_pos h0]
  · rw [if_neg h0, if_neg h0, if_neg (by omega : ¬ (p : Int) = 2), if_neg (by omega : ¬ (p : Int) = 2)]
    obtain ⟨r, hr, e⟩ := emod_cast (n := n) (by omega : 0 < p)
    have h1 : 1 ≤ r := by
      rcases Nat.eq_zero_or_pos r with z | z
      · rw [z] at e
        exact absurd e h0
      · exact z
    have h2 := (euler_at h h1 hr).1
    rw [half_cast p (by omega), pow_rest _ e, e]
    by_cases c : r ^ ((p - 1) / 2) % p = 1
    · rw [if_pos (h2.mp c), if_pos (by rw [c]; rfl)]
    · rw [if_neg (fun z => c (h2.mpr z)), if_neg (fun z => c (by omega))]
theorem sign_eq2 (n : Int) : restSign n 2 = lawSign n 2 := by
  unfold restSign lawSign
  rfl
theorem sign_mul {p : Nat} (hp : 3 ≤ p) (h : euler p = true) (hq : PrP p) (a b : Int) : restSign (a * b) p = restSign a p * restSign b p := by
  unfold restSign
  have hn : ¬ (p : Int) = 2 := by omega
  by_cases ha : a % p = 0
  · have hab : a * b % p = 0 := Int.emod_eq_zero_of_dvd (Int.dvd_mul_of_dvd_left (Int.dvd_of_emod_eq_zero ha))
    rw [if_pos ha, if_pos hab, Int.zero_mul]
  · by_cases hb : b % p = 0
    · have hab : a * b % p = 0 := Int.emod_eq_zero_of_dvd (Int.dvd_mul_of_dvd_right (Int.dvd_of_emod_eq_zero hb))
      rw [if_pos hb, if_pos hab, Int.mul_zero]
    · have hab : ¬ a * b % p = 0 := fun z => by
        rcases prime_mul hq (Int.dvd_of_emod_eq_zero z) with y | y
        · exact ha (Int.emod_eq_zero_of_dvd y)
        · exact hb (Int.emod_eq_zero_of_dvd y)
      rw [if_neg ha, if_neg hb, if_neg hab, if_neg hn, if_neg hn, if_neg hn, half_cast p (by omega)]
      obtain ⟨r, hr, er⟩ := emod_cast (n := a) (by omega : 0 < p)
      obtain ⟨t, ht, et⟩ := emod_cast (n := b) (by omega : 0 < p)
      have r1 : 1 ≤ r := by
        rcases Nat.eq_zero_or_pos r with z | z
        · rw [z] at er
          exact absurd er ha
        · exact z
      have t1 : 1 ≤ t := by
        rcases Nat.eq_zero_or_pos t with z | z
        · rw [z] at et
          exact absurd et hb
        · exact z
      have e1 := (euler_at h r1 hr).2
      have e2 := (euler_at h t1 ht).2
      have p1 := pow_rest ((p - 1) / 2) er
      have p2 := pow_rest ((p - 1) / 2) et
      have pm : (a * b) ^ ((p - 1) / 2) % p = ((a ^ ((p - 1) / 2) % p) * (b ^ ((p - 1) / 2) % p)) % p := by rw [Int.mul_pow, Int.mul_emod]
      have c1 : ((p - 1 : Nat) : Int) = (p : Int) - 1 := by omega
      have q1 : ((p : Int) - 1) * ((p : Int) - 1) % p = 1 := by
        have : ((p : Int) - 1) * ((p : Int) - 1) = 1 + p * (p - 2) := by
          have e3 : (p : Int) * (p - 2) = p * p - p * 2 := Int.mul_sub ..
          rw [e3, Int.sub_mul, Int.mul_sub]
          omega
        rw [this, Int.add_mul_emod_self_left]
        exact Int.emod_eq_of_lt (by omega) (by omega)
      have q2 : ((p : Int) - 1) % p = p - 1 := Int.emod_eq_of_lt (by omega) (by omega)
      have n1 : ¬ ((p : Int) - 1) = 1 := by omega
      rw [pm, p1, p2]
      rcases e1 with e1 | e1 <;> rcases e2 with e2 | e2 <;> rw [e1, e2]
      · have : ((1 : Nat) : Int) * ((1 : Nat) : Int) % p = 1 := Int.emod_eq_of_lt (by decide) (by show (1 : Int) < p; omega)
        rw [this]
        rfl
      · rw [c1, show ((1 : Nat) : Int) * ((p : Int) - 1) = p - 1 by omega, q2, if_neg n1]
        rfl
      · rw [c1, show ((p : Int) - 1) * ((1 : Nat) : Int) = p - 1 by omega, q2, if_neg n1]
        rfl
      · rw [c1, q1, if_neg n1]
        rfl
theorem sign_mul2 (a b : Int) : restSign (a * b) 2 = restSign a 2 * restSign b 2 := by
  have key : ∀ r : Fin 8, ∀ t : Fin 8, restSign ((r.val : Int) * (t.val : Int)) 2 = restSign r.val 2 * restSign t.val 2 := by decide +kernel
  have red : ∀ n : Int, restSign n 2 = restSign (n % 8) 2 := fun n => by
    unfold restSign
    have h1 : n % 8 % 2 = n % 2 := by omega
    have h2 : n % 8 % 8 = n % 8 := by omega
    rw [h1, h2]
    rfl
  have k2 : ∀ n : Int, ∃ r : _root_.Fin 8, n % 8 = (r.val : Int) := fun n => ⟨⟨(n % 8).toNat, by omega⟩, by show n % 8 = ((n % 8).toNat : Int); omega⟩
  obtain ⟨r, hr⟩ := k2 a
  obtain ⟨t, ht⟩ := k2 b
  rw [red (a * b), Int.mul_emod, ← red, red a, red b, hr, ht]
  exact key r t
end Sf

namespace Sf
open PySem PySem.Spec PyProof.Rows L2
/-! lists and tuples of ints as data -/
theorem lay_ints : ∀ ns : List Int, PyData.canLayAll0 (ns.map PyData.int) = true ∧ PyData.depthAll (ns.map PyData.int) = 0
  | [] => ⟨rfl, rfl⟩
  | n :: ns => by
    obtain ⟨h1, h2⟩ := lay_ints ns
    refine ⟨?_, ?_⟩
    · show (true && PyData.canLayAll0 (ns.map PyData.int)) = true
      rw [h1]
      rfl
    · show max 0 (PyData.depthAll (ns.map PyData.int)) = 0
      rw [h2]
      rfl
theorem shp_list (ns : List Int) : SeqAt.shaped (.list (ns.map PyData.int)) = true := by
  obtain ⟨h1, h2⟩ := lay_ints ns
  show (PyData.canLayAll0 (ns.map PyData.int) && decide (PyData.depthAll (ns.map PyData.int) + 1 ≤ 64)) = true
  rw [h1, h2]
  rfl
theorem shp_tup (ns : List Int) : SeqAt.shaped (.tuple (ns.map PyData.int)) = true := by
  obtain ⟨h1, h2⟩ := lay_ints ns
  show (PyData.canLayAll0 (ns.map PyData.int) && decide (PyData.depthAll (ns.map PyData.int) + 1 ≤ 64)) = true
  rw [h1, h2]
  rfl
theorem eqv_ints : ∀ a b : List Int, PyData.eqvAll (a.map PyData.int) (b.map PyData.int) = decide (a = b)
  | [], [] => rfl
  | [], _ :: _ => rfl
  | _ :: _, [] => rfl
  | x :: a, y :: b => by
    show ((x == y) && PyData.eqvAll (a.map PyData.int) (b.map PyData.int)) = _
    rw [eqv_ints a b, Bool.eq_iff_iff]
    simp only [Bool.and_eq_true, beq_iff_eq, decide_eq_true_eq, List.cons.injEq]
theorem dpAll_ints (K : PySem.W.Frag) (H : Hp) : ∀ ns : List Int, DpAll K H (ns.map V.int) (ns.map PyData.int)
  | [] => .nil
  | n :: ns => .cons (.int n) (dpAll_ints K H ns)
theorem dp_list {K : PySem.W.Frag} {H : Hp} {a : Addr} {ns : List Int} (h : SqL K H a (ns.map V.int)) : Dp K H (.ref a) (.list (ns.map PyData.int)) := .lst h (dpAll_ints K H ns)
theorem dp_tup {K : PySem.W.Frag} {H : Hp} {a : Addr} {ns : List Int} (h : SqT K H a (ns.map V.int)) : Dp K H (.ref a) (.tuple (ns.map PyData.int)) := .tup h (dpAll_ints K H ns)
end Sf

namespace Sf
theorem strip_unique {n p : Int} (hp : PrP p) {m m' : Nat} {u u' : Int} (h : Strip n p m u) (h' : Strip n p m' u') : m = m' ∧ u = u' :=
  pow_cancel hp (fun z => h.2 (Int.emod_eq_zero_of_dvd z)) (fun z => h'.2 (Int.emod_eq_zero_of_dvd z)) (h.1.symm.trans h'.1)
theorem strip_ne {n p : Int} {m : Nat} {u : Int} (h : Strip n p m u) : u ≠ 0 := fun z => h.2 (by rw [z]; exact Int.zero_emod _)
theorem strip_le {n p : Int} (hp : 2 ≤ p) {m : Nat} {u : Int} (h : Strip n p m u) : u.natAbs ≤ n.natAbs ∧ (m : Int) < n.natAbs + 1 := by
  have h1 := h.1
  have hu := strip_ne h
  have hpm : 0 < p ^ m := pow_pos_int (by omega) m
  have e : n.natAbs = (p ^ m).natAbs * u.natAbs := by rw [h1]; exact Int.natAbs_mul _ _
  have g1 : 1 ≤ (p ^ m).natAbs := by omega
  have g2 : 1 ≤ u.natAbs := by omega
  have g3 : 1 * u.natAbs ≤ (p ^ m).natAbs * u.natAbs := Nat.mul_le_mul_right _ g1
  have g4 : (p ^ m).natAbs * 1 ≤ (p ^ m).natAbs * u.natAbs := Nat.mul_le_mul_left _ g2
  have g5 := nat_lt_pow hp m
  omega
/-- the sign at a prime by what is stripped -/
def sgnAt (p : Int) (s t : Nat) (u v : Int) : Int :=
  if p = 2 then (if ((u - 1) / 2 * ((v - 1) / 2) + s * ((v * v - 1) / 8) + t * ((u * u - 1) / 8)) % 2 = 1 then -1 else 1)
  else (if s * t % 2 = 1 then restSign (-1) p else 1) * (if t % 2 = 1 then restSign u p else 1) * (if s % 2 = 1 then restSign v p else 1)
def HSign (a b p r : Int) : Prop := (p = 0 ∧ r = if a < 0 ∧ b < 0 then -1 else 1) ∨ (p ≠ 0 ∧ ∃ (s t : Nat) (u v : Int), Strip a p s u ∧ Strip b p t v ∧ r = sgnAt p s t u v)
theorem hsign_unique {a b p r r' : Int} (hp : p = 0 ∨ PrP p) (h : HSign a b p r) (h' : HSign a b p r') : r = r' := by
  rcases h with ⟨h0, h1⟩ | ⟨h0, s, t, u, v, h1, h2, h3⟩
  · rcases h' with ⟨_, g1⟩ | ⟨g0, _⟩
    · rw [h1, g1]
    · exact absurd h0 g0
  · rcases h' with ⟨g0, _⟩ | ⟨_, s', t', u', v', g1, g2, g3⟩
    · exact absurd g0 h0
    · have hp := hp.resolve_left h0
      obtain ⟨e1, e2⟩ := strip_unique hp h1 g1
      obtain ⟨e3, e4⟩ := strip_unique hp h2 g2
      rw [h3, g3, e1, e2, e3, e4]
theorem sgnAt_comm (p : Int) (s t : Nat) (u v : Int) : sgnAt p s t u v = sgnAt p t s v u := by
  unfold sgnAt
  by_cases h : p = 2
  · rw [if_pos h, if_pos h]
    have e : (u - 1) / 2 * ((v - 1) / 2) + s * ((v * v - 1) / 8) + t * ((u * u - 1) / 8) = (v - 1) / 2 * ((u - 1) / 2) + t * ((u * u - 1) / 8) + s * ((v * v - 1) / 8) := by
      rw [Int.mul_comm ((u - 1) / 2)]
      omega
    rw [e]
  · rw [if_neg h, if_neg h, Nat.mul_comm s t, Int.mul_assoc, Int.mul_assoc]
    congr 1
    exact Int.mul_comm _ _
theorem hsign_comm {a b p r : Int} (h : HSign a b p r) : HSign b a p r := by
  rcases h with ⟨h0, h1⟩ | ⟨h0, s, t, u, v, h1, h2, h3⟩
  · refine .inl ⟨h0, ?_⟩
    rw [h1]
    by_cases c : a < 0 ∧ b < 0
    · rw [if_pos c, if_pos c.symm]
    · rw [if_neg c, if_neg (fun z => c z.symm)]
  · exact .inr ⟨h0, t, s, v, u, h2, h1, by rw [h3]; exact sgnAt_comm ..⟩
theorem rest_small (n p : Int) : -1 ≤ restSign n p ∧ restSign n p ≤ 1 := by
  unfold restSign
  split
  · decide
  · split
    · split <;> decide
    · split <;> decide
end Sf

namespace Sf
open PySem PySem.Spec PyProof.Rows L2
section
variable {P : Program} {w : World} {K : PySem.W.Frag} {mg : Str → Option Value} {base : Heap} {f : Addr} {fd : FuncData}
def spQuarter : Sp := fun vs H Q _ => ∃ u : Int, vs = [.int u] ∧ Q (.int ((u - 1) / 2)) H
theorem ok_quarter (F : FnD K "quarter" "quarter" s_P_quarter f fd) : FnOk P w K mg base CX0 1 f fd ["unit"] spQuarter := by
  refine F.ok sc_P_quarter (fun vs H Q E h => ?_) (fun cdv A outer s H vs Q E hr h => ?_)
  · obtain ⟨n, rfl, _⟩ := h; rfl
  · obtain ⟨n, rfl, q⟩ := h
    refine ⟨_, PSs.nox (pss_one (ps_ret (pe_op op_fdivW (pe_op op_sub (pv 0) pe_int) pe_int))), ?_⟩
    exact ⟨_, rfl, _, _, rfl, rfl, _, _, rfl, rfl, CDivW.of (by decide) (by decide +kernel), q⟩
def spEighth : Sp := fun vs H Q _ => ∃ u : Int, vs = [.int u] ∧ u.natAbs < 2 ^ 3000 ∧ Q (.int ((u * u - 1) / 8)) H
theorem ok_eighth (F : FnD K "eighth" "eighth" s_P_eighth f fd) : FnOk P w K mg base CX0 1 f fd ["unit"] spEighth := by
  refine F.ok sc_P_eighth (fun vs H Q E h => ?_) (fun cdv A outer s H vs Q E hr h => ?_)
  · obtain ⟨n, rfl, _⟩ := h; rfl
  · obtain ⟨n, rfl, hb, q⟩ := h
    refine ⟨_, PSs.nox (pss_one (ps_ret (pe_op op_fdivW (pe_op op_sub (pe_op op_mulW (pv 0) (pv 0)) pe_int) pe_int))), ?_⟩
    exact ⟨_, rfl, _, rfl, _, _, rfl, rfl, CMulW.of hb hb, _, _, rfl, rfl, _, _, rfl, rfl, CDivW.of (by decide) (by decide +kernel), q⟩
structure SgnP (two : Bool) (vs : List V) (H : Hp) (Q : VK) : Prop where
  ex : ∃ a b p : Int, vs = (if two then [.int a, .int b] else [.int a, .int b, .int p]) ∧ (two = true → p = 2) ∧ (two = false → p ≠ 2) ∧ a ≠ 0 ∧ b ≠ 0 ∧ a.natAbs ≤ 1000000000 ∧ b.natAbs ≤ 1000000000 ∧ 2 ≤ p ∧ p ≤ 1000000000 ∧
    ∀ (s t : Nat) (u v : Int) (H' : Hp), Strip a p s u → Strip b p t v → Same H H' → Q (.int (sgnAt p s t u v)) H'
def spSgn (two : Bool) : Sp := fun vs H Q _ => SgnP two vs H Q
theorem small_mul {a b A B : Int} (ha : a.natAbs ≤ A.natAbs) (hb : b.natAbs ≤ B.natAbs) : (a * b).natAbs ≤ (A * B).natAbs := by
  rw [Int.natAbs_mul, Int.natAbs_mul]
  exact Nat.mul_le_mul ha hb
theorem ok_sign_at_two (F : FnD K "sign_at_two" "sign_at_two" s_P_sign_at_two f fd) (C_P_stripped : Cal P w K mg base 1 "stripped" ["number", "prime"] spStripped) (C_P_quarter : Cal P w K mg base 1 "quarter" ["unit"] spQuarter) (C_P_eighth : Cal P w K mg base 1 "eighth" ["unit"] spEighth) :
    FnOk P w K mg base CX0 2 f fd ["a", "b"] (spSgn true) := by
  refine F.ok sc_P_sign_at_two (fun vs H Q E h => ?_) (fun cdv A outer s H vs Q E hr h => ?_)
  · obtain ⟨a, b, p, rfl, _⟩ := h.ex; rfl
  · obtain ⟨a, b, p, rfl, h2, _, a0, b0, a1, b1, _, _, q⟩ := h.ex
    obtain rfl : p = 2 := h2 rfl
    refine ⟨_, PSs.nox (pss_cons (ps_asg (pe_cal C_P_stripped (hr.mono (by decide)) (pa_cons (pv 0) (pa_cons pe_int pa_nil))) (pg_tup (by rfl) (pgs_cons (pg_name (i := 2) sc_P_sign_at_two.nd rfl (Or.inl rfl)) (pgs_cons (pg_name (i := 3) sc_P_sign_at_two.nd rfl (Or.inl rfl)) pgs_nil))))
      (pss_cons (ps_asg (pe_cal C_P_stripped (hr.mono (by decide)) (pa_cons (pv 1) (pa_cons pe_int pa_nil))) (pg_tup (by rfl) (pgs_cons (pg_name (i := 4) sc_P_sign_at_two.nd rfl (Or.inl rfl)) (pgs_cons (pg_name (i := 5) sc_P_sign_at_two.nd rfl (Or.inl rfl)) pgs_nil))))
      (pss_cons (ps_set (i := 6) sc_P_sign_at_two.nd rfl (Or.inl rfl) (pe_op op_add (pe_op op_add (pe_op op_mulW (pe_cal C_P_quarter (hr.mono (by decide)) (pa_cons (pv 3) pa_nil)) (pe_cal C_P_quarter (hr.mono (by decide)) (pa_cons (pv 5) pa_nil))) (pe_op op_mulW (pv 2) (pe_cal C_P_eighth (hr.mono (by decide)) (pa_cons (pv 5) pa_nil)))) (pe_op op_mulW (pv 4) (pe_cal C_P_eighth (hr.mono (by decide)) (pa_cons (pv 3) pa_nil)))))
      (pss_one (ps_ret (pe_ifExp (pt_cmp (pc_eqI (pe_op op_mod (pv 6) pe_int) pe_int)) (pe_un un_neg pe_int) pe_int)))))), ?_⟩
    have tb : (2 : Int).natAbs < 2 ^ 3000 := by decide +kernel
    refine ⟨_, rfl, a, 2, rfl, a0, by decide, tb, fun s u x1 st1 hx1 => ⟨x1, _, rfl, .inl (.inl upd_same), rfl, _, _, rfl, _, _, rfl, rfl, ?_⟩⟩
    refine ⟨_, rfl, b, 2, rfl, b0, by decide, tb, fun t v x2 st2 hx2 => ⟨x2, _, rfl, .inl (.inl upd_same), rfl, _, _, rfl, _, _, rfl, rfl, ?_⟩⟩
    have l1 := strip_le (by decide) st1
    have l2 := strip_le (by decide) st2
    have ub : u.natAbs < 2 ^ 3000 := lt3000s (by omega) (by omega)
    have vb : v.natAbs < 2 ^ 3000 := lt3000s (by omega) (by omega)
    have uu : (u * u).natAbs ≤ 1000000000000000000 := by
      have := small_mul (a := u) (b := u) (A := 1000000000) (B := 1000000000) (by omega) (by omega)
      exact this
    have vv : (v * v).natAbs ≤ 1000000000000000000 := by
      have := small_mul (a := v) (b := v) (A := 1000000000) (B := 1000000000) (by omega) (by omega)
      exact this
    refine ⟨_, rfl, u, rfl, _, rfl, v, rfl, _, _, rfl, rfl, CMulW.of (lt3000s (by omega) (by omega)) (lt3000s (by omega) (by omega)), _, rfl, _, rfl, v, rfl, vb, _, _, rfl, rfl, CMulW.of (lt3000s (by omega) (by omega)) (lt3000s (by omega) (by omega)), _, _, rfl, rfl, _, rfl, _, rfl, u, rfl, ub, _, _, rfl, rfl, CMulW.of (lt3000s (by omega) (by omega)) (lt3000s (by omega) (by omega)), _, _, rfl, rfl, ?_⟩
    have z := q s t u v (upd (upd H x1 (.tup [.int s, .int u])) x2 (.tup [.int t, .int v])) st1 st2 ((same_upd hx1).trans (same_upd hx2))
    unfold sgnAt at z
    rw [if_pos rfl] at z
    refine ⟨_, rfl, _, _, rfl, rfl, (by show (0 : Int) < 2; decide), _, _, rfl, rfl, _, rfl, ifd (fun h => ?_) (fun h => ?_)⟩
    · rw [if_pos h] at z
      exact ⟨_, rfl, z⟩
    · rw [if_neg h] at z
      exact z
theorem mul1 (a : Int) : 1 * a = a := Int.one_mul a
theorem ok_sign_at_odd (F : FnD K "sign_at_odd" "sign_at_odd" s_P_sign_at_odd f fd) (C_P_stripped : Cal P w K mg base 1 "stripped" ["number", "prime"] spStripped) (C_P_rest_sign : Cal P w K mg base 2 "rest_sign" ["number", "prime"] spRestSign) :
    FnOk P w K mg base CX0 3 f fd ["a", "b", "prime"] (spSgn false) := by
  refine F.ok sc_P_sign_at_odd (fun vs H Q E h => ?_) (fun cdv A outer s H vs Q E hr h => ?_)
  · obtain ⟨a, b, p, rfl, _⟩ := h.ex; rfl
  · obtain ⟨a, b, p, rfl, _, hp2, a0, b0, a1, b1, p2, p9, q⟩ := h.ex
    have pn : p ≠ 2 := hp2 rfl
    refine ⟨_, PSs.nox (pss_cons (ps_asg (pe_cal C_P_stripped (hr.mono (by decide)) (pa_cons (pv 0) (pa_cons (pv 2) pa_nil))) (pg_tup (by rfl) (pgs_cons (pg_name (i := 3) sc_P_sign_at_odd.nd rfl (Or.inl rfl)) (pgs_cons (pg_name (i := 4) sc_P_sign_at_odd.nd rfl (Or.inl rfl)) pgs_nil))))
      (pss_cons (ps_asg (pe_cal C_P_stripped (hr.mono (by decide)) (pa_cons (pv 1) (pa_cons (pv 2) pa_nil))) (pg_tup (by rfl) (pgs_cons (pg_name (i := 5) sc_P_sign_at_odd.nd rfl (Or.inl rfl)) (pgs_cons (pg_name (i := 6) sc_P_sign_at_odd.nd rfl (Or.inl rfl)) pgs_nil))))
      (pss_cons (ps_set (i := 7) sc_P_sign_at_odd.nd rfl (Or.inl rfl) pe_int)
      (Evl.pss_cut (ps_if (pt_cmp (pc_eqI (pe_op op_mod (pe_op op_mulW (pv 3) (pv 5)) pe_int) pe_int)) (pss_one (ps_set (i := 7) sc_P_sign_at_odd.nd rfl (Or.inl rfl) (pe_op op_mulW (pv 7) (pe_cal C_P_rest_sign (hr.mono (by decide)) (pa_cons (pe_un un_neg pe_int) (pa_cons (pv 2) pa_nil)))))) pss_nil)
      (Evl.pss_cut (ps_if (pt_cmp (pc_eqI (pe_op op_mod (pv 5) pe_int) pe_int)) (pss_one (ps_set (i := 7) sc_P_sign_at_odd.nd rfl (Or.inl rfl) (pe_op op_mulW (pv 7) (pe_cal C_P_rest_sign (hr.mono (by decide)) (pa_cons (pv 4) (pa_cons (pv 2) pa_nil)))))) pss_nil)
      (pss_cons (ps_if (pt_cmp (pc_eqI (pe_op op_mod (pv 3) pe_int) pe_int)) (pss_one (ps_set (i := 7) sc_P_sign_at_odd.nd rfl (Or.inl rfl) (pe_op op_mulW (pv 7) (pe_cal C_P_rest_sign (hr.mono (by decide)) (pa_cons (pv 6) (pa_cons (pv 2) pa_nil)))))) pss_nil)
      (pss_one (ps_ret (pv 7))))))))), ?_⟩
    have tb : p.natAbs < 2 ^ 3000 := lt3000s (by omega) (by omega)
    have tb1 : p.natAbs < 2 ^ 1000 := Nat.lt_trans (by omega : p.natAbs < 2000000000) (by decide +kernel)
    refine ⟨_, rfl, _, rfl, a, p, rfl, a0, p2, tb, fun s u x1 st1 hx1 => ⟨x1, _, rfl, .inl (.inl upd_same), rfl, _, _, rfl, _, _, rfl, rfl, ?_⟩⟩
    refine ⟨_, rfl, _, rfl, b, p, rfl, b0, p2, tb, fun t v x2 st2 hx2 => ⟨x2, _, rfl, .inl (.inl upd_same), rfl, _, _, rfl, _, _, rfl, rfl, ?_⟩⟩
    have l1 := strip_le p2 st1
    have l2 := strip_le p2 st2
    have k0 : Same H (upd (upd H x1 (.tup [.int s, .int u])) x2 (.tup [.int t, .int v])) := (same_upd hx1).trans (same_upd hx2)
    have est : ((s : Int) * (t : Int)) = ((s * t : Nat) : Int) := (Int.natCast_mul s t).symm
    have hst : ((s : Int) * (t : Int)) % 2 = 1 ↔ s * t % 2 = 1 := by rw [est]; omega
    have r1 := rest_small (-1) p
    have r2 := rest_small u p
    have r3 := rest_small v p
    have z := fun H' k => q s t u v H' st1 st2 k
    unfold sgnAt at z
    rw [if_neg pn] at z
    refine ⟨fun σ' H' => σ' = [some (.int a), some (.int b), some (.int p), some (.int s), some (.int u), some (.int t), some (.int v), some (.int (if s * t % 2 = 1 then restSign (-1) p else 1))] ∧ Same H H', ?_, ?_⟩
    · refine ⟨_, rfl, _, rfl, _, _, rfl, rfl, CMulW.of (lt3000s (by omega) (by omega)) (lt3000s (by omega) (by omega)), _, _, rfl, rfl, (by show (0 : Int) < 2; decide), _, _, rfl, rfl, _, rfl, ifd (fun h => ?_) (fun h => ?_)⟩
      · have h' := hst.mp h
        rw [if_pos h']
        exact ⟨_, rfl, 1, rfl, _, rfl, -1, p, rfl, p2, tb1, fun H' k => ⟨_, _, rfl, rfl, CMulW.of (lt3000s (by decide) (by decide)) (lt3000s (by omega) (by omega)), (by show [some (V.int a), some (.int b), some (.int p), some (.int s), some (.int u), some (.int t), some (.int v), some (.int (1 * restSign (-1) p))] = _; rw [mul1]), k0.trans k⟩⟩
      · have h' := fun z => h (hst.mpr z)
        rw [if_neg h']
        exact ⟨rfl, k0⟩
    rintro σ' H1 ⟨rfl, k1⟩
    have b1 : -1 ≤ (if s * t % 2 = 1 then restSign (-1) p else 1) ∧ (if s * t % 2 = 1 then restSign (-1) p else 1) ≤ 1 := by split <;> omega
    have b2 : -1 ≤ (if t % 2 = 1 then restSign u p else 1) ∧ (if t % 2 = 1 then restSign u p else 1) ≤ 1 := by split <;> omega
    generalize (if s * t % 2 = 1 then restSign (-1) p else 1) = x at z b1
    refine ⟨fun σ' H' => σ' = [some (.int a), some (.int b), some (.int p), some (.int s), some (.int u), some (.int t), some (.int v), some (.int (x * (if t % 2 = 1 then restSign u p else 1)))] ∧ Same H H', ?_, ?_⟩
    · refine ⟨_, rfl, _, _, rfl, rfl, (by show (0 : Int) < 2; decide), _, _, rfl, rfl, _, rfl, ifd (fun h => ?_) (fun h => ?_)⟩
      · have h' : t % 2 = 1 := by omega
        rw [if_pos h']
        exact ⟨_, rfl, _, rfl, _, rfl, u, p, rfl, p2, tb1, fun H' k => ⟨_, _, rfl, rfl, CMulW.of (lt3000s (by omega) (by omega)) (lt3000s (by omega) (by omega)), rfl, k1.trans k⟩⟩
      · have h' : ¬ t % 2 = 1 := by omega
        rw [if_neg h', Int.mul_one]
        exact ⟨rfl, k1⟩
    rintro σ' H2 ⟨rfl, k2⟩
    generalize (if t % 2 = 1 then restSign u p else 1) = y at z b2
    have b3 : (x * y).natAbs ≤ 1 := small_mul (A := 1) (B := 1) (by omega) (by omega)
    refine ⟨_, rfl, _, _, rfl, rfl, (by show (0 : Int) < 2; decide), _, _, rfl, rfl, _, rfl, ifd (fun h => ?_) (fun h => ?_)⟩
    · have h' : s % 2 = 1 := by omega
      rw [if_pos h'] at z
      exact ⟨_, rfl, _, rfl, _, rfl, v, p, rfl, p2, tb1, fun H' k => ⟨_, _, rfl, rfl, CMulW.of (lt3000s (by omega) (by omega)) (lt3000s (by omega) (by omega)), _, rfl, z _ (k2.trans k)⟩⟩
    · have h' : ¬ s % 2 = 1 := by omega
      rw [if_neg h', Int.mul_one] at z
      exact ⟨_, rfl, z _ k2⟩
structure SignP (vs : List V) (H : Hp) (Q : VK) : Prop where
  ex : ∃ a b p : Int, vs = [.int a, .int b, .int p] ∧ a ≠ 0 ∧ b ≠ 0 ∧ a.natAbs ≤ 1000000000 ∧ b.natAbs ≤ 1000000000 ∧ (p = 0 ∨ PrP p ∧ p ≤ 1000000000) ∧ ∀ (r : Int) (H' : Hp), HSign a b p r → Same H H' → Q (.int r) H'
def spSign : Sp := fun vs H Q _ => SignP vs H Q
theorem ok_sign (F : FnD K "sign" "sign" s_P_sign f fd) (C_P_sign_at_two : Cal P w K mg base 2 "sign_at_two" ["a", "b"] (spSgn true)) (C_P_sign_at_odd : Cal P w K mg base 3 "sign_at_odd" ["a", "b", "prime"] (spSgn false)) :
    FnOk P w K mg base CX0 4 f fd ["a", "b", "place"] spSign := by
  refine F.ok sc_P_sign (fun vs H Q E h => ?_) (fun cdv A outer s H vs Q E hr h => ?_)
  · obtain ⟨a, b, p, rfl, _⟩ := h.ex; rfl
  · obtain ⟨a, b, p, rfl, a0, b0, a1, b1, hp, q⟩ := h.ex
    refine ⟨_, PSs.nox (pss_cons (ps_if (pt_cmp (pc_eqI (pv 2) pe_int)) (pss_one (ps_ret (pe_ifExp (PW.pt (pw_and (pt_cmp (pc_lt (pv 0) pe_int)) (pw_and1 (pt_cmp (pc_lt (pv 1) pe_int))))) (pe_un un_neg pe_int) pe_int))) pss_nil)
      (pss_cons (ps_if (pt_cmp (pc_eqI (pv 2) pe_int)) (pss_one (ps_ret (pe_cal C_P_sign_at_two (hr.mono (by decide)) (pa_cons (pv 0) (pa_cons (pv 1) pa_nil))))) pss_nil)
      (pss_one (ps_ret (pe_cal C_P_sign_at_odd (hr.mono (by decide)) (pa_cons (pv 0) (pa_cons (pv 1) (pa_cons (pv 2) pa_nil)))))))), ?_⟩
    refine ⟨_, rfl, _, _, rfl, rfl, _, rfl, ifd (fun h => ?_) (fun h => ?_)⟩
    · have z := fun r e => q r H (.inl ⟨h, e⟩) (Same.refl H)
      refine ⟨_, rfl, _, _, rfl, rfl, _, rfl, ifd (fun h1 => ⟨_, rfl, _, _, rfl, rfl, _, rfl, ifd (fun h2 => ?_) (fun h2 => ?_)⟩) (fun h1 => ?_)⟩
      · exact ⟨_, rfl, z _ (by rw [if_pos ⟨h1, h2⟩])⟩
      · exact z _ (by rw [if_neg (fun c => h2 c.2)])
      · exact z _ (by rw [if_neg (fun c => h1 c.1)])
    · have hp := hp.resolve_left h
      have p2 := hp.1.1
      refine ⟨_, rfl, _, _, rfl, rfl, _, rfl, ifd (fun h2 => ?_) (fun h2 => ?_)⟩
      · have h2 : p = 2 := h2
        subst h2
        exact ⟨_, rfl, _, rfl, ⟨a, b, 2, rfl, fun _ => rfl, fun z => Bool.noConfusion z, a0, b0, a1, b1, by decide, by decide, fun s t u v H' h3 h4 k => q _ H' (.inr ⟨h, s, t, u, v, h3, h4, rfl⟩) k⟩⟩
      · exact ⟨_, rfl, _, rfl, _, rfl, ⟨a, b, p, rfl, fun z => Bool.noConfusion z, fun _ => h2, a0, b0, a1, b1, p2, hp.2, fun s t u v H' h3 h4 k => q _ H' (.inr ⟨h, s, t, u, v, h3, h4, rfl⟩) k⟩⟩
end
end Sf

namespace Sf
open PySem PySem.Spec PyProof.Rows L2
theorem strip_exists {n p : Int} (hn : n ≠ 0) (hp : 2 ≤ p) : ∃ (m : Nat) (u : Int), Strip n p m u := by
  generalize hN : n.natAbs = N
  induction N using Nat.strongRecOn generalizing n with
  | ind N ih =>
    by_cases h : n % p = 0
    · obtain ⟨l1, l2, l3⟩ := strip_less hn hp h
      obtain ⟨m, u, e, hu⟩ := ih _ (by omega) l2 rfl
      refine ⟨m + 1, u, ?_, hu⟩
      rw [Int.pow_succ, Int.mul_comm (p ^ m) p, Int.mul_assoc, ← e]
      exact l3
    · exact ⟨0, n, by rw [Int.pow_zero, Int.one_mul], h⟩
theorem odd_sq8 {w : Int} (h : w % 2 ≠ 0) : w * w % 8 = 1 := by
  have h1 : w % 8 = 1 ∨ w % 8 = 3 ∨ w % 8 = 5 ∨ w % 8 = 7 := by omega
  rw [Int.mul_emod]
  rcases h1 with e | e | e | e <;> rw [e] <;> decide
/-- the same unit, up to what the sign sees -/
def Alike (p u v : Int) : Prop := if p = 2 then u % 8 = v % 8 else restSign u p = restSign v p
theorem half_par {u v : Int} (h : u % 8 = v % 8) : ((u - 1) / 2) % 2 = ((v - 1) / 2) % 2 := by omega
theorem w_par {u v : Int} (h : u % 8 = v % 8) : ((u * u - 1) / 8) % 2 = ((v * v - 1) / 8) % 2 := by
  have e : u = v + 8 * ((u - v) / 8) := by omega
  generalize (u - v) / 8 = k at e
  have e2 : u * u = v * v + 16 * (v * k + 4 * (k * k)) := by rw [e]; grind
  omega
theorem par_mul (a b c d : Int) (h1 : a % 2 = c % 2) (h2 : b % 2 = d % 2) : (a * b) % 2 = (c * d) % 2 := by
  rw [Int.mul_emod, h1, h2, ← Int.mul_emod]
theorem sgn_congr {p : Int} {s t s' t' : Nat} {u v u' v' : Int} (hs : s % 2 = s' % 2) (ht : t % 2 = t' % 2) (hu : Alike p u u') (hv : Alike p v v') : sgnAt p s t u v = sgnAt p s' t' u' v' := by
  unfold sgnAt
  unfold Alike at hu hv
  by_cases h : p = 2
  · rw [if_pos h] at hu hv ⊢
    rw [if_pos h]
    have h1 := par_mul _ _ _ _ (half_par hu) (half_par hv)
    have h2 := par_mul (s : Int) ((v * v - 1) / 8) (s' : Int) ((v' * v' - 1) / 8) (by omega) (w_par hv)
    have h3 := par_mul (t : Int) ((u * u - 1) / 8) (t' : Int) ((u' * u' - 1) / 8) (by omega) (w_par hu)
    have e : ((u - 1) / 2 * ((v - 1) / 2) + s * ((v * v - 1) / 8) + t * ((u * u - 1) / 8)) % 2 = ((u' - 1) / 2 * ((v' - 1) / 2) + s' * ((v' * v' - 1) / 8) + t' * ((u' * u' - 1) / 8)) % 2 := by omega
    rw [e]
  · rw [if_neg h] at hu hv ⊢
    rw [if_neg h, hu, hv, hs, ht, Nat.mul_mod s t, hs, ht, ← Nat.mul_mod]
theorem rest_unit {w p : Int} (h : w % p ≠ 0) : restSign w p * restSign w p = 1 := by
  unfold restSign
  rw [if_neg h]
  split
  · split <;> decide
  · split <;> decide
theorem alike_sq {p u w : Int} (hp : PrP p) (he : p = 2 ∨ ∃ q : Nat, p = q ∧ 3 ≤ q ∧ euler q = true) (hw : w % p ≠ 0) : Alike p (u * (w * w)) u := by
  unfold Alike
  by_cases h : p = 2
  · rw [if_pos h, Int.mul_emod, odd_sq8 (by rw [← h]; exact hw), Int.mul_one, Int.emod_emod_of_dvd _ (Int.dvd_refl _)]
  · rw [if_neg h]
    obtain ⟨q, rfl, h3, e⟩ := he.resolve_left h
    rw [sign_mul h3 e hp, sign_mul h3 e hp, rest_unit hw, Int.mul_one]
theorem strip_sq {p n m k u u' : Int} {s s' : Nat} (hp : PrP p) (hk : k ≠ 0) (e : n = m * (k * k)) (h : Strip n p s u) (h' : Strip m p s' u') : ∃ w : Int, w % p ≠ 0 ∧ u = u' * (w * w) ∧ s % 2 = s' % 2 := by
  obtain ⟨c, w, hw⟩ := strip_exists hk hp.1
  refine ⟨w, hw.2, ?_⟩
  have hs : Strip n p (s' + 2 * c) (u' * (w * w)) := by
    constructor
    · rw [e, h'.1, hw.1, Int.pow_add, Nat.two_mul, Int.pow_add]
      grind
    · intro z
      have d := Int.dvd_of_emod_eq_zero z
      rcases prime_mul hp d with d | d
      · exact h'.2 (Int.emod_eq_zero_of_dvd d)
      · rcases prime_mul hp d with d | d <;> exact hw.2 (Int.emod_eq_zero_of_dvd d)
  obtain ⟨e1, e2⟩ := strip_unique hp h hs
  exact ⟨e2, by omega⟩
theorem hsign_bare {a b a' b' p r : Int} (hp : PrP p) (he : p = 2 ∨ ∃ q : Nat, p = q ∧ 3 ≤ q ∧ euler q = true) (ha : ∃ k, k ≠ 0 ∧ a = a' * (k * k)) (hb : ∃ k, k ≠ 0 ∧ b = b' * (k * k)) (a0 : a' ≠ 0) (b0 : b' ≠ 0) (h : HSign a b p r) : HSign a' b' p r := by
  have p2 := hp.1
  rcases h with ⟨h0, _⟩ | ⟨h0, s, t, u, v, h1, h2, h3⟩
  · omega
  · obtain ⟨s', u', g1⟩ := strip_exists a0 p2
    obtain ⟨t', v', g2⟩ := strip_exists b0 p2
    obtain ⟨k, k0, e⟩ := ha
    obtain ⟨j, j0, f⟩ := hb
    obtain ⟨w, w0, w1, w2⟩ := strip_sq hp k0 e h1 g1
    obtain ⟨x, x0, x1, x2⟩ := strip_sq hp j0 f h2 g2
    refine .inr ⟨h0, s', t', u', v', g1, g2, ?_⟩
    rw [h3]
    exact sgn_congr w2 x2 (by rw [w1]; exact alike_sq hp he w0) (by rw [x1]; exact alike_sq hp he x0)
theorem rest_mod {n p : Int} (h : p ≠ 2) : restSign (n % p) p = restSign n p := by
  unfold restSign
  rw [Int.emod_emod_of_dvd _ (Int.dvd_refl p), if_neg h, if_neg h, pow_mod]
end Sf

namespace Sf
open PySem PySem.Spec PyProof.Rows L2
/-- the ascending places where the sign is -1 -/
def PlacesOf (a b : Int) (l : List Int) : Prop := l.Pairwise (· < ·) ∧ ∀ p : Int, p ∈ l ↔ (p = 0 ∨ PrP p) ∧ HSign a b p (-1)
theorem asc_unique : ∀ {l m : List Int}, l.Pairwise (· < ·) → m.Pairwise (· < ·) → (∀ x, x ∈ l ↔ x ∈ m) → l = m
  | [], [], _, _, _ => rfl
  | [], y :: m, _, _, h => absurd ((h y).mpr List.mem_cons_self) (by simp)
  | x :: l, [], _, _, h => absurd ((h x).mp List.mem_cons_self) (by simp)
  | x :: l, y :: m, h1, h2, h => by
    obtain ⟨a1, a2⟩ := List.pairwise_cons.mp h1
    obtain ⟨b1, b2⟩ := List.pairwise_cons.mp h2
    have e : x = y := by
      have c1 := (h x).mp List.mem_cons_self
      have c2 := (h y).mpr List.mem_cons_self
      rcases List.mem_cons.mp c1 with c1 | c1
      · exact c1
      · rcases List.mem_cons.mp c2 with c2 | c2
        · exact c2.symm
        · have := a1 y c2
          have := b1 x c1
          omega
    subst e
    rw [asc_unique a2 b2 fun z => ?_]
    constructor
    · intro hz
      rcases List.mem_cons.mp ((h z).mp (List.mem_cons_of_mem _ hz)) with e | e
      · have := a1 z hz
        omega
      · exact e
    · intro hz
      rcases List.mem_cons.mp ((h z).mpr (List.mem_cons_of_mem _ hz)) with e | e
      · have := b1 z hz
        omega
      · exact e
theorem places_unique {a b : Int} {l m : List Int} (h : PlacesOf a b l) (h' : PlacesOf a b m) : l = m := asc_unique h.1 h'.1 fun x => (h.2 x).trans (h'.2 x).symm
/-- at an odd prime that divides neither number the sign is 1 -/
theorem sign_far {a b p r : Int} (hp : PrP p) (h2 : p ≠ 2) (ha : a % p ≠ 0) (hb : b % p ≠ 0) (h : HSign a b p r) : r = 1 := by
  rcases h with ⟨h0, _⟩ | ⟨_, s, t, u, v, g1, g2, g3⟩
  · have := hp.1
    omega
  · have e1 := strip_unique hp g1 ⟨by rw [Int.pow_zero, Int.one_mul], ha⟩
    have e2 := strip_unique hp g2 ⟨by rw [Int.pow_zero, Int.one_mul], hb⟩
    rw [g3, e1.1, e2.1]
    unfold sgnAt
    rw [if_neg h2]
    rfl
theorem hsign_some {a b p : Int} (ha : a ≠ 0) (hb : b ≠ 0) (hp : p = 0 ∨ PrP p) : ∃ r, HSign a b p r := by
  rcases hp with e | hp
  · exact ⟨_, .inl ⟨e, rfl⟩⟩
  · obtain ⟨s, u, h1⟩ := strip_exists ha hp.1
    obtain ⟨t, v, h2⟩ := strip_exists hb hp.1
    have := hp.1
    exact ⟨_, .inr ⟨by omega, s, t, u, v, h1, h2, rfl⟩⟩
theorem abs_mod {n p : Int} (h : absI n % p = 0) : n % p = 0 := by
  unfold absI at h
  split at h
  · have d := Int.dvd_of_emod_eq_zero h
    exact Int.emod_eq_zero_of_dvd ((Int.dvd_neg).mp d)
  · exact h
theorem mod_abs {n p : Int} (h : n % p = 0) : absI n % p = 0 := by
  unfold absI
  split
  · exact Int.emod_eq_zero_of_dvd ((Int.dvd_neg).mpr (Int.dvd_of_emod_eq_zero h))
  · exact h
/-- a prime divides a number exactly if it is one of its factors -/
theorem fact_keys {n p : Int} {l : List (Int × Nat)} (h : FactOf n l) (hp : PrP p) : p ∈ l.map (·.1) ↔ n % p = 0 := by
  constructor
  · intro hm
    obtain ⟨q, hq, e⟩ := List.mem_map.mp hm
    subst e
    obtain ⟨i, hi, e⟩ := List.mem_iff_getElem.mp hq
    obtain ⟨k, hk⟩ : ∃ k, q.2 = k + 1 := ⟨q.2 - 1, by have := (h.2.2 q hq).2; omega⟩
    have : ∀ (l : List (Int × Nat)), q ∈ l → q.1 ∣ prodF l := fun l hl => by
      induction l with
      | nil => cases hl
      | cons x l ih =>
        show q.1 ∣ x.1 ^ x.2 * prodF l
        rcases List.mem_cons.mp hl with e | e
        · subst e
          rw [hk, Int.pow_succ, Int.mul_assoc]
          exact Int.dvd_trans (Int.dvd_mul_right _ _) (Int.dvd_mul_left _ _)
        · exact Int.dvd_trans (ih e) (Int.dvd_mul_left _ _)
    have d := this l hq
    rw [h.1] at d
    exact Int.emod_eq_zero_of_dvd d
  · intro hm
    have d := Int.dvd_of_emod_eq_zero hm
    rw [← h.1] at d
    obtain ⟨e, he⟩ := prime_prodF hp h.2.2 d
    exact List.mem_map.mpr ⟨_, he, rfl⟩
/-- the places out of 0 and the divisors -/
theorem places_of {a b : Int} {la lb : List (Int × Nat)} {D : List Int} (ha : a ≠ 0) (hb : b ≠ 0) (fa : FactOf (absI a) la) (fb : FactOf (absI b) lb) (hD : D.Pairwise (· < ·)) (hm : ∀ k, k ∈ D ↔ k ∈ 2 :: (la.map (·.1) ++ lb.map (·.1)))
    : (∀ k ∈ 0 :: D, k = 0 ∨ PrP k) ∧ ∀ {l : List Int} (hl : l.Sublist (0 :: D)) (hs : ∀ k, k ∈ l ↔ k ∈ 0 :: D ∧ HSign a b k (-1)), PlacesOf a b l := by
  have hP : ∀ k ∈ 0 :: D, k = 0 ∨ PrP k := fun k hk => by
    rcases List.mem_cons.mp hk with e | e
    · exact .inl e
    · rcases List.mem_cons.mp ((hm k).mp e) with e | e
      · exact .inr (e ▸ prp_of_trial (d := 2) (by decide) (by decide) (fun k a b => by omega) (by decide))
      · rcases List.mem_append.mp e with e | e
        · obtain ⟨q, hq, e⟩ := List.mem_map.mp e
          exact .inr (e ▸ (fa.2.2 q hq).1)
        · obtain ⟨q, hq, e⟩ := List.mem_map.mp e
          exact .inr (e ▸ (fb.2.2 q hq).1)
  refine ⟨hP, fun {l} hl hs => ⟨?_, fun p => ?_⟩⟩
  · refine List.Pairwise.sublist hl (List.pairwise_cons.mpr ⟨fun k hk => ?_, hD⟩)
    rcases List.mem_cons.mp ((hm k).mp hk) with e | e
    · omega
    · rcases hP k (List.mem_cons_of_mem _ hk) with e2 | e2
      · rcases List.mem_append.mp e with e | e
        · obtain ⟨q, hq, e⟩ := List.mem_map.mp e
          have := (fa.2.2 q hq).1.1
          omega
        · obtain ⟨q, hq, e⟩ := List.mem_map.mp e
          have := (fb.2.2 q hq).1.1
          omega
      · have := e2.1
        omega
  · rw [hs]
    constructor
    · rintro ⟨h1, h2⟩
      exact ⟨hP p h1, h2⟩
    · rintro ⟨h1, h2⟩
      refine ⟨?_, h2⟩
      rcases h1 with e | hp
      · rw [e]
        exact List.mem_cons_self
      · by_cases c : p ∈ D
        · exact List.mem_cons_of_mem _ c
        · exfalso
          rw [hm, List.mem_cons, List.mem_append, fact_keys fa hp, fact_keys fb hp] at c
          have n2 : p ≠ 2 := fun z => c (.inl z)
          have := sign_far hp n2 (fun z => c (.inr (.inl (mod_abs z)))) (fun z => c (.inr (.inr (mod_abs z)))) h2
          exact absurd this (by decide)
end Sf

namespace Sf
open PySem PySem.Spec PyProof.Rows L2
section
variable {P : Program} {w : World} {A : Around} {E : Value → Shared → Prop} {s : Shared}
/-- a set that is just made -/
abbrev nso (w : World) : Obj := { cls := .type "set", dict := none, data := .set #[] 0 (.fresh 0 0 (!w.params.followText "set-order")) }
abbrev nsh (w : World) (s : Shared) : Heap := s.heap.push (nso w)
/-- the first half: the set's loop over a list of ints -/
theorem set_loop {l : Addr} {its : Array Value} (ns : List Int) (hh : A.handled = none) (hl : s.heap.IsList l its) (hi : IntsAre its.toList ns) (hb : ns.length + 1 < scanBound)
    {R : Result → Shared → Prop} (hR : ∀ (h' : Heap) (tk c : Nat), SetR w h' s.heap.objs.size (fun j => decide (j ∈ ns)) c → c ≤ ns.length → (∀ b o, s.heap.get? b = some o → h'.get? b = some o) → R (.ok (.ret .none)) { s with heap := h', toks := tk }) :
    codeAny (model P w) A (.builtin "set.update.loop" ⟨[.ref s.heap.objs.size, .ref (nsh w s).objs.size], []⟩) R { s with heap := (nsh w s).push { cls := .type "list_iterator", data := .fields #[.ref l, .int 0 0] } } := by
  have sz : its.size = ns.length := (Array.length_toList (xs := its)).symm.trans (IntsAre.length hi)
  obtain ⟨ol, ho, r⟩ := hl
  have lt : l < s.heap.objs.size := Heap.lt_size ho
  have e1 : (nsh w s).objs.size = s.heap.objs.size + 1 := Heap.size_push ..
  have n1 : l ≠ (nsh w s).objs.size := by rw [e1]; exact Nat.ne_of_lt (Nat.lt_succ_of_lt lt)
  have n2 : ¬ s.heap.objs.size ∈ [(nsh w s).objs.size, l] := by
    rw [e1]
    intro z
    rcases List.mem_cons.mp z with z | z
    · exact absurd z (Nat.ne_of_lt (Nat.lt_succ_self _))
    · exact absurd (List.mem_singleton.mp z) (Nat.ne_of_gt lt)
  have isl : (nsh w s).IsList l its := ⟨ol, Heap.get?_push_of_some _ ho, r⟩
  have hA : A.in1.handled = none := by simp [hh]
  refine set_update_ints ((Walks.list hA _ l n1 its).toS) s.heap.objs.size n2 ns sz hb (fun i v hv => ?_) (its.size - 0) 0 _ rfl (Nat.zero_le _) ⟨⟨_, Heap.get?_push_size _ rfl, rfl, rfl⟩, isl.push _⟩ ?_ fun t c hm hc hS => ?_
  · have hlt : i < ns.length := sz ▸ (Array.getElem?_eq_some_iff.mp hv).1
    obtain ⟨t, e⟩ := IntsAre.int_at hi i v (by rw [Array.getElem?_toList]; exact hv)
    exact ⟨ns[i], t, List.getElem?_eq_getElem hlt, by rw [e, List.getD_eq_getElem?_getD, List.getElem?_eq_getElem hlt] <;> rfl⟩
  · refine ⟨0, Nat.le_refl 0, setR_new_at ?_⟩
    exact Heap.get?_push_of_some _ (Heap.get?_push_size _ rfl)
  · obtain ⟨h', g', d', t', o'⟩ := t
    cases (show g' = s.gens from hm.gens)
    cases (show d' = s.drawn from hm.drawn)
    cases (show o' = s.os from hm.os)
    refine hR h' t' c hS (sz ▸ hc) fun b o e => ?_
    have hb0 : b < s.heap.objs.size := Heap.lt_size e
    refine hm.heap b o (fun z => ?_) (Heap.get?_push_of_some _ (Heap.get?_push_of_some _ e))
    rcases List.mem_cons.mp z with z | z
    · exact absurd z (Nat.ne_of_lt hb0)
    · exact absurd ((List.mem_singleton.mp z).trans e1) (Nat.ne_of_lt (Nat.lt_succ_of_lt hb0))
set_option maxHeartbeats 8000000 in
theorem set_init {l : Addr} {its : Array Value} (ns : List Int) (hh : A.handled = none) (hl : s.heap.IsList l its) (hi : IntsAre its.toList ns) (hb : ns.length + 1 < scanBound) :
    codeAny (model P w) A (.call (.builtin "set.__init__") ⟨[.ref s.heap.objs.size, .ref l], []⟩) (wants (fun r t => r = .none ∧ ∃ h' tk c, t = { s with heap := h', toks := tk } ∧ SetR w h' s.heap.objs.size (fun j => decide (j ∈ ns)) c ∧ c ≤ ns.length ∧
      (∀ b o, s.heap.get? b = some o → h'.get? b = some o)) E) { s with heap := nsh w s } := by
  have hS : (nsh w s).get? s.heap.objs.size = some (nso w) := Heap.get?_push_size _ rfl
  have hT : Shared.TypeIs { s with heap := nsh w s } (.ref s.heap.objs.size) "set" := ⟨_, hS, rfl⟩
  refine codeAny_call_builtin F.called_set.init.plain F.entry_set_init (check_set_init_1 hT ?_)
  obtain ⟨⟨oc, odct, odat, osl⟩, ho, hc, n0, hd⟩ := hl
  cases hc
  cases hd
  have ho' : (nsh w s).get? l = some { cls := .type "list", dict := odct, data := .seq its n0, slots := osl } := Heap.get?_push_of_some _ ho
  have isl : (nsh w s).IsList l its := ⟨_, ho', rfl, n0, rfl⟩
  have g1 := F.sub_list_set
  have g2 := F.sub_list_frozenset
  have g3 : (Value.type "list" == Value.type "dict") = false := by decide
  unfold Builtin.«set.__init__» noKeywords Builtin.Frozenset.updateFrom
  generalize hPI : pyIter = it
  wp_walk
  subst hPI
  refine wpAny_pyIter_list isl ?_
  refine wpAny_bind (wpAny_runValue (set_loop (A := A.in1) ns (by simp [hh]) ⟨_, ho, rfl, n0, rfl⟩ hi hb fun h' tk c a b k => ?_))
  exact wpAny_pure (wpAny_pure ⟨rfl, h', tk, c, rfl, a, b, k⟩)
end
end Sf
namespace Sf
open PySem PySem.Spec PyProof.Rows L2
section
variable {P : Program} {w : World} {A : Around} {E : Value → Shared → Prop} {s : Shared}
set_option maxHeartbeats 8000000 in
theorem set_call {l : Addr} {its : Array Value} (ns : List Int) {Q : Value → Shared → Prop} (hh : A.handled = none) (hl : s.heap.IsList l its) (hi : IntsAre its.toList ns) (hb : ns.length + 1 < scanBound)
    (h : ∀ (h' : Heap) (tk c : Nat), SetR w h' s.heap.objs.size (fun j => decide (j ∈ ns)) c → c ≤ ns.length → (∀ b o, s.heap.get? b = some o → h'.get? b = some o) → Q (.ref s.heap.objs.size) { s with heap := h', toks := tk }) :
    wpAny (model P w) A (call (.type "set") [.ref l]) Q E s := by
  obtain ⟨c, tl, g0⟩ := F.called_set.mro
  have g1 := F.called_set.made
  have g2 := F.called_set.sub
  have g3 := F.called_set.notType
  have g4 := F.called_set.canCreate
  have g5 := F.typeCall_set_1 (.ref l)
  have g6 := F.called_set.init.lookup
  refine wpAny_call (codeAny_of_tree ?_)
  show wpAny _ _ (callAny (.type "set") _) _ _ _
  refine wpAny_pure ⟨Code.quiet_builtin _ (by decide +kernel), codeAny_builtin F.entry_type_call ?_⟩
  rw [Around.under_plain (weight_type_call_type "set" [.ref l] []) rfl]
  repeat (any_goals (first | assumption | wp_step))
  refine codeAny_mono (code_set_led1 (.ref l) (E := E) (Q₁ := fun ob t => ob = .ref s.heap.objs.size ∧ t = { s with heap := nsh w s }) ⟨rfl, rfl⟩) fun r t hr => ?_
  cases r with
  | error e => exact hr
  | ok fl =>
    cases fl with
    | ret ob =>
      obtain ⟨rfl, rfl⟩ := hr
      have hT : Shared.TypeIs { s with heap := nsh w s } (.ref s.heap.objs.size) "set" := ⟨_, Heap.get?_push_size _ rfl, rfl⟩
      have g7 := F.called_set.init.bind (.ref s.heap.objs.size)
      repeat (any_goals (first | assumption | wp_step))
      refine codeAny_mono (set_init (E := E) ns (by simp [hh]) hl hi hb) fun r t hr => ?_
      cases r with
      | error e => exact hr
      | ok fl =>
        cases fl with
        | ret v =>
          obtain ⟨rfl, h', tk, c', rfl, a1, a2, a3⟩ := hr
          repeat (any_goals (first | assumption | wp_step))
          exact h _ _ _ a1 a2 a3
        | _ => exact hr.elim
    | _ => exact hr.elim
end
section
variable {X : Cx} {e : Expr} {es : List Expr} {te : TE} {t : TA} {p : Pos}
/-- set(xs), xs a list of ints -/
def rSetL (K : PySem.W.Frag) (w : World) : List V → Hp → VK → Prop := fun xs H Q => ∃ (a : Addr) (ns : List Int), xs = [.ref a] ∧ SqL K H a (ns.map V.int) ∧ ns.length ≤ 1000 ∧ ∀ (q : Addr) (n : Nat), n ≤ ns.length → H q = none → Q (.ref q) (upd H q (SetO w q (fun j => decide (j ∈ ns)) n))
theorem cr_setL (hc : X.calm = true) : CallR X (.type "set") (rSetL X.K X.w) := by
  intro pins s σ H xs us Q I r h
  obtain ⟨a, ns, rfl, hs, hz, q⟩ := h
  obtain ⟨its, rv, pl, _⟩ := I.list hs
  rw [Vals.ref1 r]
  refine set_call ns (I.ok.hd hc) pl.isList (by simpa using rv.ints) (by unfold scanBound; omega) fun h' tk c R hcn k => ?_
  exact ⟨.ref _, upd H s.heap.objs.size (SetO X.w s.heap.objs.size (fun j => decide (j ∈ ns)) c), I.laid (t' := tk) k (Nat.le_refl _) (setO_new R), rfl, q _ c hcn (I.hok.fresh (Nat.le_refl _))⟩
/-- *d in a display, d a dict -/
theorem star_dict {pins : List (Addr × Obj)} {σ : L2.St} {H : Hp} {s : Shared} {a : Addr} {kvs : List (Key × V)} {E : Value → Shared → Prop} {Q : List Value → Shared → Prop} (hc : X.calm = true) (I : Inv X pins σ H s) (h : Rd H a (.dK kvs))
    (hQ : ∀ us s', Inv X pins σ H s' → Vals (kvs.map fun kv => kV kv.1) us → Q us s') : PySem.W.StarOf (model X.prog X.w) X.A E (.ref a) Q s := by
  obtain ⟨z, lo, vs, rel, dd⟩ := dk_rd I.hok h
  obtain ⟨ep, hat⟩ := dd.dictAt
  have ek : (kvs.map fun kv => kV kv.1) = vs.map fun p => kV p.1 := by
    have e := congrArg (List.map kV) rel.keys
    rw [List.map_map, List.map_map] at e
    exact e
  have z : wpAny (model X.prog X.w) X.A (collect (.ref a)) Q E s := by
    refine PySem.W.kdu_collect (A := X.A) (PySem.W.kdl_dict (knd := mixKind X.prog X.w) (kvs := vs) (ep := ep) lo) (I.ok.hd hc) hat (by rw [← rel.length]; exact z) fun h' tk acc hk hacc => ?_
    refine hQ _ _ (I.kept (t' := tk) hk) ?_
    rw [ek]
    exact keys_at (by rw [Array.length_toList]; exact hacc.1) fun j v e => hacc.2 j v (by rw [← Array.getElem?_toList]; exact e)
  unfold PySem.W.StarOf notIterableAtAll
  exact wpAny_bind (wpAny_specialOf dd.typeIs PySem.F.slot_dict_iter.lookup (wpAny_pure ⟨rfl, z⟩))
def tStarD (te : TE) (t : TA) : TA := fun σ H Q => te σ H fun x H1 => ∃ p kvs, x = V.ref p ∧ Rd H1 p (.dK kvs) ∧ t σ H1 fun ys H2 => Q ((kvs.map fun kv => kV kv.1) ++ ys) H2
theorem pa_starD (hc : X.calm = true) (he : PE X e te) (hr : PA X es t) (hs : starEach (.Starred e p :: es) X.env = (true, eval e X.env) :: starEach es X.env := by rfl) : PA X (.Starred e p :: es) (tStarD te t) :=
  ⟨fun pos pins s σ H Q I h => PySem.W.items_star (thn (he.run pins s σ H _ I h) fun v s1 ⟨y, H1, I1, ry, a, kvs, ey, hx, q⟩ => by
    subst ey
    cases (show v = Value.ref a from ry)
    exact star_dict hc I1 hx fun us s2 I2 rv => thn (hr.run pos pins s2 σ H1 _ I2 q) fun ws s3 ⟨vs, H3, I3, r3, q3⟩ => ⟨_, H3, I3, rv.append r3, q3⟩) hs⟩
end
end Sf

namespace Sf
open PySem PySem.Spec PyProof.Rows L2
section
variable {P : Program} {w : World} {K : PySem.W.Frag} {mg : Str → Option Value} {base : Heap} {f : Addr} {fd : FuncData}
theorem keys_ints (l : List (Int × Nat)) : ((kvsF l).map fun kv => kV kv.1) = (l.map (·.1)).map V.int := by
  unfold kvsF
  rw [List.map_map, List.map_map]
  rfl
structure PlacesP (vs : List V) (H : Hp) (Q : VK) : Prop where
  ex : ∃ a b : Int, vs = [.int a, .int b] ∧ a ≠ 0 ∧ b ≠ 0 ∧ a.natAbs ≤ 1000000000 ∧ b.natAbs ≤ 1000000000 ∧ ∀ (l : List Int) (p : Addr) (H' : Hp), PlacesOf a b l → l.length ≤ 62 → Same H H' → H p = none → H' p = some (.tup (l.map V.int)) → Q (.ref p) H'
def spPlaces : Sp := fun vs H Q _ => PlacesP vs H Q
theorem ok_signed_places (F : FnD K "signed_places" "signed_places" s_P_signed_places f fd) (T : Glob mg) (C_P_check_number : Cal P w K mg base 2 "check_number" ["value"] spCheckNumber) (C_P_factors : Cal P w K mg base 3 "factors" ["number"] spFactors) (C_P_sign : Cal P w K mg base 4 "sign" ["a", "b", "place"] spSign) :
    FnOk P w K mg base CX0 5 f fd ["a", "b"] spPlaces := by
  refine F.ok sc_P_signed_places (fun vs H Q E h => ?_) (fun cdv A outer s H vs Q E hr h => ?_)
  · obtain ⟨a, b, rfl, _⟩ := h.ex; rfl
  · obtain ⟨a, b, rfl, a0, b0, a1, b1, q⟩ := h.ex
    have hu := hu_of hr
    refine ⟨_, PSs.nox (pss_cons (ps_expr (pe_cal C_P_check_number (hr.mono (by decide)) (pa_cons (pv 0) pa_nil)))
      (pss_cons (ps_expr (pe_cal C_P_check_number (hr.mono (by decide)) (pa_cons (pv 1) pa_nil)))
      (pss_cons (ps_set (i := 2) sc_P_signed_places.nd rfl (Or.inl rfl) (pe_callB (cr_sortedSet rfl) (by rfl) T.m_sorted (by decide +kernel) (pa_cons (pe_callTy (cr_setL rfl) (by rfl) T.m_set (by decide +kernel) (pa_cons (pe_lst (pa_cons pe_int (pa_starD rfl (pe_cal C_P_factors (hr.mono (by decide)) (pa_cons (pv 0) pa_nil)) (pa_starD rfl (pe_cal C_P_factors (hr.mono (by decide)) (pa_cons (pv 1) pa_nil)) pa_nil)))) pa_nil)) pa_nil)))
      (pss_one (ps_ret (pe_callTy call_tuple_of (by rfl) T.m_tuple (by decide +kernel) (pa_cons (pe_lc rfl sc_P_signed_places.nd (own := [("place", 3)]) (pi_list (pe_lst (pa_cons pe_int (StX.pa_star (pv 2) pa_nil)))) (blkOk_by (N := ["a", "b", "divisors", "place"]) (sc := defScope s_P_signed_places) (by decide +kernel)) (fun _ _ _ _ _ => pg_name (i := 3) sc_P_signed_places.nd rfl (Or.inl rfl)) (fun _ _ _ _ _ => pts_one (pt_cmp (pc_eqI (pe_cal C_P_sign (hr.mono (by decide)) (pa_cons (pv 0) (pa_cons (pv 1) (pa_cons (pv 3) pa_nil)))) (pe_un un_neg pe_int)))) (fun _ _ _ _ _ => (pv 3))) pa_nil))))))), ?_⟩
    refine ⟨_, rfl, a, rfl, a0, by omega, by omega, _, rfl, b, rfl, b0, by omega, by omega, ?_⟩
    refine ⟨_, rfl, a, rfl, a0, by omega, by omega, fun la da H1 fa e1 na hda => ⟨da, kvsF la, rfl, .inl hda, ?_⟩⟩
    refine ⟨_, rfl, b, rfl, b0, by omega, by omega, fun lb db H2 fb e2 nb hdb => ⟨db, kvsF lb, rfl, .inl hdb, ?_⟩⟩
    have A2 : absI a ≤ 1000000000 := by unfold absI; split <;> omega
    have B2 : absI b ≤ 1000000000 := by unfold absI; split <;> omega
    have hla := fact_len fa A2
    have hlb := fact_len fb B2
    generalize hns : (2 : Int) :: (la.map (·.1) ++ lb.map (·.1)) = ns
    have hlen : ns.length ≤ 61 := by
      rw [← hns, List.length_cons, List.length_append, List.length_map, List.length_map]
      omega
    have hitems : V.int 2 :: ((kvsF la).map (fun kv => kV kv.1) ++ ((kvsF lb).map (fun kv => kV kv.1) ++ [])) = ns.map V.int := by
      rw [← hns, keys_ints, keys_ints, List.append_nil, List.map_cons, List.map_append]
    refine ⟨?_, fun x hx => ?_⟩
    · show (V.int 2 :: ((kvsF la).map (fun kv => kV kv.1) ++ ((kvsF lb).map (fun kv => kV kv.1) ++ []))).length ≤ sizeLine
      rw [hitems, List.length_map]
      exact Nat.le_trans hlen (by decide)
    refine ⟨x, ns, rfl, SqL.of ?_, by omega, fun y n hn hy => ?_⟩
    · rw [upd_same, ← hitems]
    refine ⟨y, _, n, rfl, upd_same, by omega, fun D z hD hm hDl hz => ?_⟩
    have hP0 := places_of (D := D) a0 b0 fa fb hD (fun k => (hm k).trans (by rw [← hns]; exact decide_eq_true_iff))
    have eH : Same H (upd (upd (upd H2 x (.lst (V.int 2 :: ((kvsF la).map (fun kv => kV kv.1) ++ ((kvsF lb).map (fun kv => kV kv.1) ++ []))))) y (SetO w y (fun j => decide (j ∈ ns)) n)) z (.lst (D.map V.int))) :=
      (((e1.trans e2).trans (same_upd hx)).trans (same_upd hy)).trans (same_upd hz)
    refine ⟨_, rfl, z, _, rfl, .inr (SqL.of upd_same), ?_, fun c hc => ?_⟩
    · refine Nat.le_trans (?_ : _ ≤ 70) (by decide)
      show (V.int 0 :: (D.map V.int ++ [])).length ≤ 70
      rw [List.append_nil, List.length_cons, List.length_map]
      omega
    have eL : V.int 0 :: (D.map V.int ++ []) = (0 :: D).map V.int := by rw [List.append_nil]; rfl
    rw [eL]
    have eH2 := eH.trans (same_upd (o := .lst ((0 :: D).map V.int)) hc)
    refine ⟨c, rfl, ⟨_, SqL.of upd_same⟩, fun d hd => ?_⟩
    have hdH : H d = none := eH2.free hd
    have ncd : c ≠ d := fun z => by
      rw [← z, upd_same] at hd
      cases hd
    refine lc_list (K := K) (a := c) (xs := (0 :: D).map V.int) (fun i H' => Same H H' ∧ SqL K H' c ((0 :: D).map V.int) ∧ ∃ m : List Int, H' d = some (.lst (m.map V.int)) ∧ m.Sublist ((0 :: D).take i) ∧ ∀ k, k ∈ m ↔ k ∈ (0 :: D).take i ∧ HSign a b k (-1)) ⟨eH2.trans (same_upd hd), sq_upd (SqL.of upd_same) ncd, [], upd_same, List.Sublist.refl _, fun k => ⟨fun z => (by cases z), fun z => absurd z.1 (by simp)⟩⟩ (fun i H' _ hp => hp.2.1) (fun i v H' hv hp => ?_) (fun H' hp => ?_)
    · obtain ⟨e5, hL, m, hmd, msub, hmm⟩ := hp
      obtain ⟨k, hk, rfl⟩ : ∃ k, (0 :: D)[i]? = some k ∧ v = V.int k := by
        rw [List.getElem?_map] at hv
        cases e : (0 :: D)[i]? with
        | none => rw [e] at hv; cases hv
        | some z => rw [e] at hv; exact ⟨z, rfl, (Option.some.inj hv).symm⟩
      have kP := hP0.1 k (List.mem_of_getElem? hk)
      have kB : k ≤ 1000000000 := by
        rcases List.mem_cons.mp (List.mem_of_getElem? hk) with e | e
        · omega
        · have e := (hm k).mp e
          rw [decide_eq_true_iff, ← hns] at e
          rcases List.mem_cons.mp e with e | e
          · omega
          · rcases List.mem_append.mp e with e | e
            · obtain ⟨r, hr, rfl⟩ := List.mem_map.mp e
              have := prodF_mem fa.2.2 r hr
              rw [fa.1] at this
              omega
            · obtain ⟨r, hr, rfl⟩ := List.mem_map.mp e
              have := prodF_mem fb.2.2 r hr
              rw [fb.1] at this
              omega
      have et : (0 :: D).take (i + 1) = (0 :: D).take i ++ [k] := by rw [List.take_add_one, hk]; rfl
      refine ⟨rfl, ⟨_, rfl, _, rfl, _, rfl, ⟨a, b, k, rfl, a0, b0, a1, b1, kP.imp id fun z => ⟨z, kB⟩, fun r H6 hr e6 => ?_⟩⟩⟩
      refine ⟨1, rfl, _, _, rfl, rfl, _, rfl, ifd (fun h => ?_) (fun h => ?_)⟩
      · have h : r = -1 := h
        subst h
        refine ⟨_, rfl, m.map V.int, e6 _ _ hmd, ?_, ?_, sq_upd (e6.seq hL) ncd, m ++ [k], ?_, ?_, fun j => ?_⟩
        · rw [List.length_map]
          have := msub.length_le
          rw [List.length_take, List.length_cons] at this
          exact Nat.lt_of_le_of_lt (by omega : m.length ≤ 70) (by decide)
        · intro b' o e
          rw [upd_ne (ne_of_none e hdH)]
          exact e6 _ _ (e5 _ _ e)
        · rw [upd_same, List.map_append]; rfl
        · rw [et]
          exact msub.append (List.Sublist.refl _)
        · rw [et, List.mem_append, List.mem_append, hmm, List.mem_singleton]
          constructor
          · rintro (h | h)
            · exact ⟨.inl h.1, h.2⟩
            · exact ⟨.inr h, h ▸ hr⟩
          · rintro ⟨h | h, h2⟩
            · exact .inl ⟨h, h2⟩
            · exact .inr h
      · refine ⟨e5.trans e6, e6.seq hL, m, e6 _ _ hmd, ?_, fun j => ?_⟩
        · rw [et]
          exact msub.trans (List.sublist_append_left _ _)
        · rw [et, List.mem_append, hmm, List.mem_singleton]
          constructor
          · rintro h
            exact ⟨.inl h.1, h.2⟩
          · rintro ⟨h1 | h1, h2⟩
            · exact ⟨h1, h2⟩
            · subst h1
              exact absurd (hsign_unique kP hr h2) h
    · obtain ⟨e5, hL, m, hmd, msub, hmm⟩ := hp
      rw [List.length_map, List.take_length] at msub hmm
      refine ⟨d, m.map V.int, rfl, .inl ⟨SqL.of hmd, fun t ht => ?_⟩⟩
      have hl := hP0.2 msub hmm
      have ml := msub.length_le
      rw [List.length_cons] at ml
      exact q m t _ hl (by omega) (e5.trans (same_upd ht)) (e5.free ht) upd_same
end
end Sf

namespace Sf
open PySem PySem.Spec PyProof.Rows L2
section
variable {X : Cx} {CX : CXT} {n : Nat} {f C : Addr} {fd : FuncData} {ps : List Str} {sp : Sp} {E : XK} {op : Operator}
/-- no value of ours stands for "not implemented" -/
theorem cmpBack {v : V} {u : Value} {s : Shared} {Q : Value → Shared → Prop} (r : RelV v u) (q : Q u s) : PySem.W.CmpBack Q u s := by
  cases v with
  | non => cases (show u = Value.none from r); exact q
  | bl b => cases (show u = Value.bool b from r); exact q
  | int i => obtain ⟨t, rfl⟩ := (show ∃ t, u = Value.int i t from r); exact q
  | str x => obtain ⟨t, rfl⟩ := (show ∃ t, u = Value.str x t from r); exact q
  | byt b => obtain ⟨t, rfl⟩ := (show ∃ t, u = Value.bytes b t from r); exact q
  | flt b => obtain ⟨t, rfl⟩ := (show ∃ t, u = Value.float b t from r); exact q
  | ref a => cases (show u = Value.ref a from r); exact q
  | ty t => cases (show u = Value.type t from r); exact q
/-- an instance of the class at C -/
def Ins (H : Hp) (a C : Addr) : Prop := ∃ dx fs, H a = some (.ins C dx fs)
theorem ins_inst {pins : List (Addr × Obj)} {σ : L2.St} {H : Hp} {s : Shared} {a : Addr} (I : Inv X pins σ H s) (h : Ins H a C) : ∃ (ox : Obj) (od : Obj), PySem.W.InstAt s.heap a ox C (some od) := by
  obtain ⟨dx, fs, ea⟩ := h
  obtain ⟨mA, O, _⟩ := ins_get I.hok ea
  obtain ⟨od, J, _⟩ := O.look
  exact ⟨_, od, J⟩
/-- x op y, both of one own class that says what op is -/
def rOwn (C : Addr) (sp : Sp) (E : XK) : R2 := fun x y H Q => ∃ a b, x = .ref a ∧ y = .ref b ∧ Ins H a C ∧ Ins H b C ∧ sp [.ref a, .ref b] H Q E
theorem op_own (M : Meth X.K C (PySem.dunder op.info.2) f) (F : FnOk X.prog X.w X.K X.mg X.base CX n f fd ps sp) (hr : Room n X.A) (hb : Binds X.K fd ps []) (hx : Passes CX X E) (hc : PySem.W.selfFirst X.K C = true) : OpR X (binaryOp op) (rOwn C sp E) := by
  intro pins s σ H x y v u Q I rx ry h
  obtain ⟨a, b, rfl, rfl, ha, hb', q⟩ := h
  cases (show v = Value.ref a from rx)
  cases (show u = Value.ref b from ry)
  obtain ⟨ox, od, J⟩ := ins_inst I ha
  obtain ⟨oy, oe, J'⟩ := ins_inst I hb'
  obtain ⟨m, hF⟩ := I.fr
  refine PySem.W.binop_K hF I.ok.mod.kin J J'.type hc M.at_ M.fn (wpAny_mono (run_fn (us := [.ref a, .ref b]) (vs := [.ref a, .ref b]) F hr hb .nil hx I (.cons rfl (.cons rfl .nil)) q) (fun w s' h => ?_) fun _ _ z => z)
  obtain ⟨z, H', I', rz, qz⟩ := id h
  exact cmpBack rz h
/-- x op n, n an int -/
def rOwnI (C : Addr) (sp : Sp) (E : XK) : R2 := fun x y H Q => ∃ a i, x = .ref a ∧ y = .int i ∧ Ins H a C ∧ sp [.ref a, .int i] H Q E
theorem op_ownI {fo ro : Option Value} (M : Meth X.K C (PySem.dunder op.info.2) f) (F : FnOk X.prog X.w X.K X.mg X.base CX n f fd ps sp) (hr : Room n X.A) (hb : Binds X.K fd ps []) (hx : Passes CX X E) (hc : PySem.W.selfFirst X.K C = true)
    (nr : NoAttr X.K C (dunderR op.info.2)) (hsub : PySem.W.subIn X.K (.type "int") (.ref C) = some false) (h1 : PySem.W.findIn X.K (.type "int") (PySem.dunder op.info.2) = some fo) (h2 : PySem.W.findIn X.K (.type "int") (dunderR op.info.2) = some ro) :
    OpR X (binaryOp op) (rOwnI C sp E) := by
  intro pins s σ H x y v u Q I rx ry h
  obtain ⟨a, i, rfl, rfl, ha, q⟩ := h
  cases (show v = Value.ref a from rx)
  obtain ⟨t, rfl⟩ := (show ∃ t, u = Value.int i t from ry)
  obtain ⟨ox, od, J⟩ := ins_inst I ha
  obtain ⟨m, hF⟩ := I.fr
  refine PySem.W.ksp_binT (T := "int") hF I.ok.mod.kin J rfl hc M.at_ M.fn nr (.inl rfl) h1 h2 hsub (wpAny_mono (run_fn (us := [.ref a, .int i t]) (vs := [.ref a, .int i]) F hr hb .nil hx I (.cons rfl (.cons ⟨t, rfl⟩ .nil)) q) (fun w s' h => ?_) fun _ _ z => z)
  obtain ⟨z, H', I', rz, qz⟩ := id h
  exact cmpBack rz h
/-- -x -/
def rOwn1 (C : Addr) (sp : Sp) (E : XK) : V → Hp → VK → Prop := fun x H Q => ∃ a, x = .ref a ∧ Ins H a C ∧ sp [.ref a] H Q E
theorem un_own (M : Meth X.K C "__neg__" f) (F : FnOk X.prog X.w X.K X.mg X.base CX n f fd ps sp) (hr : Room n X.A) (hb : Binds X.K fd ps []) (hx : Passes CX X E) : UnR X (unaryOp .USub) (rOwn1 C sp E) := by
  intro pins s σ H x v Q I rx h
  obtain ⟨a, rfl, ha, q⟩ := h
  cases (show v = Value.ref a from rx)
  obtain ⟨ox, od, J⟩ := ins_inst I ha
  obtain ⟨m, hF⟩ := I.fr
  exact PySem.W.ksp_neg hF I.ok.mod.kin J M.at_ M.fn (run_fn (us := [.ref a]) (vs := [.ref a]) F hr hb .nil hx I (.cons rfl .nil) q)
/-- the truth of an own object -/
theorem tru_own (M : Meth X.K C "__bool__" f) (F : FnOk X.prog X.w X.K X.mg X.base CX n f fd ps sp) (hr : Room n X.A) (hb : Binds X.K fd ps []) (hx : Passes CX X E) :
    TruR X (fun x H Q => ∃ a, x = .ref a ∧ Ins H a C ∧ sp [.ref a] H (fun v H' => ∃ k, v = .bl k ∧ Q k H') E) := by
  intro pins s σ H x v Q I rx h
  obtain ⟨a, rfl, ha, q⟩ := h
  cases (show v = Value.ref a from rx)
  obtain ⟨ox, od, J⟩ := ins_inst I ha
  obtain ⟨m, hF⟩ := I.fr
  refine PySem.W.truthy_K hF I.ok.mod.kin J M.at_ M.fn (wpAny_mono (run_fn (us := [.ref a]) (vs := [.ref a]) F hr hb .nil hx I (.cons rfl .nil) q) (fun w s' h => ?_) fun _ _ z => z)
  obtain ⟨z, H', I', rz, k, rfl, qz⟩ := h
  cases (show w = Value.bool k from rz)
  exact ⟨H', I', qz⟩
/-- x == y by an own __eq__, y of the same class -/
theorem eq_own (M : Meth X.K C "__eq__" f) (F : FnOk X.prog X.w X.K X.mg X.base CX n f fd ps sp) (hr : Room n X.A) (hb : Binds X.K fd ps []) (hx : Passes CX X E) : OpR X (compareOp .Eq) (rOwn C sp E) := by
  intro pins s σ H x y v u Q I rx ry h
  obtain ⟨a, b, rfl, rfl, ha, hb', q⟩ := h
  cases (show v = Value.ref a from rx)
  cases (show u = Value.ref b from ry)
  obtain ⟨ox, od, J⟩ := ins_inst I ha
  obtain ⟨oy, oe, J'⟩ := ins_inst I hb'
  obtain ⟨m, hF⟩ := I.fr
  show wpAny (model X.prog X.w) X.A (richCompare .Eq _ _) (EP X pins σ Q) X.xe s
  refine PySem.W.cmp_K (op := .Eq) (tb := .ref C) hr.units0 hF I.ok.mod.kin J J'.type (by simp [PySem.W.notFirst]) M.at_ M.fn (wpAny_mono (run_fn (us := [.ref a, .ref b]) (vs := [.ref a, .ref b]) F hr hb .nil hx I (.cons rfl (.cons rfl .nil)) q) (fun w s' h => ?_) fun _ _ z => z)
  obtain ⟨z, H', I', rz, qz⟩ := id h
  exact cmpBack rz h
/-- x == n by an own __eq__, n an int -/
theorem eq_ownI (M : Meth X.K C "__eq__" f) (F : FnOk X.prog X.w X.K X.mg X.base CX n f fd ps sp) (hr : Room n X.A) (hb : Binds X.K fd ps []) (hx : Passes CX X E) (hsub : PySem.W.subIn X.K (.type "int") (.ref C) = some false) : OpR X (compareOp .Eq) (rOwnI C sp E) := by
  intro pins s σ H x y v u Q I rx ry h
  obtain ⟨a, i, rfl, rfl, ha, q⟩ := h
  cases (show v = Value.ref a from rx)
  obtain ⟨t, rfl⟩ := (show ∃ t, u = Value.int i t from ry)
  obtain ⟨ox, od, J⟩ := ins_inst I ha
  obtain ⟨m, hF⟩ := I.fr
  show wpAny (model X.prog X.w) X.A (richCompare .Eq _ _) (EP X pins σ Q) X.xe s
  refine PySem.W.cmp_K (op := .Eq) (tb := .type "int") hr.units0 hF I.ok.mod.kin J (PySem.W.Looks.of_pure rfl) (by unfold PySem.W.notFirst; rw [hsub]; simp) M.at_ M.fn (wpAny_mono (run_fn (us := [.ref a, .int i t]) (vs := [.ref a, .int i]) F hr hb .nil hx I (.cons rfl (.cons ⟨t, rfl⟩ .nil)) q) (fun w s' h => ?_) fun _ _ z => z)
  obtain ⟨z, H', I', rz, qz⟩ := id h
  exact cmpBack rz h
/-- a def called somewhere below the running body -/
theorem run_sub {A : Around} {pins : List (Addr × Obj)} {σ : L2.St} {H : Hp} {s : Shared} {Q : VK} {us : List Value} {vs : List V} (F : FnOk X.prog X.w X.K X.mg X.base CX n f fd ps sp) (sb : Sub X n A) (hb : Binds X.K fd ps []) (hx : Passes CX X E)
    (I : Inv X pins σ H s) (r : Vals vs us) (h : sp vs H Q E) : wpAny (model X.prog X.w) A (call (.ref f) us) (EP X pins σ Q) X.xe s := by
  have e0 : Env0 X.prog X.w X.K X.mg X.base A X.stack s H := by
    have e := I.env0
    exact ⟨by rw [sb.fr]; exact e.frames, e.mod, e.bs, e.bsz, e.funs, e.frf, e.hok, e.bare⟩
  have hl : us.length = ps.length := by rw [← r.length]; exact F.len _ _ _ _ h
  refine wpAny_call (codeAny_mono (F.run A X.stack s H ⟨us, []⟩ us vs Q E sb.room e0 (by
    have := hb s us I.kIn (by rw [List.append_nil]; exact hl)
    rw [List.append_nil] at this
    exact this) r h) fun r s' hq => ?_)
  cases r with
  | error e => exact hx pins σ H s e s' I hq
  | ok fl =>
    cases fl with
    | ret u => exact I.after hq
    | next => exact False.elim hq
    | brk => exact False.elim hq
    | cont => exact False.elim hq
section
variable {K : PySem.W.Frag} {s : Shared} {x : Addr} {ox : Obj} {od : Option Obj} {name : Str} {id : String} {A : Around} {Ee : Value → Shared → Prop}
theorem ifBound_B {M : Model} {args : List Value} {Q : Option Value → Shared → Prop} (Y : K.In s.heap) (I : PySem.W.InstAt s.heap x ox C od) (hs : PySem.W.findIn K (.ref C) name = some (some (.builtin id)))
    (hb : ∀ self, bindSpecial (.builtin id) self = pure (.builtin id, [self])) (h : wpAny M A (call (.builtin id) (.ref x :: args)) (fun v => Q (some v)) Ee s) : wpAny M A (callSpecialIfBound? (.ref x) name args) Q Ee s := by
  simp only [callSpecialIfBound?, bindSpecialIfBound?]
  refine wpAny_holding (wpAny_bind (wpAny_bind (wpAny_bind (I.type.here ((PySem.W.looks_findIn Y hs).here ?_)))))
  have z : wpAny M A (call (.builtin id) ([.ref x] ++ args) >>= fun v => pure (some v)) Q Ee s := wpAny_bind (wpAny_mono h (fun _ _ w => wpAny_pure w) fun _ _ w => w)
  refine wpAny_bind (wpAny_askSetting (wpAny_ite ?_))
  split
  · exact wpAny_bind ((PySem.W.Looks.of_pure (hb _)).here (wpAny_pure (by exact z)))
  · exact wpAny_tryCatch (wpAny_bind ((PySem.W.Looks.of_pure (hb _)).here (wpAny_pure (by exact z))))
end
/-- x != y: object.__ne__ asks the own __eq__ -/
theorem ne_own_core {a : Addr} {b : V} {bu tb : Value} {pins : List (Addr × Obj)} {σ : L2.St} {H : Hp} {s : Shared} {Q : VK} (M : Meth X.K C "__eq__" f) (F : FnOk X.prog X.w X.K X.mg X.base CX n f fd ps sp) (hr : Room (n + 1) X.A) (hb : Binds X.K fd ps []) (hx : Passes CX X E)
    (hn : PySem.W.findIn X.K (.ref C) "__ne__" = some (some (.builtin "object.__ne__"))) (hm : PySem.W.mroIn X.K C (.type "object") = some true) (I : Inv X pins σ H s) (ha : Ins H a C) (rb : RelV b bu)
    (hT : PySem.W.Looks (model X.prog X.w) s.heap (typeOf bu) tb) (hF : PySem.W.notFirst X.K C tb = true)
    (q : sp [.ref a, b] H (fun v H' => ∃ k, v = .bl k ∧ Q (.bl (!k)) H') E) : wpAny (model X.prog X.w) X.A (richCompare .NotEq (.ref a) bu) (EP X pins σ Q) X.xe s := by
  obtain ⟨ox, od, J⟩ := ins_inst I ha
  have Y := I.kIn
  have one : wpAny (model X.prog X.w) X.A (tryCompare (.ref a) "__ne__" bu) (fun r s' => ∃ k : Bool, r = some (Value.bool k) ∧ EP X pins σ Q (.bool k) s') X.xe s := by
    unfold tryCompare
    refine wpAny_bind (ifBound_B Y J hn PySem.F.cmp_object.ne.bind ?_)
    refine wpAny_call (codeAny_call_builtin PySem.F.cmp_object.ne.plain PySem.F.cmpEntry_ne (PySem.W.check_slot (i := "object.__ne__") (owner := "object") (n := "__ne__") PySem.F.cmpKind_ne PySem.F.cmpSplit_ne (J.type.andThen (PySem.W.looks_mroIn Y hm)) (PySem.F.cmpArgs_ne _ _) ?_))
    unfold Builtin.«object.__ne__»
    refine wpAny_bind (m := slotArgs "__ne__" 1 _) (wpAny_pure ?_)
    refine wpAny_bind (m := cRoomFor _ _) (wpAny_cRoomFor hr.in1.units0 ?_)
    refine wpAny_bind (m := callSpecialIfBound? (.ref a) (Str.ofString "__eq__") _) (PySem.W.ifBound_K Y J M.at_ M.fn (wpAny_mono (run_sub (us := [.ref a, bu]) (vs := [.ref a, b]) F (Sub.in1 ⟨hr, rfl⟩) hb hx I (.cons rfl (.cons rb .nil)) q) (fun w s' h => ?_) fun _ _ z => z))
    obtain ⟨z, H', I', rz, k, rfl, qz⟩ := h
    cases (show w = Value.bool k from rz)
    refine wpAny_bind (m := truthy (.bool _)) (wpAny_truthy_bool ?_)
    refine wpAny_pure ?_
    exact wpAny_pure ⟨!k, rfl, .bl (!k), H', I', rfl, qz⟩
  unfold richCompare
  simp only [oneThing_ref]
  refine wpAny_holding (wpAny_bind (wpAny_cRoomFor hr.units0 ?_))
  refine wpAny_bind (J.type.here (wpAny_bind (hT.here ?_)))
  have fin : ∀ (r : Option Value) (s' : Shared), (∃ k : Bool, r = some (Value.bool k) ∧ EP X pins σ Q (.bool k) s') → ∃ v, r = some v ∧ EP X pins σ Q v s' := fun r s' ⟨k, e, h⟩ => ⟨_, e, h⟩
  split
  · rename_i c
    have e : PySem.W.subIn X.K tb (.ref C) = some false := by
      rcases Bool.or_eq_true_iff.mp hF with e | e
      · rw [beq_iff_eq.mp e] at c; simp at c
      · exact beq_iff_eq.mp e
    refine wpAny_bind ((PySem.W.looks_subIn Y e).here ?_)
    simp only [Bool.false_eq_true, if_false]
    refine wpAny_bind (wpAny_mono one (fun r s' z => ?_) fun _ _ e => e)
    obtain ⟨v, rfl, hq⟩ := fin r s' z
    exact wpAny_pure hq
  · refine wpAny_bind (wpAny_pure ?_)
    simp only [Bool.false_eq_true, if_false]
    refine wpAny_bind (wpAny_mono one (fun r s' z => ?_) fun _ _ e => e)
    obtain ⟨v, rfl, hq⟩ := fin r s' z
    exact wpAny_pure hq
/-- x != y, both of one own class -/
def rOwnNe (C : Addr) (sp : Sp) (E : XK) : R2 := fun x y H Q => ∃ a b, x = .ref a ∧ y = .ref b ∧ Ins H a C ∧ Ins H b C ∧ sp [.ref a, .ref b] H (fun v H' => ∃ k, v = .bl k ∧ Q (.bl (!k)) H') E
theorem ne_own (M : Meth X.K C "__eq__" f) (F : FnOk X.prog X.w X.K X.mg X.base CX n f fd ps sp) (hr : Room (n + 1) X.A) (hb : Binds X.K fd ps []) (hx : Passes CX X E)
    (hn : PySem.W.findIn X.K (.ref C) "__ne__" = some (some (.builtin "object.__ne__"))) (hm : PySem.W.mroIn X.K C (.type "object") = some true) : OpR X (compareOp .NotEq) (rOwnNe C sp E) := by
  intro pins s σ H x y v u Q I rx ry h
  obtain ⟨a, b, rfl, rfl, ha, hb', q⟩ := h
  cases (show v = Value.ref a from rx)
  obtain ⟨oy, oe, J'⟩ := ins_inst I hb'
  cases (show u = Value.ref b from ry)
  exact ne_own_core (b := .ref b) M F hr hb hx hn hm I ha rfl J'.type (by simp [PySem.W.notFirst]) q
/-- x != n, n an int -/
def rOwnNeI (C : Addr) (sp : Sp) (E : XK) : R2 := fun x y H Q => ∃ a i, x = .ref a ∧ y = .int i ∧ Ins H a C ∧ sp [.ref a, .int i] H (fun v H' => ∃ k, v = .bl k ∧ Q (.bl (!k)) H') E
theorem ne_ownI (M : Meth X.K C "__eq__" f) (F : FnOk X.prog X.w X.K X.mg X.base CX n f fd ps sp) (hr : Room (n + 1) X.A) (hb : Binds X.K fd ps []) (hx : Passes CX X E)
    (hn : PySem.W.findIn X.K (.ref C) "__ne__" = some (some (.builtin "object.__ne__"))) (hm : PySem.W.mroIn X.K C (.type "object") = some true) (hsub : PySem.W.subIn X.K (.type "int") (.ref C) = some false) : OpR X (compareOp .NotEq) (rOwnNeI C sp E) := by
  intro pins s σ H x y v u Q I rx ry h
  obtain ⟨a, i, rfl, rfl, ha, q⟩ := h
  cases (show v = Value.ref a from rx)
  obtain ⟨t, rfl⟩ := (show ∃ t, u = Value.int i t from ry)
  exact ne_own_core (b := .int i) M F hr hb hx hn hm I ha ⟨t, rfl⟩ (PySem.W.Looks.of_pure rfl) (by unfold PySem.W.notFirst; rw [hsub]; simp) q
/-- bool(x), x of an own class -/
theorem bool_own (M : Meth X.K C "__bool__" f) (F : FnOk X.prog X.w X.K X.mg X.base CX n f fd ps sp) (hr : Room (n + 3) X.A) (hb : Binds X.K fd ps []) (hx : Passes CX X E) :
    CallR X (.type "bool") (fun xs H Q => ∃ a, xs = [.ref a] ∧ Ins H a C ∧ sp [.ref a] H (fun v H' => ∃ k, v = .bl k ∧ Q v H') E) := by
  intro pins s σ H xs us Q I r h
  obtain ⟨a, rfl, ha, q⟩ := h
  rw [Vals.ref1 r]
  obtain ⟨ox, od, J⟩ := ins_inst I ha
  obtain ⟨m, hF⟩ := I.fr
  refine callType_codes (T := "bool") (Bi := Builtin.«object.__init__») (Q₁ := fun r t => ∃ k : Bool, r = .bool k ∧ EP X pins σ Q r t) PySem.F.called_bool (PySem.F.typeCall_bool_1 _) PySem.F.entry_object_init ?_ ?_
  · refine codeAny_of_tree ?_
    show wpAny _ X.A.in1.in1 (checkBuiltinCall "bool.__new__" ⟨[.type "bool", .ref a], []⟩ >>= fun _ => again (.builtin "bool.__new__" ⟨[.type "bool", .ref a], []⟩)) _ _ s
    refine wpAny_bind (wpAny_of_eq (PySem.F.newCall_bool_1 _) (wpAny_pure ⟨plainId_quiet (by decide +kernel) _, codeAny_builtin PySem.F.entry_bool_new ?_⟩))
    rw [Around.under_plainId (by decide +kernel) _]
    have key : wpAny (model X.prog X.w) X.A.in1.in1 (truthy (.ref a)) (fun k t => EP X pins σ Q (.bool k) t) X.xe s := by
      refine PySem.W.truthy_K hF I.ok.mod.kin J M.at_ M.fn (wpAny_mono (run_sub (us := [.ref a]) (vs := [.ref a]) F (Sub.in1 (Sub.in1 ⟨hr.mono (by omega), rfl⟩)) hb hx I (.cons rfl .nil) q) (fun w s' h => ?_) fun _ _ z => z)
      obtain ⟨z, H', I', rz, k, rfl, qz⟩ := h
      cases (show w = Value.bool k from rz)
      exact ⟨.bl k, H', I', rfl, qz⟩
    have f1 := PySem.F.conv_sub_bool
    unfold Builtin.«bool.__new__»
    generalize hTR : truthy = TR at key ⊢
    wp_walk
    refine wpAny_mono key (fun k t h => ?_) fun _ _ z => z
    exact wpAny_pure ⟨k, rfl, h⟩
  · rintro obj t ⟨k, rfl, h⟩
    exact ⟨PySem.typeIs_bool _ _, PySem.F.args_object_init_2 _ _, object_init_meets PySem.F.called_bool.init.lookup PySem.F.called_bool.made (by decide) X.prog X.w X.A.in1 _ t ⟨PySem.typeIs_bool _ _, rfl, h⟩⟩
/-- str(x), x of an own class -/
theorem str_own (M : Meth X.K C "__str__" f) (F : FnOk X.prog X.w X.K X.mg X.base CX n f fd ps sp) (hr : Room (n + 3) X.A) (hb : Binds X.K fd ps []) (hx : Passes CX X E) :
    CallR X (.type "str") (fun xs H Q => ∃ a, xs = [.ref a] ∧ Ins H a C ∧ sp [.ref a] H (fun v H' => ∃ k, v = .str k ∧ Q v H') E) := by
  intro pins s σ H xs us Q I r h
  obtain ⟨a, rfl, ha, q⟩ := h
  rw [Vals.ref1 r]
  obtain ⟨ox, od, J⟩ := ins_inst I ha
  have Y := I.kIn
  refine callType_codes (T := "str") (Bi := Builtin.«object.__init__») (Q₁ := fun r t => ∃ y u, r = .str y u ∧ EP X pins σ Q r t) PySem.F.called_str (PySem.F.typeCall_str_1 _) PySem.F.entry_object_init ?_ ?_
  · refine codeAny_of_tree ?_
    show wpAny _ X.A.in1.in1 (checkBuiltinCall "str.__new__" ⟨[.type "str", .ref a], []⟩ >>= fun _ => again (.builtin "str.__new__" ⟨[.type "str", .ref a], []⟩)) _ _ s
    refine wpAny_bind (wpAny_of_eq (PySem.F.newCall_str_1 _) (wpAny_pure ⟨plainId_quiet (by decide +kernel) _, codeAny_builtin PySem.F.entry_str_new ?_⟩))
    rw [Around.under_plainId (by decide +kernel) _]
    have key : wpAny (model X.prog X.w) X.A.in1.in1 (PySem.Builtin.Str.strOf (.ref a)) (fun v t => ∃ y u, v = Value.str y u ∧ EP X pins σ Q v t) X.xe s := by
      unfold PySem.Builtin.Str.strOf
      rw [show PySem.Builtin.Str.isExactStr (.ref a) = false from rfl]
      refine wpAny_bind (m := cRoomFor _ _) (wpAny_cRoomFor hr.in1.in1.units0 ?_)
      refine wpAny_bind (m := callSpecial? (.ref a) (Str.ofString "__str__")) (PySem.W.special_fn Y J M.at_ (beq_iff_eq.mp M.fn) (wpAny_mono (run_sub (us := [.ref a]) (vs := [.ref a]) F (Sub.in1 (Sub.in1 ⟨hr.mono (by omega), rfl⟩)) hb hx I (.cons rfl .nil) q) (fun w s' h => ?_) fun _ _ z => z))
      obtain ⟨z, H', I', rz, k, rfl, qz⟩ := h
      obtain ⟨u, rfl⟩ := (show ∃ t, w = Value.str k t from rz)
      exact wpAny_pure ⟨k, u, rfl, .str k, H', I', ⟨u, rfl⟩, qz⟩
    have f1 : isSubtype (.type "str") (.type "str") = pure true := isSubtype_str_str
    unfold Builtin.«str.__new__»
    generalize hTR : PySem.Builtin.Str.strOf = TR at key ⊢
    wp_walk
    refine wpAny_mono key (fun v t h => ?_) fun _ _ z => z
    obtain ⟨y, u, rfl, h⟩ := h
    exact wpAny_pure ⟨y, u, rfl, h⟩
  · rintro obj t ⟨y, u, rfl, h⟩
    exact ⟨PySem.typeIs_str _ _ _, PySem.F.args_object_init_2 _ _, object_init_meets PySem.F.called_str.init.lookup PySem.F.called_str.made (by decide) X.prog X.w X.A.in1 _ t ⟨PySem.typeIs_str _ _ _, rfl, h⟩⟩
end
end Sf

namespace Sf
open PySem PySem.Spec PyProof.Rows L2
section
variable {X : Cx} {o : Expr} {f : Str} {pos : Pos} {to : TE}
/-- o.f = .. as a target -/
def gAttr (K : PySem.W.Frag) (to : TE) (f : Str) : TG := fun y σ H Q => to σ H fun x H1 => ∃ a C dx fs, x = .ref a ∧ H1 a = some (.ins C dx fs) ∧ Cls K C ∧ NoAttr K C f ∧ fs.length < 1000 ∧ Q σ (upd H1 a (.ins C dx (putF f y fs)))
theorem pg_attr (ho : PE X o to) : PG X (.Attribute o f pos) (gAttr X.K to f) := by
  refine ⟨fun pins s σ H v u Q I r h => ?_⟩
  rw [arm_assign_Attribute]
  refine wpAny_bind (wpAny_holding (thn (ho.run pins s σ H _ I h) fun ov s1 ⟨x, H1, I1, r1, a, C, dx, fs, ex, ea, c, nn, l, q⟩ => ?_))
  subst ex
  cases (show ov = Value.ref a from r1)
  refine wpAny_bind (wpAny_standAt (wpAny_bind (wpAny_holding (setattr_ok I1 ea c nn l r fun s2 I2 => ?_))))
  exact wpAny_release ⟨σ, _, I2, q⟩
end
end Sf

namespace Sf
open PySem PySem.Spec PyProof.Rows L2
section
variable {X : Cx}
def CDivZ (_ j : Int) : Prop := j ≠ 0 ∧ j.natAbs.log2 < 9000
/-- // by a divisor of any sign -/
theorem op_fdivZ : OpR X (binaryOp .FloorDiv) (rI CDivZ fun i j => .int (i.fdiv j)) := opI fun _ _ _ _ _ _ _ hc q => floordiv_int hc.1 q (.inl (PyProof.noPylong_of_log2 hc.2))
theorem CDivZ.of {i j : Int} (h : j ≠ 0) (hb : j.natAbs < 2 ^ 8000) : CDivZ i j := ⟨h, Nat.lt_of_lt_of_le ((Nat.log2_lt (by omega)).mpr hb) (by decide)⟩
theorem gcd_args5 (a b c d e : Value) : argsOk "math.gcd" ⟨[a, b, c, d, e], []⟩ := by unfold argsOk; kernel_rfl
theorem gcd_run5 (a b c d e : Int) (ta tb tc td te : Tok) : Gives (Builtin.«math.gcd» ⟨[.int a ta, .int b tb, .int c tc, .int d td, .int e te], []⟩) (.int ((((((Nat.gcd 0 a.natAbs).gcd b.natAbs).gcd c.natAbs).gcd d.natAbs).gcd e.natAbs : Nat) : Int)) :=
  .of_wp fun M A E s Q h => by
    obtain ⟨hp, g, d, tk, os⟩ := s
    wp_walk
    exact ⟨_, rfl, h⟩
/-- gcd of five integers -/
def rGcd5 : List V → Hp → VK → Prop := fun vs H Q => ∃ a b c d e : Int, vs = [.int a, .int b, .int c, .int d, .int e] ∧ Q (.int (((((a.natAbs.gcd b.natAbs).gcd c.natAbs).gcd d.natAbs).gcd e.natAbs : Nat) : Int)) H
theorem cr_gcd5 : CallR X (.builtin "math.gcd") rGcd5 := by
  intro pins s σ H xs us Q I r h
  obtain ⟨a, b, c, d, e, rfl, q⟩ := h
  cases r with
  | cons r1 r => cases r with
    | cons r2 r => cases r with
      | cons r3 r => cases r with
        | cons r4 r => cases r with
          | cons r5 r =>
            cases r
            obtain ⟨t1, rfl⟩ := r1
            obtain ⟨t2, rfl⟩ := r2
            obtain ⟨t3, rfl⟩ := r3
            obtain ⟨t4, rfl⟩ := r4
            obtain ⟨t5, rfl⟩ := r5
            have g := gcd_run5 a b c d e t1 t2 t3 t4 t5
            rw [Nat.gcd_zero_left] at g
            exact call_function_meets PySem.W.MGF.kind_gcd PySem.W.MGF.plain_gcd PySem.W.MGF.entry_gcd (gcd_args5 _ _ _ _ _) g.meets ⟨.int _, H, I.tok _, ⟨_, rfl⟩, q⟩
/-- x(e, ..), x a name of the module that holds a built-in function -/
theorem pe_callGB {r : List V → Hp → VK → Prop} {t : TA} {x : Str} {id : String} {e : Expr} {es : List Expr} {p pos : Pos} (hc : CallR X (.builtin id) r) (hg : Gl X x) (hm : X.mg x = some (.builtin id)) (ha : PA X (e :: es) t) (hdb : (x == ("__debug__" : Str)) = false := by decide)
    (he : starEach (e :: es) X.env = (false, eval e X.env) :: starEach es X.env := by rfl) (hpl : (backTo pos (starEach es X.env)).any (·.1) = false := by rfl) : PE X (.Call (.Name x p) (e :: es) [] pos) (tCB r t) := by
  refine ⟨fun pins s σ H Q I h => ?_⟩
  refine wpAny_Call_Name_kw (ld_glob I hg hm ?_ hdb)
  exact PyProof.Rows.callWith_builtin1 (thn (ha.run pos pins s σ H _ I h) fun us s1 ⟨vs, H1, I1, r1, q1⟩ => hc pins s1 σ H1 vs us Q I1 r1 q1) he hpl
end
end Sf

namespace Sf
open PySem PySem.Spec PyProof.Rows L2
/-- an own class, ready to be called with so many arguments; ds fills up -/
structure CalC (P : Program) (w : World) (K : PySem.W.Frag) (mg : Str → Option Value) (base : Heap) (k : Nat) (x : Str) (C : Addr) (ps : List Str) (ds : List V) (sp : Sp) where
  f : Addr
  fd : FuncData
  us : List Value
  ok : FnOk P w K mg base CX0 k f fd ps sp
  mkr : Mk K C f
  g : mg x = some (.ref C)
  b : Binds K fd ps us
  d : Vals ds us
/-- a method, ready to be called -/
structure CalM (P : Program) (w : World) (K : PySem.W.Frag) (mg : Str → Option Value) (base : Heap) (k : Nat) (m : Str) (C : Addr) (ps : List Str) (sp : Sp) where
  f : Addr
  fd : FuncData
  ok : FnOk P w K mg base CX0 k f fd ps sp
  me : Meth K C m f
  b : Binds K fd ps []
theorem _root_.L2.Meth.cast {K : PySem.W.Frag} {C f : Addr} {m m' : Str} (M : Meth K C m f) (e : m = m') : Meth K C m' f := e ▸ M
section
variable {X : Cx} {k : Nat} {x m : Str} {C : Addr} {ps : List Str} {ds : List V} {sp : Sp} {e o : Expr} {es : List Expr} {t : TA} {ta : TE} {p pos apos : Pos}
theorem pe_new (N : CalC X.prog X.w X.K X.mg X.base k x C ps ds sp) (hr : Room (k + 1) X.A) (ha : PA X (e :: es) t) (hg : Gl X x := by rfl) (hdb : (x == ("__debug__" : Str)) = false := by decide)
    (he : starEach (e :: es) X.env = (false, eval e X.env) :: starEach es X.env := by rfl) (hpl : (backTo pos (starEach es X.env)).any (·.1) = false := by rfl) :
    PE X (.Call (.Name x p) (e :: es) [] pos) (tMake C sp ds E0 t) :=
  pe_make N.mkr N.ok hr hg N.g N.b N.d pass0 ha hdb he hpl
end
/-- what the text says of a class whose objects are told by fields alone -/
structure OwnK (K : PySem.W.Frag) (C : Addr) : Prop where
  cls : Cls K C
  sf : PySem.W.selfFirst K C = true
  si : PySem.W.subIn K (.type "int") (.ref C) = some false
  ne : PySem.W.findIn K (.ref C) "__ne__" = some (some (.builtin "object.__ne__"))
  mo : PySem.W.mroIn K C (.type "object") = some true
  ca : PySem.W.findIn K (.ref C) "__class__" = some (some (.builtin "object.__class__"))
  cg : PySem.W.specialIn K (.builtin "object.__class__") "__get__" = some (some (.builtin "getset_descriptor.__get__"))
  ct : PySem.W.takesIn K (.builtin "object.__class__") = some true
  kk : PySem.W.kitOne K (.ref C) (.ref C) = some true
  ki : PySem.W.kitOne K (.type "int") (.ref C) = some false
theorem OwnK.ty {K : PySem.W.Frag} {C : Addr} {H : Hp} {a : Addr} (o : OwnK K C) (h : Ins H a C) : TyX K H (.ref a) (.ref C) := by
  obtain ⟨dx, fs, e⟩ := h
  exact .base (.ins e o.cls o.ca o.cg o.ct o.mo)
theorem ownB_ok {K : PySem.W.Frag} {x : Str} (c : Cls K (He.ga K x)) (h : ownB K x = true) : OwnK K (He.ga K x) := by
  obtain ⟨h1, h⟩ := He.ba h
  obtain ⟨h2, h⟩ := He.ba h
  obtain ⟨h3, h⟩ := He.ba h
  obtain ⟨h4, h⟩ := He.ba h
  obtain ⟨h5, h⟩ := He.ba h
  obtain ⟨h6, h⟩ := He.ba h
  obtain ⟨h7, h⟩ := He.ba h
  obtain ⟨h8, h9⟩ := He.ba h
  exact ⟨c, h1, of_decide_eq_true h2, He.eqO_ok h3, of_decide_eq_true h4, He.eqO_ok h5, He.eqO_ok h6, of_decide_eq_true h7, of_decide_eq_true h8, of_decide_eq_true h9⟩
/-- e.f where K is told from outside (within a comprehension) -/
theorem pe_fldK {X : Cx} {K : PySem.W.Frag} {e : Expr} {f : Str} {pos : Pos} {ta : TE} (hK : X.K = K) (he : PE X e ta) (hb : attributeBase e f X.env (eval e X.env) = eval e X.env) : PE X (.Attribute e f pos) (tFld K ta f) := hK ▸ pe_fld he hb
theorem pg_tupK {X : Cx} {K : PySem.W.Frag} {es : List Expr} {k : Nat} {t : TGs} {n : Nat} {pos : Pos} (hK : X.K = K) (hc : X.calm = true) (h : PGs X es t)
    (hn : (assignEach es X.env).length = n := by rfl) (hst : (assignEach es X.env).findIdx? (·.1) = none := by rfl) : PG X (.Tuple es k pos) (gTup K n t) := hK ▸ pg_tup hc h hn hst
theorem walk_zipT {K : PySem.W.Frag} {a b : Addr} {xs ys : List V} {n : Nat} (h1 : xs.length = n) (h2 : ys.length = n) : Walk (RZ.ItzT K a b) n (fun H => SqT K H a xs ∧ SqT K H b ys) (YPair (fun i => xs[i]?) (fun i => ys[i]?)) :=
  ⟨fun i H hi q => ⟨xs, ys, xs[i], ys[i], q.1, q.2, by simp, by simp⟩, fun H q => ⟨xs, ys, q.1, q.2, .inl (Nat.le_of_eq h1)⟩, fun i H x H' hi q y => by
    obtain ⟨T, u, v, e, hT, eH, g1, g2⟩ := y
    exact ⟨T, u, v, e, hT, eH, g1 xs q.1, g2 ys q.2⟩⟩
theorem ifnb {b : Bool} {A B : Prop} (h1 : b = false → A) (h2 : b = true → B) : if (!b) = true then A else B := by
  cases b with
  | false => exact h1 rfl
  | true => exact h2 rfl
end Sf

namespace Sf
open PySem PySem.Spec PyProof.Rows L2
/-! {(k, l): v, ..}: a display with tuples for keys -/
section
variable {X : Cx} {pins : List (Addr × Obj)} {σ : L2.St}
theorem d_setT {H : Hp} {s : Shared} {a b : Addr} {v : V} {r : Value} {kvs : List (List Key × V)} {k : List Key} {A : Around} {E : Value → Shared → Prop} {Q : Unit → Shared → Prop} (hu : A.units + 1 < cLine) (I : Inv X pins σ H s) (e : H a = some (.dT kvs)) (eb : H b = some (.tup (k.map kV))) (l : kvs.length < sizeLine) (rv : RelV v r)
    (h : ∀ s', Inv X pins σ (upd H a (.dT (putK kvs k v))) s' → Q () s') : wpAny (model X.prog X.w) A (dictSet a (.ref b) r) Q E s := by
  obtain ⟨z, hd, xs, rel, dd⟩ := dt_of I.hok e
  have hz : xs.length ≤ sizeLine := by rw [← Paired.length rel]; exact z
  have hl : (putK kvs k v).length ≤ sizeLine := by have := length_putK kvs k v; omega
  refine wpAny_dictSet_heap (hsz := hz) (knd := tupleKind (mixKind X.prog X.w)) (by show A.units < cLine; omega) (key_of I.hok eb) dd fun h' dd' hs => h _ ?_
  obtain ⟨q, es, ep, hq, h2, h3, h4, _, h5⟩ := dd'
  refine d_write I (by rw [e]; exact True.intro) hs ⟨q, hq⟩ ⟨hl, hd, _, (rel.put k eb rv).keeps fun c ys ec => ?_, q, es, ep, hq, h2, h3, h4, h5⟩
  rw [upd_ne (ne_of ec e (fun z => nomatch z))]
  exact ec
def tPutT (a : Addr) : List (V × V) → Hp → (Hp → Prop) → Prop
  | [], H, Q => Q H
  | p :: r, H, Q => ∃ b k kvs, p.1 = .ref b ∧ H a = some (.dT kvs) ∧ H b = some (.tup (k.map kV)) ∧ kvs.length < sizeLine ∧ tPutT a r (upd H a (.dT (putK kvs k p.2))) Q
theorem storeAllT {a : Addr} {A : Around} {E : Value → Shared → Prop} (hu : A.units + 1 < cLine) : ∀ (ps : List (V × V)) (vs : List (Value × Value)) (H : Hp) (s : Shared) (Q : Hp → Prop) (Q' : PUnit → Shared → Prop), Inv X pins σ H s → VV ps vs → tPutT a ps H Q →
    (∀ H' s', Inv X pins σ H' s' → Q H' → Q' PUnit.unit s') → wpAny (model X.prog X.w) A (storeAll a vs) Q' E s
  | [], _, H, s, Q, Q', I, rel, q, h => by
    cases rel
    unfold storeAll
    rw [List.forIn_nil]
    exact wpAny_pure (h H s I q)
  | p :: ps, _, H, s, Q, Q', I, rel, q, h => by
    cases rel with
    | @cons _ u _ us r1 r2 =>
      obtain ⟨b, k, kvs, e1, e2, e3, e4, q2⟩ := q
      obtain ⟨ru, rv⟩ := r1
      rw [e1] at ru
      have eu : u.1 = Value.ref b := ru
      unfold storeAll
      rw [List.forIn_cons]
      show wpAny _ _ (((do dictSet a u.1 u.2; pure (ForInStep.yield PUnit.unit)) : Sem (ForInStep PUnit)) >>= _) _ _ _
      rw [eu]
      refine wpAny_bind (wpAny_bind (d_setT hu I e2 e3 e4 rv fun s' I' => wpAny_pure ?_))
      exact storeAllT hu ps us _ s' Q Q' I' r2 q2 h
def tDispT (trs : List (TE × TE)) : TE := fun σ H Q => ∀ p, H p = none → tPairs trs σ (upd H p (.dT [])) fun ps H2 => tPutT p ps H2 fun H3 => Q (.ref p) H3
theorem pe_dispT {pos : Pos} {keys : List (Option Expr)} {values : List Expr} {trs : List (TE × TE)} (hu : X.A.units + 1 < cLine) (h : PPs X pos keys values trs) (hall : keys.all (·.isSome) = true) (hl : keys.length = values.length) (h0 : keys ≠ [])
    (h15 : keys.length ≤ 15) : PE X (.Dict keys values pos) (tDispT trs) := by
  refine ⟨fun pins s σ H Q I q => ?_⟩
  have hn := I.hok.fresh (Nat.le_refl s.heap.objs.size)
  have I1 := I.laid (a := s.heap.objs.size) (o := .dT []) (h' := s.heap.push { cls := .type "dict", data := .dict #[] }) (t' := s.toks) (fun _ _ q => Heap.get?_push_of_some _ q) (Nat.le_refl _) (dt_empty s.heap I.big)
  refine wpAny_Dict_any hall hl h0 h15 (thn (h.run pins _ σ _ _ I1 (q _ hn)) fun ws s2 ⟨ps, H2, I2, rel, q2⟩ => ?_)
  exact storeAllT hu ps ws H2 s2 _ _ I2 rel q2 fun H' s' I' q3 => ⟨.ref s.heap.objs.size, H', I', rfl, q3⟩
end
end Sf

namespace Sf
open PySem PySem.Spec PyProof.Rows L2
def sgnI (t : Int) : Int := if t = 0 then 0 else if t > 0 then 1 else -1
/-- lowest terms -/
def LowT (t b t' b' : Int) : Prop := 0 < b' ∧ t * b' = t' * b ∧ t'.natAbs.gcd b'.natAbs = 1
theorem low_of {t b : Int} (hb : b ≠ 0) : (((t.natAbs.gcd b.natAbs : Nat) : Int) ≠ 0) ∧ LowT t b (t.fdiv (if b < 0 then -((t.natAbs.gcd b.natAbs : Nat) : Int) else ((t.natAbs.gcd b.natAbs : Nat) : Int))) (b.fdiv (if b < 0 then -((t.natAbs.gcd b.natAbs : Nat) : Int) else ((t.natAbs.gcd b.natAbs : Nat) : Int))) := by
  have g0 : 0 < t.natAbs.gcd b.natAbs := Nat.gcd_pos_of_pos_right _ (by omega)
  obtain ⟨u, hu⟩ := (Int.natAbs_dvd_natAbs.mp (show t.natAbs.gcd b.natAbs ∣ t.natAbs from Nat.gcd_dvd_left _ _) : ((t.natAbs.gcd b.natAbs : Nat) : Int) ∣ t)
  obtain ⟨v, hv⟩ := (Int.natAbs_dvd_natAbs.mp (show t.natAbs.gcd b.natAbs ∣ b.natAbs from Nat.gcd_dvd_right _ _) : ((t.natAbs.gcd b.natAbs : Nat) : Int) ∣ b)
  refine ⟨by omega, ?_⟩
  have hc : (t.natAbs / (t.natAbs.gcd b.natAbs)).gcd (b.natAbs / (t.natAbs.gcd b.natAbs)) = 1 := by
    rw [Nat.gcd_div (Nat.gcd_dvd_left _ _) (Nat.gcd_dvd_right _ _), Nat.div_self g0]
  generalize t.natAbs.gcd b.natAbs = g at *
  have gi : (0 : Int) < g := by omega
  have eu : t.natAbs / g = u.natAbs := by
    rw [hu, Int.natAbs_mul, Int.natAbs_natCast, Nat.mul_div_cancel_left _ g0]
  have ev : b.natAbs / g = v.natAbs := by
    rw [hv, Int.natAbs_mul, Int.natAbs_natCast, Nat.mul_div_cancel_left _ g0]
  rw [eu, ev] at hc
  by_cases c : b < 0
  · rw [if_pos c]
    have e1 : t.fdiv (-(g : Int)) = -u := by
      rw [show t = (-(g : Int)) * (-u) by rw [Int.neg_mul_neg]; exact hu]
      exact Int.mul_fdiv_cancel_left _ (by omega)
    have e2 : b.fdiv (-(g : Int)) = -v := by
      rw [show b = (-(g : Int)) * (-v) by rw [Int.neg_mul_neg]; exact hv]
      exact Int.mul_fdiv_cancel_left _ (by omega)
    rw [e1, e2]
    refine ⟨?_, ?_, by rw [Int.natAbs_neg, Int.natAbs_neg]; exact hc⟩
    · by_cases v0 : 0 ≤ v
      · have := Int.mul_nonneg (Int.le_of_lt gi) v0
        omega
      · omega
    · rw [hu, hv]; grind
  · rw [if_neg c]
    have e1 : t.fdiv (g : Int) = u := by
      rw [hu]
      exact Int.mul_fdiv_cancel_left _ (by omega)
    have e2 : b.fdiv (g : Int) = v := by
      rw [hv]
      exact Int.mul_fdiv_cancel_left _ (by omega)
    rw [e1, e2]
    refine ⟨?_, ?_, hc⟩
    · by_cases v0 : v ≤ 0
      · have := Int.mul_nonneg (Int.le_of_lt gi) (show 0 ≤ -v by omega)
        rw [Int.mul_neg] at this
        omega
      · omega
    · rw [hu, hv]; grind
section
variable {P : Program} {w : World} {K : PySem.W.Frag} {mg : Str → Option Value} {base : Heap} {f : Addr} {fd : FuncData} {CR : Addr}
def spPassed (K : PySem.W.Frag) : Sp := fun vs H Q _ => ∃ (x : V) (b : Bool), vs = [x] ∧ IntB K H x b ∧ (b = true ↔ ∃ n, x = .int n) ∧ ∀ r : Bool, (r = true ↔ ∃ n : Int, x = .int n ∧ n.natAbs < 10 ^ 60) → Q (.bl r) H
theorem ok_is_passed (F : FnD K "is_passed" "is_passed" s_P_is_passed f fd) (T : Glob mg) (C_P_is_integer : Cal P w K mg base 1 "is_integer" ["value"] (spIsInt K)) : FnOk P w K mg base CX0 2 f fd ["value"] (spPassed K) := by
  refine F.ok sc_P_is_passed (fun vs H Q E h => ?_) (fun cdv A outer s H vs Q E hr h => ?_)
  · obtain ⟨x, b, rfl, _⟩ := h; rfl
  · obtain ⟨x, b, rfl, hb, hi, q⟩ := h
    obtain ⟨tM, hc_TOO_LONG⟩ := T.m_TOO_LONG
    refine ⟨_, PSs.nox (pss_one (ps_ret (pe_and (pe_cal C_P_is_integer (hr.mono (by decide)) (pa_cons (pv 0) pa_nil)) (pe_one (pe_cmp (pc_lt (pe_callB call_abs (by rfl) T.m_abs (by decide +kernel) (pa_cons (pv 0) pa_nil)) (pe_glob (v := .int 1000000000000000000000000000000000000000000000000000000000000) rfl hc_TOO_LONG ⟨_, rfl⟩)) rfl))))), ?_⟩
    refine ⟨_, rfl, x, b, rfl, hb, ?_⟩
    cases b with
    | false =>
      refine ⟨_, rfl, ?_⟩
      exact q false ⟨fun z => Bool.noConfusion z, fun ⟨n, e, _⟩ => hi.mpr ⟨n, e⟩⟩
    | true =>
      obtain ⟨n, rfl⟩ := hi.mp rfl
      refine ⟨_, rfl, _, rfl, n, rfl, _, _, rfl, rfl, ?_⟩
      have e60 : (10 : Nat) ^ 60 = 1000000000000000000000000000000000000000000000000000000000000 := by decide +kernel
      refine q _ ?_
      rw [decide_eq_true_iff, e60]
      constructor
      · intro h
        refine ⟨n, rfl, ?_⟩
        split at h <;> omega
      · rintro ⟨m, e, h⟩
        cases e
        split <;> omega
def spLowest : Sp := fun vs H Q _ => ∃ t b : Int, vs = [.int t, .int b] ∧ b ≠ 0 ∧ b.natAbs < 2 ^ 8000 ∧ ∀ (t' b' : Int) (a : Addr), LowT t b t' b' → H a = none → Q (.ref a) (upd H a (.tup [.int t', .int b']))
theorem ok_lowest_terms (F : FnD K "lowest_terms" "lowest_terms" s_P_lowest_terms f fd) (T : Glob mg) : FnOk P w K mg base CX0 1 f fd ["top", "bottom"] spLowest := by
  refine F.ok sc_P_lowest_terms (fun vs H Q E h => ?_) (fun cdv A outer s H vs Q E hr h => ?_)
  · obtain ⟨t, b, rfl, _⟩ := h; rfl
  · obtain ⟨t, b, rfl, b0, bb, q⟩ := h
    refine ⟨_, PSs.nox (pss_cons (ps_set (i := 2) sc_P_lowest_terms.nd rfl (Or.inl rfl) (pe_callGB cr_gcd (by rfl) T.m_gcd (pa_cons (pv 0) (pa_cons (pv 1) pa_nil))))
      (Evl.pss_cut (ps_if (pt_cmp (pc_lt (pv 1) pe_int)) (pss_one (ps_set (i := 2) sc_P_lowest_terms.nd rfl (Or.inl rfl) (pe_un un_neg (pv 2)))) pss_nil)
      (pss_one (ps_ret (pe_tup (pa_cons (pe_op op_fdivZ (pv 0) (pv 2)) (pa_cons (pe_op op_fdivZ (pv 1) (pv 2)) pa_nil))))))), ?_⟩
    obtain ⟨g0, hl⟩ := low_of (t := t) b0
    have gb : t.natAbs.gcd b.natAbs < 2 ^ 8000 := Nat.lt_of_le_of_lt (Nat.le_of_dvd (by omega) (Nat.gcd_dvd_right _ _)) bb
    refine ⟨_, rfl, _, rfl, t, b, rfl, ?_⟩
    generalize ((t.natAbs.gcd b.natAbs : Nat)) = g at *
    refine ⟨fun σ' H' => σ' = [some (.int t), some (.int b), some (.int (if b < 0 then -(g : Int) else (g : Int)))] ∧ H = H', ?_, ?_⟩
    · refine ⟨_, rfl, _, _, rfl, rfl, _, rfl, ifd (fun h => ?_) (fun h => ?_)⟩
      · rw [if_pos h]
        exact ⟨_, rfl, _, rfl, rfl, rfl⟩
      · rw [if_neg h]
        exact ⟨rfl, rfl⟩
    · rintro σ' _ ⟨rfl, rfl⟩
      have c0 : (if b < 0 then -(g : Int) else (g : Int)) ≠ 0 := by split <;> omega
      have cb : (if b < 0 then -(g : Int) else (g : Int)).natAbs < 2 ^ 8000 := by split <;> omega
      generalize (if b < 0 then -(g : Int) else (g : Int)) = c at *
      exact ⟨_, rfl, _, rfl, _, _, rfl, rfl, CDivZ.of c0 cb, _, rfl, _, rfl, _, _, rfl, rfl, CDivZ.of c0 cb, (by show 2 ≤ sizeLine; decide), fun a ha => q _ _ a hl ha⟩
def spSignOf : Sp := fun vs H Q _ => ∃ t : Int, vs = [.int t] ∧ Q (.int (sgnI t)) H
theorem ok_sign_of (F : FnD K "sign_of" "sign_of" s_P_sign_of f fd) : FnOk P w K mg base CX0 1 f fd ["number"] spSignOf := by
  refine F.ok sc_P_sign_of (fun vs H Q E h => ?_) (fun cdv A outer s H vs Q E hr h => ?_)
  · obtain ⟨t, rfl, _⟩ := h; rfl
  · obtain ⟨t, rfl, q⟩ := h
    refine ⟨_, PSs.nox (pss_cons (ps_if (pt_cmp (pc_eqI (pv 0) pe_int)) (pss_one (ps_ret pe_int)) pss_nil)
      (pss_one (ps_ret (pe_ifExp (pt_cmp (pc_gt (pv 0) pe_int)) pe_int (pe_un un_neg pe_int))))), ?_⟩
    unfold sgnI at q
    refine ⟨_, rfl, _, _, rfl, rfl, _, rfl, ifd (fun h => ?_) (fun h => ?_)⟩
    · rw [if_pos h] at q
      exact q
    · rw [if_neg h] at q
      refine ⟨_, rfl, _, _, rfl, rfl, _, rfl, ifd (fun h2 => ?_) (fun h2 => ?_)⟩
      · rw [if_pos h2] at q
        exact q
      · rw [if_neg h2] at q
        exact ⟨_, rfl, q⟩
/-- a ratio in lowest terms -/
def RatioAt (CR : Addr) (H : Hp) (a : Addr) (t b : Int) : Prop := ∃ dx, H a = some (.ins CR dx [("top", .int t), ("bottom", .int b), ("sign", .int (sgnI t))])
theorem RatioAt.ins {H : Hp} {a : Addr} {t b : Int} (h : RatioAt CR H a t b) : Ins H a CR := let ⟨dx, e⟩ := h; ⟨dx, _, e⟩
theorem RatioAt.same {H H' : Hp} {a : Addr} {t b : Int} (h : RatioAt CR H a t b) (s : Same H H') : RatioAt CR H' a t b := let ⟨dx, e⟩ := h; ⟨dx, s _ _ e⟩
structure RatioK (K : PySem.W.Frag) (CR : Addr) : Prop where
  own : OwnK K CR
  nt : NoAttr K CR "top"
  nb : NoAttr K CR "bottom"
  ns : NoAttr K CR "sign"
structure RatInitP (CR : Addr) (vs : List V) (H : Hp) (Q : VK) : Prop where
  ex : ∃ (a dx : Addr) (t b : Int), vs = [.ref a, .int t, .int b] ∧ b ≠ 0 ∧ t.natAbs < 10 ^ 60 ∧ b.natAbs < 10 ^ 60 ∧ H a = some (.ins CR dx []) ∧ ∀ (t' b' : Int) (H' : Hp), LowT t b t' b' → Keep a H H' → RatioAt CR H' a t' b' → Q .non H'
def spRatInit (CR : Addr) : Sp := fun vs H Q _ => RatInitP CR vs H Q
theorem ok_Ratio_init (F : FnDD K "__init__" "Ratio.__init__" s_P_Ratio___init__ [.int 1] f fd) (R : RatioK K CR) (C_P_is_passed : Cal P w K mg base 2 "is_passed" ["value"] (spPassed K)) (C_P_lowest_terms : Cal P w K mg base 1 "lowest_terms" ["top", "bottom"] spLowest) (C_P_sign_of : Cal P w K mg base 1 "sign_of" ["number"] spSignOf) :
    FnOk P w K mg base CX0 3 f fd ["self", "top", "bottom"] (spRatInit CR) := by
  refine F.ok sc_P_Ratio___init__ (fun vs H Q E h => ?_) (fun cdv A outer s H vs Q E hr h => ?_)
  · obtain ⟨a, dx, t, b, rfl, _⟩ := h.ex; rfl
  · obtain ⟨a, dx, t, b, rfl, b0, tb, bb, ha, q⟩ := h.ex
    refine ⟨_, PSs.nox (pss_cons (ps_if (pt_not (pt_val (pe_cal C_P_is_passed (hr.mono (by decide)) (pa_cons (pv 1) pa_nil)))) (pss_one ps_never) pss_nil)
      (pss_cons (ps_if (PW.pt (pw_or (pt_not (pt_val (pe_cal C_P_is_passed (hr.mono (by decide)) (pa_cons (pv 2) pa_nil)))) (pw_or1 (pt_cmp (pc_eqI (pv 2) pe_int))))) (pss_one ps_never) pss_nil)
      (pss_cons (ps_asg (pe_cal C_P_lowest_terms (hr.mono (by decide)) (pa_cons (pv 1) (pa_cons (pv 2) pa_nil))) (pg_tup (by rfl) (pgs_cons (pg_attr (pv 0)) (pgs_cons (pg_attr (pv 0)) pgs_nil))))
      (pss_one (ps_fld (pv 0) (pe_cal C_P_sign_of (hr.mono (by decide)) (pa_cons (pe_fld (pv 0) rfl) pa_nil)) rfl))))), ?_⟩
    refine ⟨_, rfl, .int t, true, rfl, .int t, ⟨fun _ => ⟨t, rfl⟩, fun _ => rfl⟩, fun r hr2 => ⟨_, rfl, ?_⟩⟩
    have e : r = true := hr2.mpr ⟨t, rfl, tb⟩
    subst e
    refine ⟨_, rfl, .int b, true, rfl, .int b, ⟨fun _ => ⟨b, rfl⟩, fun _ => rfl⟩, fun r hr2 => ⟨_, rfl, ?_⟩⟩
    have e : r = true := hr2.mpr ⟨b, rfl, bb⟩
    subst e
    refine ⟨_, rfl, _, _, rfl, rfl, _, rfl, ifd (fun h => absurd h b0) (fun _ => ?_)⟩
    refine ⟨_, rfl, _, rfl, t, b, rfl, b0, Nat.lt_trans bb (by decide +kernel), fun t' b' c hl hc => ?_⟩
    have nac : a ≠ c := ne_of_none ha hc
    refine ⟨c, _, rfl, .inl (.inl upd_same), rfl, _, _, rfl, _, rfl, a, CR, dx, [], rfl, by rw [upd_ne nac]; exact ha, R.own.cls, R.nt, by decide, ?_⟩
    refine ⟨_, _, rfl, _, rfl, a, CR, dx, _, rfl, upd_same, R.own.cls, R.nb, (by show 1 < 1000; decide), rfl, ?_⟩
    refine ⟨_, rfl, a, CR, dx, _, .int t', rfl, upd_same, R.own.cls, R.nt, rfl, t', rfl, ?_⟩
    refine ⟨_, rfl, a, CR, dx, _, rfl, upd_same, R.own.cls, R.ns, (by show 2 < 1000; decide), ?_⟩
    refine q t' b' _ hl (fun d o e n => ?_) ⟨dx, upd_same⟩
    rw [upd_ne n, upd_ne n, upd_ne n, upd_ne (ne_of_none e hc)]
    exact e
def spMadeRatio (CR : Addr) : Sp := fun vs H Q _ => ∃ t b : Int, vs = [.int t, .int b] ∧ b ≠ 0 ∧ b.natAbs < 2 ^ 8000 ∧ ∀ (t' b' : Int) (a : Addr) (H' : Hp), LowT t b t' b' → H a = none → Same H H' → RatioAt CR H' a t' b' → Q (.ref a) H'
theorem ok_made_ratio (F : FnD K "made_ratio" "made_ratio" s_P_made_ratio f fd) (R : RatioK K CR) (C_P_lowest_terms : Cal P w K mg base 1 "lowest_terms" ["top", "bottom"] spLowest) (C_P_sign_of : Cal P w K mg base 1 "sign_of" ["number"] spSignOf)
    (N_Ratio_1 : CalC P w K mg base 3 "Ratio" CR ["self", "top", "bottom"] [.int 1] (spRatInit CR)) : FnOk P w K mg base CX0 5 f fd ["top", "bottom"] (spMadeRatio CR) := by
  refine F.ok sc_P_made_ratio (fun vs H Q E h => ?_) (fun cdv A outer s H vs Q E hr h => ?_)
  · obtain ⟨t, b, rfl, _⟩ := h; rfl
  · obtain ⟨t, b, rfl, b0, bb, q⟩ := h
    refine ⟨_, PSs.nox (pss_cons (ps_set (i := 2) sc_P_made_ratio.nd rfl (Or.inl rfl) (pe_cal C_P_lowest_terms (hr.mono (by decide)) (pa_cons (pv 0) (pa_cons (pv 1) pa_nil))))
      (pss_cons (ps_set (i := 3) sc_P_made_ratio.nd rfl (Or.inl rfl) (pe_new N_Ratio_1 (hr.mono (by decide)) (pa_cons pe_int pa_nil)))
      (pss_cons (ps_fld (pv 3) (pe_ix ix_tup (pv 2) pe_int (fun _ _ => rfl)) rfl)
      (pss_cons (ps_fld (pv 3) (pe_ix ix_tup (pv 2) pe_int (fun _ _ => rfl)) rfl)
      (pss_cons (ps_fld (pv 3) (pe_cal C_P_sign_of (hr.mono (by decide)) (pa_cons (pe_ix ix_tup (pv 2) pe_int (fun _ _ => rfl)) pa_nil)) rfl)
      (pss_one (ps_ret (pv 3)))))))), ?_⟩
    refine ⟨_, rfl, _, rfl, t, b, rfl, b0, bb, fun t' b' c hl hc => ?_⟩
    refine fun x dx hx hdx nd => ⟨x, dx, 0, 1, rfl, by decide, by decide +kernel, by decide +kernel, upd_same, fun t0 b1 H1 _ k1 ⟨dx2, r1⟩ => ⟨rfl, ?_⟩⟩
    have ncx : c ≠ x := ne_of_none upd_same hx
    have ncd : c ≠ dx := ne_of_none upd_same hdx
    have hcH : H1 c = some (.tup [.int t', .int b']) := k1 _ _ (by rw [upd_ne ncx, upd_ne ncd, upd_same]) ncx
    have hT : ∀ {H' : Hp} {o : HO}, H' c = some (.tup [.int t', .int b']) → (upd H' x o) c = some (.tup [.int t', .int b']) := fun {H' o} h => by
      rw [upd_ne ncx]
      exact h
    refine ⟨_, rfl, c, _, 0, .int t', rfl, rfl, SqT.of hcH, rfl, _, rfl, x, CR, dx2, _, rfl, r1, R.own.cls, R.nt, (by show 3 < 1000; decide), ?_⟩
    refine ⟨_, rfl, c, _, 1, .int b', rfl, rfl, SqT.of (hT hcH), rfl, _, rfl, x, CR, dx2, _, rfl, upd_same, R.own.cls, R.nb, (by show 3 < 1000; decide), ?_⟩
    refine ⟨_, rfl, c, _, 0, .int t', rfl, rfl, SqT.of (hT (hT hcH)), rfl, t', rfl, _, rfl, x, CR, dx2, _, rfl, upd_same, R.own.cls, R.ns, (by show 3 < 1000; decide), ?_⟩
    have hxH : H x = none := by
      have z := hx
      rw [upd_ne ncx.symm] at z
      exact z
    refine ⟨_, rfl, q t' b' x _ hl hxH (fun d o e => ?_) ⟨dx2, upd_same⟩⟩
    have nd1 : d ≠ x := ne_of_none e hxH
    have hdH : H dx = none := by
      have z := hdx
      rw [upd_ne ncd.symm] at z
      exact z
    rw [upd_ne nd1, upd_ne nd1, upd_ne nd1]
    refine k1 _ _ ?_ nd1
    rw [upd_ne nd1, upd_ne (ne_of_none e hdH), upd_ne (ne_of_none e hc)]
    exact e
end
end Sf

namespace Sf
open PySem PySem.Spec PyProof.Rows L2
section
variable {P : Program} {w : World} {K : PySem.W.Frag} {mg : Str → Option Value} {base : Heap} {f : Addr} {fd : FuncData} {CR : Addr}
/-- a ratio, or an integer that can be passed -/
inductive RatV (CR : Addr) (H : Hp) : V → Int → Int → Prop
  | rat {a : Addr} {t b : Int} (h : RatioAt CR H a t b) : RatV CR H (.ref a) t b
  | int {t : Int} (h : t.natAbs < 10 ^ 60) : RatV CR H (.int t) t 1
theorem RatV.same {H H' : Hp} {x : V} {t b : Int} (h : RatV CR H x t b) (s : Same H H') : RatV CR H' x t b := by
  cases h with
  | rat h => exact .rat (h.same s)
  | int h => exact .int h
def spRatV (CR : Addr) (v : V) : Sp := fun vs H Q _ => ∃ (x : V) (t b : Int), vs = [x] ∧ RatV CR H x t b ∧ Q v H
theorem ok_is_fraction (F : FnD K "is_fraction" "is_fraction" s_P_is_fraction f fd) (T : Glob mg) (R : RatioK K CR) (G_Ratio : mg "Ratio" = some (.ref CR)) (C_P_is_passed : Cal P w K mg base 2 "is_passed" ["value"] (spPassed K)) : FnOk P w K mg base CX0 3 f fd ["value"] (spRatV CR (.bl true)) := by
  refine F.ok sc_P_is_fraction (fun vs H Q E h => ?_) (fun cdv A outer s H vs Q E hr h => ?_)
  · obtain ⟨x, t, b, rfl, _⟩ := h; rfl
  · obtain ⟨x, t, b, rfl, hx, q⟩ := h
    refine ⟨_, PSs.nox (pss_one (ps_ret (pe_or (pe_callB call_isi (by rfl) T.m_isinstance (by decide +kernel) (pa_cons (pv 0) (pa_cons (pe_glob (v := .ref _) rfl G_Ratio rfl) pa_nil))) (pe_one (pe_cal C_P_is_passed (hr.mono (by decide)) (pa_cons (pv 0) pa_nil)))))), ?_⟩
    cases hx with
    | rat hx =>
      exact ⟨_, rfl, _, .ref CR, _, _, true, rfl, .own CR, R.own.ty hx.ins, R.own.kk, _, rfl, q⟩
    | int hb =>
      refine ⟨_, rfl, _, .ref CR, _, _, false, rfl, .own CR, .base (.int _), R.own.ki, _, rfl, ?_⟩
      refine ⟨_, rfl, .int t, true, rfl, .int t, ⟨fun _ => ⟨t, rfl⟩, fun _ => rfl⟩, fun r hr2 => ?_⟩
      have e : r = true := hr2.mpr ⟨t, rfl, hb⟩
      subst e
      exact q
theorem ok_check_ratio (F : FnD K "check_ratio" "check_ratio" s_P_check_ratio f fd) (C_P_is_fraction : Cal P w K mg base 3 "is_fraction" ["value"] (spRatV CR (.bl true))) : FnOk P w K mg base CX0 4 f fd ["value"] (spRatV CR .non) := by
  refine F.ok sc_P_check_ratio (fun vs H Q E h => ?_) (fun cdv A outer s H vs Q E hr h => ?_)
  · obtain ⟨x, t, b, rfl, _⟩ := h; rfl
  · obtain ⟨x, t, b, rfl, hx, q⟩ := h
    refine ⟨_, PSs.nox (pss_one (ps_if (pt_not (pt_val (pe_cal C_P_is_fraction (hr.mono (by decide)) (pa_cons (pv 0) pa_nil)))) (pss_one ps_never) pss_nil)), ?_⟩
    exact ⟨_, rfl, x, t, b, rfl, hx, _, rfl, q⟩
def spTermsOf (CR : Addr) : Sp := fun vs H Q _ => ∃ (x : V) (t b : Int), vs = [x] ∧ RatV CR H x t b ∧ ∀ a, H a = none → Q (.ref a) (upd H a (.tup [.int t, .int b]))
theorem ok_terms_of (F : FnD K "terms_of" "terms_of" s_P_terms_of f fd) (T : Glob mg) (R : RatioK K CR) (G_Ratio : mg "Ratio" = some (.ref CR)) : FnOk P w K mg base CX0 1 f fd ["ratio"] (spTermsOf CR) := by
  refine F.ok sc_P_terms_of (fun vs H Q E h => ?_) (fun cdv A outer s H vs Q E hr h => ?_)
  · obtain ⟨x, t, b, rfl, _⟩ := h; rfl
  · obtain ⟨x, t, b, rfl, hx, q⟩ := h
    refine ⟨_, PSs.nox (pss_cons (ps_if (pt_val (pe_callB call_isi (by rfl) T.m_isinstance (by decide +kernel) (pa_cons (pv 0) (pa_cons (pe_glob (v := .ref _) rfl G_Ratio rfl) pa_nil)))) (pss_one (ps_ret (pe_tup (pa_cons (pe_fld (pv 0) rfl) (pa_cons (pe_fld (pv 0) rfl) pa_nil))))) pss_nil)
      (pss_one (ps_ret (pe_tup (pa_cons (pv 0) (pa_cons pe_int pa_nil)))))), ?_⟩
    cases hx with
    | @rat a _ _ hx =>
      obtain ⟨dx, e⟩ := hx
      refine ⟨_, rfl, _, .ref CR, _, _, true, rfl, .own CR, R.own.ty ⟨dx, _, e⟩, R.own.kk, _, rfl, ?_⟩
      exact ⟨_, rfl, a, CR, dx, _, .int t, rfl, e, R.own.cls, R.nt, rfl, _, rfl, a, CR, dx, _, .int b, rfl, e, R.own.cls, R.nb, rfl, (by show 2 ≤ sizeLine; decide), fun c hc => q c hc⟩
    | int hb =>
      refine ⟨_, rfl, _, .ref CR, _, _, false, rfl, .own CR, .base (.int _), R.own.ki, _, rfl, ?_⟩
      exact ⟨_, rfl, (by show 2 ≤ sizeLine; decide), fun c hc => q c hc⟩
structure RatOpP (CR : Addr) (g h : Int → Int → Int → Int → Int) (vs : List V) (H : Hp) (Q : VK) : Prop where
  ex : ∃ (a : Addr) (y : V) (t b t2 b2 : Int), vs = [.ref a, y] ∧ RatioAt CR H a t b ∧ RatV CR H y t2 b2 ∧ t.natAbs < 2 ^ 3000 ∧ b.natAbs < 2 ^ 3000 ∧ t2.natAbs < 2 ^ 3000 ∧ b2.natAbs < 2 ^ 3000 ∧ h t b t2 b2 ≠ 0 ∧
    ∀ (t' b' : Int) (x : Addr) (H' : Hp), LowT (g t b t2 b2) (h t b t2 b2) t' b' → H x = none → Same H H' → RatioAt CR H' x t' b' → Q (.ref x) H'
def spRatOp (CR : Addr) (g h : Int → Int → Int → Int → Int) : Sp := fun vs H Q _ => RatOpP CR g h vs H Q
theorem mul3000 {x y : Int} (hx : x.natAbs < 2 ^ 3000) (hy : y.natAbs < 2 ^ 3000) : (x * y).natAbs < 2 ^ 6000 := by
  rw [Int.natAbs_mul, show (6000 : Nat) = 3000 + 3000 from rfl, Nat.pow_add]
  exact Nat.mul_lt_mul'' hx hy
theorem mul8000 {x y : Int} (hx : x.natAbs < 2 ^ 3000) (hy : y.natAbs < 2 ^ 3000) : (x * y).natAbs < 2 ^ 8000 := Nat.lt_of_lt_of_le (mul3000 hx hy) (Nat.pow_le_pow_right (by decide) (by decide))
theorem ok_Ratio_add (F : FnD K "__add__" "Ratio.__add__" s_P_Ratio___add__ f fd) (R : RatioK K CR) (C_P_is_fraction : Cal P w K mg base 3 "is_fraction" ["value"] (spRatV CR (.bl true))) (C_P_terms_of : Cal P w K mg base 1 "terms_of" ["ratio"] (spTermsOf CR)) (C_P_made_ratio : Cal P w K mg base 5 "made_ratio" ["top", "bottom"] (spMadeRatio CR)) :
    FnOk P w K mg base CX0 6 f fd ["self", "other"] (spRatOp CR (fun t b t2 b2 => t * b2 + t2 * b) (fun _ b _ b2 => b * b2)) := by
  refine F.ok sc_P_Ratio___add__ (fun vs H Q E h => ?_) (fun cdv A outer s H vs Q E hr h => ?_)
  · obtain ⟨a, y, t, b, t2, b2, rfl, _⟩ := h.ex; rfl
  · obtain ⟨a, y, t, b, t2, b2, rfl, ⟨dx, ha⟩, hy, h1, h2, h3, h4, h5, q⟩ := h.ex
    refine ⟨_, PSs.nox (pss_cons (ps_if (pt_not (pt_val (pe_cal C_P_is_fraction (hr.mono (by decide)) (pa_cons (pv 1) pa_nil)))) (pss_one ps_never) pss_nil)
      (pss_cons (ps_asg (pe_cal C_P_terms_of (hr.mono (by decide)) (pa_cons (pv 1) pa_nil)) (pg_tup (by rfl) (pgs_cons (pg_name (i := 2) sc_P_Ratio___add__.nd rfl (Or.inl rfl)) (pgs_cons (pg_name (i := 3) sc_P_Ratio___add__.nd rfl (Or.inl rfl)) pgs_nil))))
      (pss_one (ps_ret (pe_cal C_P_made_ratio (hr.mono (by decide)) (pa_cons (pe_op op_add (pe_op op_mulW (pe_fld (pv 0) rfl) (pv 3)) (pe_op op_mulW (pv 2) (pe_fld (pv 0) rfl))) (pa_cons (pe_op op_mulW (pe_fld (pv 0) rfl) (pv 3)) pa_nil))))))), ?_⟩
    refine ⟨_, rfl, y, t2, b2, rfl, hy, _, rfl, ?_⟩
    refine ⟨_, rfl, y, t2, b2, rfl, hy, fun c hc => ⟨c, _, rfl, .inl (.inl upd_same), rfl, _, _, rfl, _, _, rfl, rfl, ?_⟩⟩
    have hac : (upd H c (.tup [.int t2, .int b2])) a = _ := (upd_ne (ne_of_none ha hc)).trans ha
    refine ⟨_, rfl, a, CR, dx, _, .int t, rfl, hac, R.own.cls, R.nt, rfl, _, rfl, _, _, rfl, rfl, CMulW.of h1 h4, _, rfl, _, rfl, a, CR, dx, _, .int b, rfl, hac, R.own.cls, R.nb, rfl, _, _, rfl, rfl, CMulW.of h3 h2, _, _, rfl, rfl, ?_⟩
    refine ⟨_, rfl, a, CR, dx, _, .int b, rfl, hac, R.own.cls, R.nb, rfl, _, rfl, _, _, rfl, rfl, CMulW.of h2 h4, ?_⟩
    exact ⟨_, _, rfl, h5, mul8000 h2 h4, fun t' b' x H' hl hx e hR => q t' b' x H' hl ((same_upd hc).free hx) ((same_upd hc).trans e) hR⟩
theorem ok_Ratio_sub (F : FnD K "__sub__" "Ratio.__sub__" s_P_Ratio___sub__ f fd) (R : RatioK K CR) (C_P_is_fraction : Cal P w K mg base 3 "is_fraction" ["value"] (spRatV CR (.bl true))) (C_P_terms_of : Cal P w K mg base 1 "terms_of" ["ratio"] (spTermsOf CR)) (C_P_made_ratio : Cal P w K mg base 5 "made_ratio" ["top", "bottom"] (spMadeRatio CR)) :
    FnOk P w K mg base CX0 6 f fd ["self", "other"] (spRatOp CR (fun t b t2 b2 => t * b2 - t2 * b) (fun _ b _ b2 => b * b2)) := by
  refine F.ok sc_P_Ratio___sub__ (fun vs H Q E h => ?_) (fun cdv A outer s H vs Q E hr h => ?_)
  · obtain ⟨a, y, t, b, t2, b2, rfl, _⟩ := h.ex; rfl
  · obtain ⟨a, y, t, b, t2, b2, rfl, ⟨dx, ha⟩, hy, h1, h2, h3, h4, h5, q⟩ := h.ex
    refine ⟨_, PSs.nox (pss_cons (ps_if (pt_not (pt_val (pe_cal C_P_is_fraction (hr.mono (by decide)) (pa_cons (pv 1) pa_nil)))) (pss_one ps_never) pss_nil)
      (pss_cons (ps_asg (pe_cal C_P_terms_of (hr.mono (by decide)) (pa_cons (pv 1) pa_nil)) (pg_tup (by rfl) (pgs_cons (pg_name (i := 2) sc_P_Ratio___sub__.nd rfl (Or.inl rfl)) (pgs_cons (pg_name (i := 3) sc_P_Ratio___sub__.nd rfl (Or.inl rfl)) pgs_nil))))
      (pss_one (ps_ret (pe_cal C_P_made_ratio (hr.mono (by decide)) (pa_cons (pe_op op_sub (pe_op op_mulW (pe_fld (pv 0) rfl) (pv 3)) (pe_op op_mulW (pv 2) (pe_fld (pv 0) rfl))) (pa_cons (pe_op op_mulW (pe_fld (pv 0) rfl) (pv 3)) pa_nil))))))), ?_⟩
    refine ⟨_, rfl, y, t2, b2, rfl, hy, _, rfl, ?_⟩
    refine ⟨_, rfl, y, t2, b2, rfl, hy, fun c hc => ⟨c, _, rfl, .inl (.inl upd_same), rfl, _, _, rfl, _, _, rfl, rfl, ?_⟩⟩
    have hac : (upd H c (.tup [.int t2, .int b2])) a = _ := (upd_ne (ne_of_none ha hc)).trans ha
    refine ⟨_, rfl, a, CR, dx, _, .int t, rfl, hac, R.own.cls, R.nt, rfl, _, rfl, _, _, rfl, rfl, CMulW.of h1 h4, _, rfl, _, rfl, a, CR, dx, _, .int b, rfl, hac, R.own.cls, R.nb, rfl, _, _, rfl, rfl, CMulW.of h3 h2, _, _, rfl, rfl, ?_⟩
    refine ⟨_, rfl, a, CR, dx, _, .int b, rfl, hac, R.own.cls, R.nb, rfl, _, rfl, _, _, rfl, rfl, CMulW.of h2 h4, ?_⟩
    exact ⟨_, _, rfl, h5, mul8000 h2 h4, fun t' b' x H' hl hx e hR => q t' b' x H' hl ((same_upd hc).free hx) ((same_upd hc).trans e) hR⟩
theorem ok_Ratio_mul (F : FnD K "__mul__" "Ratio.__mul__" s_P_Ratio___mul__ f fd) (R : RatioK K CR) (C_P_is_fraction : Cal P w K mg base 3 "is_fraction" ["value"] (spRatV CR (.bl true))) (C_P_terms_of : Cal P w K mg base 1 "terms_of" ["ratio"] (spTermsOf CR)) (C_P_made_ratio : Cal P w K mg base 5 "made_ratio" ["top", "bottom"] (spMadeRatio CR)) :
    FnOk P w K mg base CX0 6 f fd ["self", "other"] (spRatOp CR (fun t b t2 b2 => t * t2) (fun _ b _ b2 => b * b2)) := by
  refine F.ok sc_P_Ratio___mul__ (fun vs H Q E h => ?_) (fun cdv A outer s H vs Q E hr h => ?_)
  · obtain ⟨a, y, t, b, t2, b2, rfl, _⟩ := h.ex; rfl
  · obtain ⟨a, y, t, b, t2, b2, rfl, ⟨dx, ha⟩, hy, h1, h2, h3, h4, h5, q⟩ := h.ex
    refine ⟨_, PSs.nox (pss_cons (ps_if (pt_not (pt_val (pe_cal C_P_is_fraction (hr.mono (by decide)) (pa_cons (pv 1) pa_nil)))) (pss_one ps_never) pss_nil)
      (pss_cons (ps_asg (pe_cal C_P_terms_of (hr.mono (by decide)) (pa_cons (pv 1) pa_nil)) (pg_tup (by rfl) (pgs_cons (pg_name (i := 2) sc_P_Ratio___mul__.nd rfl (Or.inl rfl)) (pgs_cons (pg_name (i := 3) sc_P_Ratio___mul__.nd rfl (Or.inl rfl)) pgs_nil))))
      (pss_one (ps_ret (pe_cal C_P_made_ratio (hr.mono (by decide)) (pa_cons (pe_op op_mulW (pe_fld (pv 0) rfl) (pv 2)) (pa_cons (pe_op op_mulW (pe_fld (pv 0) rfl) (pv 3)) pa_nil))))))), ?_⟩
    refine ⟨_, rfl, y, t2, b2, rfl, hy, _, rfl, ?_⟩
    refine ⟨_, rfl, y, t2, b2, rfl, hy, fun c hc => ⟨c, _, rfl, .inl (.inl upd_same), rfl, _, _, rfl, _, _, rfl, rfl, ?_⟩⟩
    have hac : (upd H c (.tup [.int t2, .int b2])) a = _ := (upd_ne (ne_of_none ha hc)).trans ha
    refine ⟨_, rfl, a, CR, dx, _, .int t, rfl, hac, R.own.cls, R.nt, rfl, _, rfl, _, _, rfl, rfl, CMulW.of h1 h3, ?_⟩
    refine ⟨_, rfl, a, CR, dx, _, .int b, rfl, hac, R.own.cls, R.nb, rfl, _, rfl, _, _, rfl, rfl, CMulW.of h2 h4, ?_⟩
    exact ⟨_, _, rfl, h5, mul8000 h2 h4, fun t' b' x H' hl hx e hR => q t' b' x H' hl ((same_upd hc).free hx) ((same_upd hc).trans e) hR⟩
def spRatNeg (CR : Addr) : Sp := fun vs H Q _ => ∃ (a : Addr) (t b : Int), vs = [.ref a] ∧ RatioAt CR H a t b ∧ b ≠ 0 ∧ b.natAbs < 2 ^ 8000 ∧ ∀ (t' b' : Int) (x : Addr) (H' : Hp), LowT (-t) b t' b' → H x = none → Same H H' → RatioAt CR H' x t' b' → Q (.ref x) H'
theorem ok_Ratio_neg (F : FnD K "__neg__" "Ratio.__neg__" s_P_Ratio___neg__ f fd) (R : RatioK K CR) (C_P_made_ratio : Cal P w K mg base 5 "made_ratio" ["top", "bottom"] (spMadeRatio CR)) : FnOk P w K mg base CX0 6 f fd ["self"] (spRatNeg CR) := by
  refine F.ok sc_P_Ratio___neg__ (fun vs H Q E h => ?_) (fun cdv A outer s H vs Q E hr h => ?_)
  · obtain ⟨a, t, b, rfl, _⟩ := h; rfl
  · obtain ⟨a, t, b, rfl, ⟨dx, ha⟩, b0, bb, q⟩ := h
    refine ⟨_, PSs.nox (pss_one (ps_ret (pe_cal C_P_made_ratio (hr.mono (by decide)) (pa_cons (pe_un un_neg (pe_fld (pv 0) rfl)) (pa_cons (pe_fld (pv 0) rfl) pa_nil))))), ?_⟩
    exact ⟨_, rfl, a, CR, dx, _, .int t, rfl, ha, R.own.cls, R.nt, rfl, t, rfl, _, rfl, a, CR, dx, _, .int b, rfl, ha, R.own.cls, R.nb, rfl, -t, b, rfl, b0, bb, q⟩
def spRatBool (CR : Addr) : Sp := fun vs H Q _ => ∃ (a : Addr) (t b : Int), vs = [.ref a] ∧ RatioAt CR H a t b ∧ Q (.bl (t != 0)) H
theorem ok_Ratio_bool (F : FnD K "__bool__" "Ratio.__bool__" s_P_Ratio___bool__ f fd) (T : Glob mg) (R : RatioK K CR) : FnOk P w K mg base CX0 1 f fd ["self"] (spRatBool CR) := by
  refine F.ok sc_P_Ratio___bool__ (fun vs H Q E h => ?_) (fun cdv A outer s H vs Q E hr h => ?_)
  · obtain ⟨a, t, b, rfl, _⟩ := h; rfl
  · obtain ⟨a, t, b, rfl, ⟨dx, ha⟩, q⟩ := h
    refine ⟨_, PSs.nox (pss_one (ps_ret (pe_callTy call_bool1 (by rfl) T.m_bool (by decide +kernel) (pa_cons (pe_fld (pv 0) rfl) pa_nil)))), ?_⟩
    exact ⟨_, rfl, a, CR, dx, _, .int t, rfl, ha, R.own.cls, R.nt, rfl, .inl ⟨t, rfl, q⟩⟩
structure RatEqP (CR : Addr) (vs : List V) (H : Hp) (Q : VK) : Prop where
  ex : ∃ (a : Addr) (y : V) (t b t2 b2 : Int), vs = [.ref a, y] ∧ RatioAt CR H a t b ∧ RatV CR H y t2 b2 ∧ ∀ r : Bool, (r = true ↔ t = t2 ∧ b = b2) → Q (.bl r) H
def spRatEq (CR : Addr) : Sp := fun vs H Q _ => RatEqP CR vs H Q
theorem ok_Ratio_eq (F : FnD K "__eq__" "Ratio.__eq__" s_P_Ratio___eq__ f fd) (T : Glob mg) (R : RatioK K CR) (G_Ratio : mg "Ratio" = some (.ref CR)) (C_P_is_integer : Cal P w K mg base 1 "is_integer" ["value"] (spIsInt K)) : FnOk P w K mg base CX0 2 f fd ["self", "value"] (spRatEq CR) := by
  refine F.ok sc_P_Ratio___eq__ (fun vs H Q E h => ?_) (fun cdv A outer s H vs Q E hr h => ?_)
  · obtain ⟨a, y, t, b, t2, b2, rfl, _⟩ := h.ex; rfl
  · obtain ⟨a, y, t, b, t2, b2, rfl, ⟨dx, ha⟩, hy, q⟩ := h.ex
    refine ⟨_, PSs.nox (pss_cons (ps_if (pt_val (pe_callB call_isi (by rfl) T.m_isinstance (by decide +kernel) (pa_cons (pv 1) (pa_cons (pe_glob (v := .ref _) rfl G_Ratio rfl) pa_nil)))) (pss_one (ps_ret (pe_and (pe_cmp (pc_eqI (pe_fld (pv 0) rfl) (pe_fld (pv 1) rfl)) rfl) (pe_one (pe_cmp (pc_eqI (pe_fld (pv 0) rfl) (pe_fld (pv 1) rfl)) rfl))))) pss_nil)
      (pss_one (ps_ret (pe_and (pe_cal C_P_is_integer (hr.mono (by decide)) (pa_cons (pv 1) pa_nil)) (pe_and (pe_cmp (pc_eqI (pe_fld (pv 0) rfl) pe_int) rfl) (pe_one (pe_cmp (pc_eqI (pe_fld (pv 0) rfl) (pv 1)) rfl))))))), ?_⟩
    cases hy with
    | @rat a2 _ _ hy =>
      obtain ⟨dx2, hb⟩ := hy
      refine ⟨_, rfl, _, .ref CR, _, _, true, rfl, .own CR, R.own.ty ⟨dx2, _, hb⟩, R.own.kk, _, rfl, ?_⟩
      refine ⟨_, rfl, a, CR, dx, _, .int t, rfl, ha, R.own.cls, R.nt, rfl, _, rfl, a2, CR, dx2, _, .int t2, rfl, hb, R.own.cls, R.nt, rfl, _, _, rfl, rfl, _, rfl, ifd (fun h1 => ?_) (fun h1 => ?_)⟩
      · refine ⟨_, rfl, a, CR, dx, _, .int b, rfl, ha, R.own.cls, R.nb, rfl, _, rfl, a2, CR, dx2, _, .int b2, rfl, hb, R.own.cls, R.nb, rfl, _, _, rfl, rfl, ?_⟩
        refine q _ ?_
        rw [decide_eq_true_iff]
        exact ⟨fun h => ⟨h1, h⟩, fun h => h.2⟩
      · refine q _ ⟨fun h => ?_, fun h => absurd h.1 h1⟩
        exact Bool.noConfusion h
    | int hb =>
      refine ⟨_, rfl, _, .ref CR, _, _, false, rfl, .own CR, .base (.int _), R.own.ki, _, rfl, ?_⟩
      refine ⟨_, rfl, .int t2, true, rfl, .int t2, _, rfl, ?_⟩
      refine ⟨_, rfl, a, CR, dx, _, .int b, rfl, ha, R.own.cls, R.nb, rfl, _, _, rfl, rfl, _, rfl, ifd (fun h1 => ?_) (fun h1 => ?_)⟩
      · refine ⟨_, rfl, a, CR, dx, _, .int t, rfl, ha, R.own.cls, R.nt, rfl, _, rfl, _, _, rfl, rfl, ?_⟩
        refine q _ ?_
        rw [decide_eq_true_iff]
        exact ⟨fun h => ⟨h, h1⟩, fun h => h.1⟩
      · refine q _ ⟨fun h => ?_, fun h => absurd h.2 h1⟩
        exact Bool.noConfusion h
theorem ok_Ratio_over (F : FnD K "over" "Ratio.over" s_P_Ratio_over f fd) (R : RatioK K CR) (C_P_check_ratio : Cal P w K mg base 4 "check_ratio" ["value"] (spRatV CR .non)) (C_P_terms_of : Cal P w K mg base 1 "terms_of" ["ratio"] (spTermsOf CR)) (C_P_made_ratio : Cal P w K mg base 5 "made_ratio" ["top", "bottom"] (spMadeRatio CR)) :
    FnOk P w K mg base CX0 6 f fd ["self", "other"] (spRatOp CR (fun t _ _ b2 => t * b2) (fun _ b t2 _ => b * t2)) := by
  refine F.ok sc_P_Ratio_over (fun vs H Q E h => ?_) (fun cdv A outer s H vs Q E hr h => ?_)
  · obtain ⟨a, y, t, b, t2, b2, rfl, _⟩ := h.ex; rfl
  · obtain ⟨a, y, t, b, t2, b2, rfl, ⟨dx, ha⟩, hy, h1, h2, h3, h4, h5, q⟩ := h.ex
    refine ⟨_, PSs.nox (pss_cons (ps_expr (pe_cal C_P_check_ratio (hr.mono (by decide)) (pa_cons (pv 1) pa_nil)))
      (pss_cons (ps_asg (pe_cal C_P_terms_of (hr.mono (by decide)) (pa_cons (pv 1) pa_nil)) (pg_tup (by rfl) (pgs_cons (pg_name (i := 2) sc_P_Ratio_over.nd rfl (Or.inl rfl)) (pgs_cons (pg_name (i := 3) sc_P_Ratio_over.nd rfl (Or.inl rfl)) pgs_nil))))
      (pss_cons (ps_if (pt_cmp (pc_eqI (pv 2) pe_int)) (pss_one ps_never) pss_nil)
      (pss_one (ps_ret (pe_cal C_P_made_ratio (hr.mono (by decide)) (pa_cons (pe_op op_mulW (pe_fld (pv 0) rfl) (pv 3)) (pa_cons (pe_op op_mulW (pe_fld (pv 0) rfl) (pv 2)) pa_nil)))))))), ?_⟩
    refine ⟨_, rfl, y, t2, b2, rfl, hy, ?_⟩
    refine ⟨_, rfl, y, t2, b2, rfl, hy, fun c hc => ⟨c, _, rfl, .inl (.inl upd_same), rfl, _, _, rfl, _, _, rfl, rfl, ?_⟩⟩
    have hac : (upd H c (.tup [.int t2, .int b2])) a = _ := (upd_ne (ne_of_none ha hc)).trans ha
    refine ⟨_, rfl, _, _, rfl, rfl, _, rfl, ifd (fun z => absurd (by rw [z]; exact Int.mul_zero b) h5) (fun _ => ?_)⟩
    refine ⟨_, rfl, a, CR, dx, _, .int t, rfl, hac, R.own.cls, R.nt, rfl, _, rfl, _, _, rfl, rfl, CMulW.of h1 h4, _, rfl, a, CR, dx, _, .int b, rfl, hac, R.own.cls, R.nb, rfl, _, rfl, _, _, rfl, rfl, CMulW.of h2 h3, ?_⟩
    exact ⟨_, _, rfl, h5, mul8000 h2 h3, fun t' b' x H' hl hx e hR => q t' b' x H' hl ((same_upd hc).free hx) ((same_upd hc).trans e) hR⟩
end
end Sf

namespace Sf
open PySem PySem.Spec PyProof.Rows L2
/-- the product of the primes among places -/
def discOf : List Int → Int
  | [] => 1
  | p :: l => (if p > 0 then p else 1) * discOf l
theorem disc_snoc : ∀ (l : List Int) (p : Int), discOf (l ++ [p]) = discOf l * (if p > 0 then p else 1)
  | [], p => by show (if p > 0 then p else 1) * 1 = 1 * _; omega
  | x :: l, p => by
    show _ * discOf (l ++ [p]) = _ * discOf l * _
    rw [disc_snoc l p, Int.mul_assoc]
theorem disc_small : ∀ (l : List Int), (∀ p ∈ l, p ≤ 1000000000) → (discOf l).natAbs ≤ 1000000000 ^ l.length
  | [], _ => by show 1 ≤ _; exact Nat.le_refl _
  | x :: l, h => by
    have ih := disc_small l fun p hp => h p (List.mem_cons_of_mem _ hp)
    have hx := h x List.mem_cons_self
    show ((if x > 0 then x else 1) * discOf l).natAbs ≤ 1000000000 ^ (l.length + 1)
    rw [Int.natAbs_mul, Nat.pow_succ, Nat.mul_comm]
    refine Nat.mul_le_mul ih ?_
    split <;> omega
section
variable {P : Program} {w : World} {K : PySem.W.Frag} {mg : Str → Option Value} {base : Heap} {f : Addr} {fd : FuncData} {CR CA CF : Addr}
theorem int_of_map {l : List Int} {i : Nat} {v : V} (h : (l.map V.int)[i]? = some v) : ∃ z, l[i]? = some z ∧ v = V.int z := by
  rw [List.getElem?_map] at h
  cases e : l[i]? with
  | none => rw [e] at h; cases h
  | some z => rw [e] at h; exact ⟨z, rfl, (Option.some.inj h).symm⟩
def spDisc : Sp := fun vs H Q _ => ∃ (a : Addr) (l : List Int), vs = [.ref a] ∧ H a = some (.tup (l.map V.int)) ∧ l.length ≤ 62 ∧ (∀ p ∈ l, p ≤ 1000000000) ∧ Q (.int (discOf l)) H
theorem ok_product_of_primes (F : FnD K "product_of_primes" "product_of_primes" s_P_product_of_primes f fd) : FnOk P w K mg base CX0 1 f fd ["places"] spDisc := by
  refine F.ok sc_P_product_of_primes (fun vs H Q E h => ?_) (fun cdv A outer s H vs Q E hr h => ?_)
  · obtain ⟨a, l, rfl, _⟩ := h; rfl
  · obtain ⟨a, l, rfl, ha, hl, hp, q⟩ := h
    refine ⟨_, PSs.nox (pss_cons (ps_set (i := 1) sc_P_product_of_primes.nd rfl (Or.inl rfl) pe_int)
      (pss_cons (ps_for PassesOwn.never rfl (pi_tup (pv 0)) (pg_name (i := 2) sc_P_product_of_primes.nd rfl (Or.inl rfl)) (pss_one (ps_if (pt_cmp (pc_gt (pv 2) pe_int)) (pss_one (ps_set (i := 1) sc_P_product_of_primes.nd rfl (Or.inl rfl) (pe_op op_mulW (pv 1) (pv 2)))) pss_nil)))
      (pss_one (ps_ret (pv 1))))), ?_⟩
    have hT : SqT K H a (l.map V.int) := .inl (.inl ha)
    refine ⟨_, rfl, a, rfl, ⟨_, hT⟩, for_tup (K := K) (a := a) (xs := l.map V.int) (fun i σ H' => H = H' ∧ ∃ v, σ = [some (.ref a), some (.int (discOf (l.take i))), v]) ⟨rfl, none, rfl⟩ (fun i σ H' _ e => by rw [← e.1]; exact hT) ?_ ?_⟩
    · rintro i y σ _ hi ⟨rfl, v, rfl⟩
      obtain ⟨p, hpi, rfl⟩ := int_of_map hi
      have pm := List.mem_of_getElem? hpi
      have pb := hp p pm
      have et : discOf (l.take (i + 1)) = discOf (l.take i) * (if p > 0 then p else 1) := by
        rw [List.take_add_one, hpi, ← disc_snoc]
        rfl
      have sm := disc_small (l.take i) fun x hx => hp x (List.mem_of_mem_take hx)
      have sb : (discOf (l.take i)).natAbs < 2 ^ 3000 := by
        refine Nat.lt_of_le_of_lt (Nat.le_trans sm (Nat.pow_le_pow_right (by decide) (?_ : (l.take i).length ≤ 62))) (by decide +kernel)
        have := List.length_take_le' i l
        omega
      refine ⟨_, rfl, _, _, rfl, rfl, _, rfl, ifd (fun h => ?_) (fun h => ?_)⟩
      · rw [if_pos h] at et
        refine ⟨_, rfl, _, rfl, _, _, rfl, rfl, CMulW.of sb (lt3000s (by omega) (by omega)), rfl, some (.int p), ?_⟩
        rw [et]; rfl
      · rw [if_neg h, Int.mul_one] at et
        exact ⟨rfl, some (.int p), by rw [et]; rfl⟩
    · rintro σ _ ⟨rfl, v, rfl⟩
      rw [List.length_map, List.take_length]
      exact ⟨_, rfl, q⟩
/-- the algebra of two numbers -/
structure AlgAt (CA : Addr) (H : Hp) (x : Addr) (a b : Int) : Prop where
  ex : ∃ (dx pl : Addr) (l : List Int), H x = some (.ins CA dx [("places", .ref pl), ("a", .int a), ("b", .int b), ("discriminant", .int (discOf l)), ("is_tables", .bl (decide (l.length = 0))), ("is_definite", .bl (decide ((0 : Int) ∈ l)))]) ∧
    H pl = some (.tup (l.map V.int)) ∧ PlacesOf a b l ∧ a ≠ 0 ∧ b ≠ 0 ∧ a.natAbs ≤ 1000000000 ∧ b.natAbs ≤ 1000000000
theorem AlgAt.same {H H' : Hp} {x : Addr} {a b : Int} (h : AlgAt CA H x a b) (s : Same H H') : AlgAt CA H' x a b := by
  obtain ⟨dx, pl, l, h1, h2, h3⟩ := h.ex
  exact ⟨dx, pl, l, s _ _ h1, s _ _ h2, h3⟩
theorem AlgAt.ins {H : Hp} {x : Addr} {a b : Int} (h : AlgAt CA H x a b) : Ins H x CA := by
  obtain ⟨dx, pl, l, h1, _⟩ := h.ex
  exact ⟨dx, _, h1⟩
structure AlgK (K : PySem.W.Frag) (CA : Addr) : Prop where
  own : OwnK K CA
  n1 : NoAttr K CA "places"
  n2 : NoAttr K CA "a"
  n3 : NoAttr K CA "b"
  n4 : NoAttr K CA "discriminant"
  n5 : NoAttr K CA "is_tables"
  n6 : NoAttr K CA "is_definite"
structure AlgInitP (CA : Addr) (vs : List V) (H : Hp) (Q : VK) : Prop where
  ex : ∃ (x dx : Addr) (a b : Int), vs = [.ref x, .int a, .int b] ∧ a ≠ 0 ∧ b ≠ 0 ∧ a.natAbs ≤ 1000000000 ∧ b.natAbs ≤ 1000000000 ∧ H x = some (.ins CA dx []) ∧ ∀ H', Keep x H H' → AlgAt CA H' x a b → Q .non H'
def spAlgInit (CA : Addr) : Sp := fun vs H Q _ => AlgInitP CA vs H Q
theorem place_le {a b p : Int} {l : List Int} (h : PlacesOf a b l) (a0 : a ≠ 0) (b0 : b ≠ 0) (a1 : a.natAbs ≤ 1000000000) (b1 : b.natAbs ≤ 1000000000) (hp : p ∈ l) : p ≤ 1000000000 := by
  obtain ⟨g, n⟩ := (h.2 p).mp hp
  rcases g with e | g
  · omega
  · by_cases c : p = 2
    · omega
    · have dv : ∀ {n : Int}, n ≠ 0 → n % p = 0 → p ≤ n.natAbs := fun {n} n0 d => by
        obtain ⟨k, hk⟩ := Int.dvd_of_emod_eq_zero d
        have k0 : k ≠ 0 := fun z => n0 (by rw [hk, z, Int.mul_zero])
        have p2 := g.1
        have e : n.natAbs = p.natAbs * k.natAbs := by rw [hk]; exact Int.natAbs_mul _ _
        have : p.natAbs * 1 ≤ p.natAbs * k.natAbs := Nat.mul_le_mul_left _ (by omega)
        omega
      by_cases ca : a % p = 0
      · have := dv a0 ca
        omega
      · by_cases cb : b % p = 0
        · have := dv b0 cb
          omega
        · exact absurd (sign_far g c ca cb n) (by decide)
theorem ok_Algebra_init (F : FnD K "__init__" "Algebra.__init__" s_P_Algebra___init__ f fd) (T : Glob mg) (R : AlgK K CA) (C_P_signed_places : Cal P w K mg base 5 "signed_places" ["a", "b"] spPlaces) (C_P_product_of_primes : Cal P w K mg base 1 "product_of_primes" ["places"] spDisc) :
    FnOk P w K mg base CX0 6 f fd ["self", "a", "b"] (spAlgInit CA) := by
  refine F.ok sc_P_Algebra___init__ (fun vs H Q E h => ?_) (fun cdv A outer s H vs Q E hr h => ?_)
  · obtain ⟨x, dx, a, b, rfl, _⟩ := h.ex; rfl
  · obtain ⟨x, dx, a, b, rfl, a0, b0, a1, b1, hx, q⟩ := h.ex
    refine ⟨_, PSs.nox (pss_cons (ps_fld (pv 0) (pe_cal C_P_signed_places (hr.mono (by decide)) (pa_cons (pv 1) (pa_cons (pv 2) pa_nil))) rfl)
      (pss_cons (ps_fld (pv 0) (pv 1) rfl)
      (pss_cons (ps_fld (pv 0) (pv 2) rfl)
      (pss_cons (ps_fld (pv 0) (pe_cal C_P_product_of_primes (hr.mono (by decide)) (pa_cons (pe_fld (pv 0) rfl) pa_nil)) rfl)
      (pss_cons (ps_fld (pv 0) (pe_cmp (pc_eqI (pe_callB call_len_seq (by rfl) T.m_len (by decide +kernel) (pa_cons (pe_fld (pv 0) rfl) pa_nil)) pe_int) rfl) rfl)
      (pss_one (ps_fld (pv 0) (pe_cmpR op_in_seq pe_int (pe_fld (pv 0) rfl) (by rfl)) rfl))))))), ?_⟩
    refine ⟨_, rfl, _, rfl, ⟨a, b, rfl, a0, b0, a1, b1, fun l pl H1 hpl hll e1 hn hpl1 => ?_⟩⟩
    have hx1 := e1 _ _ hx
    have npx : pl ≠ x := fun z => by
      rw [z, hx] at hn
      cases hn
    refine ⟨_, rfl, x, CA, dx, _, rfl, hx1, R.own.cls, R.n1, by decide, ?_⟩
    refine ⟨_, rfl, _, rfl, x, CA, dx, _, rfl, upd_same, R.own.cls, R.n2, (by show 1 < 1000; decide), ?_⟩
    refine ⟨_, rfl, _, rfl, x, CA, dx, _, rfl, upd_same, R.own.cls, R.n3, (by show 2 < 1000; decide), ?_⟩
    refine ⟨_, rfl, x, CA, dx, _, .ref pl, rfl, upd_same, R.own.cls, R.n1, rfl, pl, l, rfl, by rw [upd_ne npx, upd_ne npx, upd_ne npx]; exact hpl1, hll, fun p hp => place_le hpl a0 b0 a1 b1 hp, ?_⟩
    refine ⟨_, rfl, x, CA, dx, _, rfl, upd_same, R.own.cls, R.n4, (by show 3 < 1000; decide), ?_⟩
    refine ⟨_, rfl, x, CA, dx, _, .ref pl, rfl, upd_same, R.own.cls, R.n1, rfl, pl, _, rfl, .inr (SqT.of (by rw [upd_ne npx, upd_ne npx, upd_ne npx, upd_ne npx]; exact hpl1)), _, _, rfl, rfl, ?_⟩
    refine ⟨_, rfl, x, CA, dx, _, rfl, upd_same, R.own.cls, R.n5, (by show 4 < 1000; decide), ?_⟩
    refine ⟨_, rfl, x, CA, dx, _, .ref pl, rfl, upd_same, R.own.cls, R.n1, rfl, pl, _, rfl, .inr (SqT.of (by rw [upd_ne npx, upd_ne npx, upd_ne npx, upd_ne npx, upd_ne npx]; exact hpl1)), rfl, all_flat _, ?_⟩
    refine ⟨_, rfl, x, CA, dx, _, rfl, upd_same, R.own.cls, R.n6, (by show 5 < 1000; decide), ?_⟩
    refine q _ (fun d o e n => ?_) ⟨⟨dx, pl, l, ?_, ?_, hpl, a0, b0, a1, b1⟩⟩
    · rw [upd_ne n, upd_ne n, upd_ne n, upd_ne n, upd_ne n, upd_ne n]
      exact e1 _ _ e
    · rw [upd_same, inV_ints]
      show some (HO.ins CA dx [("places", V.ref pl), ("a", V.int a), ("b", V.int b), ("discriminant", V.int (discOf l)), ("is_tables", V.bl (decide ((((l.map V.int).length : Nat) : Int) = 0))), ("is_definite", V.bl (decide ((0 : Int) ∈ l)))]) = _
      have e : decide ((((l.map V.int).length : Nat) : Int) = 0) = decide (l.length = 0) := by
        rw [List.length_map, Bool.eq_iff_iff, decide_eq_true_iff, decide_eq_true_iff]
        omega
      rw [e]
    · rw [upd_ne npx, upd_ne npx, upd_ne npx, upd_ne npx, upd_ne npx, upd_ne npx]
      exact hpl1
end
end Sf

namespace Sf
open PySem PySem.Spec PyProof.Rows L2
def gcd5 (a b c d e : Int) : Nat := (((a.natAbs.gcd b.natAbs).gcd c.natAbs).gcd d.natAbs).gcd e.natAbs
theorem gcd5_dvd (a b c d e : Int) : ((gcd5 a b c d e : Nat) : Int) ∣ a ∧ ((gcd5 a b c d e : Nat) : Int) ∣ b ∧ ((gcd5 a b c d e : Nat) : Int) ∣ c ∧ ((gcd5 a b c d e : Nat) : Int) ∣ d ∧ ((gcd5 a b c d e : Nat) : Int) ∣ e := by
  have h1 : gcd5 a b c d e ∣ (((a.natAbs.gcd b.natAbs).gcd c.natAbs).gcd d.natAbs) := Nat.gcd_dvd_left _ _
  have h2 := Nat.dvd_trans h1 (Nat.gcd_dvd_left _ _)
  have h3 := Nat.dvd_trans h2 (Nat.gcd_dvd_left _ _)
  have t : ∀ {g : Nat} {x : Int}, g ∣ x.natAbs → (g : Int) ∣ x := fun h => Int.natAbs_dvd_natAbs.mp h
  exact ⟨t (Nat.dvd_trans h3 (Nat.gcd_dvd_left _ _)), t (Nat.dvd_trans h3 (Nat.gcd_dvd_right _ _)), t (Nat.dvd_trans h2 (Nat.gcd_dvd_right _ _)), t (Nat.dvd_trans h1 (Nat.gcd_dvd_right _ _)), t (Nat.gcd_dvd_right _ _)⟩
/-- the entries and the bottom of a four -/
structure Q5 where
  w : Int
  x : Int
  y : Int
  z : Int
  d : Int
/-- the same four, in lowest terms -/
def Low5 (q r : Q5) : Prop := 0 < r.d ∧ q.w * r.d = r.w * q.d ∧ q.x * r.d = r.x * q.d ∧ q.y * r.d = r.y * q.d ∧ q.z * r.d = r.z * q.d ∧ gcd5 r.w r.x r.y r.z r.d = 1
def scl (q : Q5) (c : Int) : Q5 := ⟨q.w.fdiv c, q.x.fdiv c, q.y.fdiv c, q.z.fdiv c, q.d.fdiv c⟩
theorem low5_of {q : Q5} (hb : q.d ≠ 0) : ((gcd5 q.w q.x q.y q.z q.d : Nat) : Int) ≠ 0 ∧ Low5 q (scl q (if q.d < 0 then -((gcd5 q.w q.x q.y q.z q.d : Nat) : Int) else ((gcd5 q.w q.x q.y q.z q.d : Nat) : Int))) := by
  obtain ⟨w, x, y, z, d⟩ := q
  dsimp only at *
  have g0 : 0 < gcd5 w x y z d := Nat.gcd_pos_of_pos_right _ (by omega)
  obtain ⟨⟨w1, hw⟩, ⟨x1, hx⟩, ⟨y1, hy⟩, ⟨z1, hz⟩, ⟨d1, hd⟩⟩ := gcd5_dvd w x y z d
  refine ⟨by omega, ?_⟩
  have hc : gcd5 w1 x1 y1 z1 d1 = 1 := by
    have e : gcd5 w x y z d = gcd5 w x y z d * gcd5 w1 x1 y1 z1 d1 := by
      conv => lhs; unfold gcd5
      generalize hg : gcd5 w x y z d = g at *
      rw [hw, hx, hy, hz, hd, Int.natAbs_mul, Int.natAbs_mul, Int.natAbs_mul, Int.natAbs_mul, Int.natAbs_mul, Int.natAbs_natCast, Nat.gcd_mul_left, Nat.gcd_mul_left, Nat.gcd_mul_left, Nat.gcd_mul_left]
      rfl
    have : gcd5 w x y z d * 1 = gcd5 w x y z d * gcd5 w1 x1 y1 z1 d1 := by rw [Nat.mul_one]; exact e
    exact (Nat.eq_of_mul_eq_mul_left g0 this).symm
  generalize gcd5 w x y z d = g at *
  have gi : (0 : Int) < g := by omega
  by_cases c : d < 0
  · rw [if_pos c]
    have ng : ∀ {a b : Int}, a = (g : Int) * b → a.fdiv (-(g : Int)) = -b := fun {a b} e => by
      rw [show a = (-(g : Int)) * (-b) by rw [Int.neg_mul_neg]; exact e]
      exact Int.mul_fdiv_cancel_left _ (by omega)
    unfold scl Low5
    dsimp only
    rw [ng hw, ng hx, ng hy, ng hz, ng hd]
    refine ⟨?_, by rw [hw, hd]; grind, by rw [hx, hd]; grind, by rw [hy, hd]; grind, by rw [hz, hd]; grind, ?_⟩
    · by_cases v0 : 0 ≤ d1
      · have := Int.mul_nonneg (Int.le_of_lt gi) v0
        omega
      · omega
    · unfold gcd5 at hc ⊢
      rw [Int.natAbs_neg, Int.natAbs_neg, Int.natAbs_neg, Int.natAbs_neg, Int.natAbs_neg]
      exact hc
  · rw [if_neg c]
    have ng : ∀ {a b : Int}, a = (g : Int) * b → a.fdiv (g : Int) = b := fun {a b} e => by
      rw [e]
      exact Int.mul_fdiv_cancel_left _ (by omega)
    unfold scl Low5
    dsimp only
    rw [ng hw, ng hx, ng hy, ng hz, ng hd]
    refine ⟨?_, by rw [hw, hd]; grind, by rw [hx, hd]; grind, by rw [hy, hd]; grind, by rw [hz, hd]; grind, hc⟩
    by_cases v0 : d1 ≤ 0
    · have := Int.mul_nonneg (Int.le_of_lt gi) (show 0 ≤ -d1 by omega)
      rw [Int.mul_neg] at this
      omega
    · omega
def ents (q : Q5) : List V := [.int q.w, .int q.x, .int q.y, .int q.z]
section
variable {P : Program} {w : World} {K : PySem.W.Frag} {mg : Str → Option Value} {base : Heap} {f : Addr} {fd : FuncData} {CR CA CF : Addr}
structure LowEP (vs : List V) (H : Hp) (Q : VK) : Prop where
  ex : ∃ (e : Addr) (q : Q5), vs = [.ref e, .int q.d] ∧ H e = some (.tup (ents q)) ∧ q.d ≠ 0 ∧ q.d.natAbs < 2 ^ 8000 ∧ ∀ (r : Q5) (a b : Addr) (H' : Hp), Low5 q r → Same H H' → H a = none → H b = none → H' a = some (.tup [.ref b, .int r.d]) → H' b = some (.tup (ents r)) → Q (.ref a) H'
def spLowE : Sp := fun vs H Q _ => LowEP vs H Q
theorem ok_lowest_entries (F : FnD K "lowest_entries" "lowest_entries" s_P_lowest_entries f fd) (T : Glob mg) : FnOk P w K mg base CX0 1 f fd ["entries", "bottom"] spLowE := by
  refine F.ok sc_P_lowest_entries (fun vs H Q E h => ?_) (fun cdv A outer s H vs Q E hr h => ?_)
  · obtain ⟨e, q, rfl, _⟩ := h.ex; rfl
  · obtain ⟨e, q5, rfl, he, d0, db, q⟩ := h.ex
    refine ⟨_, PSs.nox (pss_cons (ps_asg (pv 0) (pg_tup (by rfl) (pgs_cons (pg_name (i := 2) sc_P_lowest_entries.nd rfl (Or.inl rfl)) (pgs_cons (pg_name (i := 3) sc_P_lowest_entries.nd rfl (Or.inl rfl)) (pgs_cons (pg_name (i := 4) sc_P_lowest_entries.nd rfl (Or.inl rfl)) (pgs_cons (pg_name (i := 5) sc_P_lowest_entries.nd rfl (Or.inl rfl)) pgs_nil))))))
      (pss_cons (ps_set (i := 6) sc_P_lowest_entries.nd rfl (Or.inl rfl) (pe_callGB cr_gcd5 (by rfl) T.m_gcd (pa_cons (pv 2) (pa_cons (pv 3) (pa_cons (pv 4) (pa_cons (pv 5) (pa_cons (pv 1) pa_nil)))))))
      (Evl.pss_cut (ps_if (pt_cmp (pc_lt (pv 1) pe_int)) (pss_one (ps_set (i := 6) sc_P_lowest_entries.nd rfl (Or.inl rfl) (pe_un un_neg (pv 6)))) pss_nil)
      (pss_one (ps_ret (pe_tup (pa_cons (pe_tup (pa_cons (pe_op op_fdivZ (pv 2) (pv 6)) (pa_cons (pe_op op_fdivZ (pv 3) (pv 6)) (pa_cons (pe_op op_fdivZ (pv 4) (pv 6)) (pa_cons (pe_op op_fdivZ (pv 5) (pv 6)) pa_nil))))) (pa_cons (pe_op op_fdivZ (pv 1) (pv 6)) pa_nil)))))))), ?_⟩
    obtain ⟨g0, hl⟩ := low5_of d0
    have gb : gcd5 q5.w q5.x q5.y q5.z q5.d < 2 ^ 8000 := Nat.lt_of_le_of_lt (Nat.le_of_dvd (by omega) (Nat.gcd_dvd_right _ _)) db
    refine ⟨_, rfl, e, _, rfl, .inl (.inl he), rfl, _, _, rfl, _, _, rfl, _, _, rfl, _, _, rfl, rfl, ?_⟩
    refine ⟨_, rfl, _, rfl, _, rfl, _, rfl, _, rfl, q5.w, q5.x, q5.y, q5.z, q5.d, rfl, ?_⟩
    have eg : ((((((q5.w.natAbs.gcd q5.x.natAbs).gcd q5.y.natAbs).gcd q5.z.natAbs).gcd q5.d.natAbs : Nat) : Int)) = ((gcd5 q5.w q5.x q5.y q5.z q5.d : Nat) : Int) := rfl
    rw [eg]
    generalize gcd5 q5.w q5.x q5.y q5.z q5.d = g at *
    refine ⟨fun σ' H' => σ' = [some (.ref e), some (.int q5.d), some (.int q5.w), some (.int q5.x), some (.int q5.y), some (.int q5.z), some (.int (if q5.d < 0 then -(g : Int) else (g : Int)))] ∧ H = H', ?_, ?_⟩
    · refine ⟨_, rfl, _, _, rfl, rfl, _, rfl, ifd (fun h => ?_) (fun h => ?_)⟩
      · rw [if_pos h]
        exact ⟨_, rfl, _, rfl, rfl, rfl⟩
      · rw [if_neg h]
        exact ⟨rfl, rfl⟩
    · rintro σ' _ ⟨rfl, rfl⟩
      have c0 : (if q5.d < 0 then -(g : Int) else (g : Int)) ≠ 0 := by split <;> omega
      have cb : (if q5.d < 0 then -(g : Int) else (g : Int)).natAbs < 2 ^ 8000 := by split <;> omega
      generalize (if q5.d < 0 then -(g : Int) else (g : Int)) = c at *
      have Z : ∀ i, CDivZ i c := fun i => CDivZ.of c0 cb
      refine ⟨_, rfl, _, rfl, _, _, rfl, rfl, Z _, _, rfl, _, rfl, _, _, rfl, rfl, Z _, _, rfl, _, rfl, _, _, rfl, rfl, Z _, _, rfl, _, rfl, _, _, rfl, rfl, Z _, (by show 4 ≤ sizeLine; decide), fun b hb => ?_⟩
      refine ⟨_, rfl, _, rfl, _, _, rfl, rfl, Z _, (by show 2 ≤ sizeLine; decide), fun a ha => ?_⟩
      have nab : b ≠ a := ne_of_none (H := upd H b _) upd_same ha
      have haH : H a = none := (same_upd hb).free ha
      exact q (scl q5 c) a b _ hl ((same_upd hb).trans (same_upd ha)) haH hb upd_same (by rw [upd_ne nab, upd_same]; rfl)
end
end Sf

namespace Sf
open PySem PySem.Spec PyProof.Rows L2
section
variable {P : Program} {w : World} {K : PySem.W.Frag} {mg : Str → Option Value} {base : Heap} {f : Addr} {fd : FuncData} {CR CA CF : Addr}
def spIsAlg (CA : Addr) : Sp := fun vs H Q _ => ∃ x a b, vs = [.ref x] ∧ AlgAt CA H x a b ∧ Q .non H
theorem ok_check_algebra (F : FnD K "check_algebra" "check_algebra" s_P_check_algebra f fd) (T : Glob mg) (R : AlgK K CA) (G_Algebra : mg "Algebra" = some (.ref CA)) : FnOk P w K mg base CX0 1 f fd ["value"] (spIsAlg CA) := by
  refine F.ok sc_P_check_algebra (fun vs H Q E h => ?_) (fun cdv A outer s H vs Q E hr h => ?_)
  · obtain ⟨x, a, b, rfl, _⟩ := h; rfl
  · obtain ⟨x, a, b, rfl, hx, q⟩ := h
    refine ⟨_, PSs.nox (pss_one (ps_if (pt_not (pt_val (pe_callB call_isi (by rfl) T.m_isinstance (by decide +kernel) (pa_cons (pv 0) (pa_cons (pe_glob (v := .ref _) rfl G_Algebra rfl) pa_nil))))) (pss_one ps_never) pss_nil)), ?_⟩
    exact ⟨_, rfl, _, .ref CA, _, _, true, rfl, .own CA, R.own.ty hx.ins, R.own.kk, _, rfl, q⟩
/-- w w - a x x - b y y + a b z z -/
def normT (a b : Int) (q : Q5) : Int := q.w * q.w - a * q.x * q.x - b * q.y * q.y + a * b * q.z * q.z
def Bd (n : Nat) (q : Q5) : Prop := q.w.natAbs < 2 ^ n ∧ q.x.natAbs < 2 ^ n ∧ q.y.natAbs < 2 ^ n ∧ q.z.natAbs < 2 ^ n ∧ q.d.natAbs < 2 ^ n
structure NormP (CR CA : Addr) (vs : List V) (H : Hp) (Q : VK) : Prop where
  ex : ∃ (al e : Addr) (a b : Int) (q : Q5), vs = [.ref al, .ref e, .int q.d] ∧ AlgAt CA H al a b ∧ H e = some (.tup (ents q)) ∧ q.d ≠ 0 ∧ Bd 3000 q ∧ ∀ (t' b' : Int) (x : Addr) (H' : Hp), LowT (normT a b q) (q.d * q.d) t' b' → H x = none → Same H H' → RatioAt CR H' x t' b' → Q (.ref x) H'
def spNorm (CR CA : Addr) : Sp := fun vs H Q _ => NormP CR CA vs H Q
theorem wmul {i j : Int} {m n : Nat} (h1 : i.natAbs < 2 ^ m) (h2 : j.natAbs < 2 ^ n) (m0 : 0 < m) (n0 : 0 < n) (hs : m + n ≤ 900000) : CMulW i j := by
  unfold CMulW
  have e1 : i.natAbs.log2 < m := PySem.Flt.log2_lt_of m0 h1
  have e2 : j.natAbs.log2 < n := PySem.Flt.log2_lt_of n0 h2
  omega
theorem ok_norm_of (F : FnD K "norm_of" "norm_of" s_P_norm_of f fd) (R : AlgK K CA) (C_P_made_ratio : Cal P w K mg base 5 "made_ratio" ["top", "bottom"] (spMadeRatio CR)) : FnOk P w K mg base CX0 6 f fd ["algebra", "entries", "bottom"] (spNorm CR CA) := by
  refine F.ok sc_P_norm_of (fun vs H Q E h => ?_) (fun cdv A outer s H vs Q E hr h => ?_)
  · obtain ⟨al, e, a, b, q, rfl, _⟩ := h.ex; rfl
  · obtain ⟨al, e, a, b, q5, rfl, hal, he, d0, ⟨b1, b2, b3, b4, b5⟩, q⟩ := h.ex
    refine ⟨_, PSs.nox (pss_cons (ps_asg (pv 1) (pg_tup (by rfl) (pgs_cons (pg_name (i := 3) sc_P_norm_of.nd rfl (Or.inl rfl)) (pgs_cons (pg_name (i := 4) sc_P_norm_of.nd rfl (Or.inl rfl)) (pgs_cons (pg_name (i := 5) sc_P_norm_of.nd rfl (Or.inl rfl)) (pgs_cons (pg_name (i := 6) sc_P_norm_of.nd rfl (Or.inl rfl)) pgs_nil))))))
      (pss_cons (ps_set (i := 7) sc_P_norm_of.nd rfl (Or.inl rfl) (pe_op op_add (pe_op op_sub (pe_op op_sub (pe_op op_mulW (pv 3) (pv 3)) (pe_op op_mulW (pe_op op_mulW (pe_fld (pv 0) rfl) (pv 4)) (pv 4))) (pe_op op_mulW (pe_op op_mulW (pe_fld (pv 0) rfl) (pv 5)) (pv 5))) (pe_op op_mulW (pe_op op_mulW (pe_op op_mulW (pe_fld (pv 0) rfl) (pe_fld (pv 0) rfl)) (pv 6)) (pv 6))))
      (pss_one (ps_ret (pe_cal C_P_made_ratio (hr.mono (by decide)) (pa_cons (pv 7) (pa_cons (pe_op op_mulW (pv 2) (pv 2)) pa_nil))))))), ?_⟩
    obtain ⟨dx, pl, l, hx, _, _, a0, b0, ab, bb⟩ := hal.ex
    have a3 : a.natAbs < 2 ^ 30 := by omega
    have b3' : b.natAbs < 2 ^ 30 := by omega
    have l2 : ∀ {i j : Int} {m n : Nat}, i.natAbs < 2 ^ m → j.natAbs < 2 ^ n → (i * j).natAbs < 2 ^ (m + n) := fun h1 h2 => wide_lt h1 h2
    refine ⟨_, rfl, e, _, rfl, .inl (.inl he), rfl, _, _, rfl, _, _, rfl, _, _, rfl, _, _, rfl, rfl, ?_⟩
    refine ⟨_, rfl, _, rfl, _, _, rfl, rfl, wmul b1 b1 (by decide) (by decide) (by decide), _, rfl, al, CA, dx, _, .int a, rfl, hx, R.own.cls, R.n2, rfl, _, rfl, _, _, rfl, rfl, wmul a3 b2 (by decide) (by decide) (by decide), _, rfl, _, _, rfl, rfl, wmul (l2 a3 b2) b2 (by decide) (by decide) (by decide), _, _, rfl, rfl, ?_⟩
    refine ⟨_, rfl, al, CA, dx, _, .int b, rfl, hx, R.own.cls, R.n3, rfl, _, rfl, _, _, rfl, rfl, wmul b3' b3 (by decide) (by decide) (by decide), _, rfl, _, _, rfl, rfl, wmul (l2 b3' b3) b3 (by decide) (by decide) (by decide), _, _, rfl, rfl, ?_⟩
    refine ⟨_, rfl, al, CA, dx, _, .int a, rfl, hx, R.own.cls, R.n2, rfl, _, rfl, al, CA, dx, _, .int b, rfl, hx, R.own.cls, R.n3, rfl, _, _, rfl, rfl, wmul a3 b3' (by decide) (by decide) (by decide), _, rfl, _, _, rfl, rfl, wmul (l2 a3 b3') b4 (by decide) (by decide) (by decide), _, rfl, _, _, rfl, rfl, wmul (l2 (l2 a3 b3') b4) b4 (by decide) (by decide) (by decide), _, _, rfl, rfl, ?_⟩
    refine ⟨_, rfl, _, rfl, _, rfl, _, _, rfl, rfl, wmul b5 b5 (by decide) (by decide) (by decide), ?_⟩
    refine ⟨_, _, rfl, Int.mul_ne_zero d0 d0, ?_, q⟩
    exact Nat.lt_of_lt_of_le (l2 b5 b5) (Nat.pow_le_pow_right (by decide) (by decide))
end
end Sf

namespace Sf
open PySem PySem.Spec PyProof.Rows L2
theorem cut_tail4 (a b c d : V) : cutV [a, b, c, d] (some 1) none = [b, c, d] := by
  unfold cutV
  show List.take (HT.sIx 4 4 none - HT.sIx 4 0 (some 1)) (List.drop (HT.sIx 4 0 (some 1)) [a, b, c, d]) = _
  rw [show HT.sIx 4 0 (some 1) = min 1 4 from HT.sIx_nat 4 0 1, HT.sIx_none]
  rfl
theorem eqv_tups' (a b : List Int) : PyData.eqv (.tuple (a.map PyData.int)) (.tuple (b.map PyData.int)) = decide (a = b) := by
  rw [← eqv_ints a b]
  unfold PyData.eqv
  rfl
section
variable {P : Program} {w : World} {K : PySem.W.Frag} {mg : Str → Option Value} {base : Heap} {f : Addr} {fd : FuncData} {CR CA CF : Addr}
def Pass60 (q : Q5) : Prop := q.w.natAbs < 10 ^ 60 ∧ q.x.natAbs < 10 ^ 60 ∧ q.y.natAbs < 10 ^ 60 ∧ q.z.natAbs < 10 ^ 60 ∧ q.d.natAbs < 10 ^ 60
def spPassE : Sp := fun vs H Q _ => ∃ (e : Addr) (q : Q5), vs = [.ref e] ∧ H e = some (.tup (ents q)) ∧ Pass60 q ∧ ∀ H', Same H H' → Q (.bl true) H'
theorem ok_is_passed_entries (F : FnD K "is_passed_entries" "is_passed_entries" s_P_is_passed_entries f fd) (T : Glob mg) (C_P_is_passed : Cal P w K mg base 2 "is_passed" ["value"] (spPassed K)) : FnOk P w K mg base CX0 3 f fd ["value"] spPassE := by
  refine F.ok sc_P_is_passed_entries (fun vs H Q E h => ?_) (fun cdv A outer s H vs Q E hr h => ?_)
  · obtain ⟨e, q, rfl, _⟩ := h; rfl
  · obtain ⟨e, q5, rfl, he, ⟨p1, p2, p3, p4, _⟩, q⟩ := h
    refine ⟨_, PSs.nox (pss_one (ps_ret (pe_and (pe_callB call_isi (by rfl) T.m_isinstance (by decide +kernel) (pa_cons (pv 0) (pa_cons (pe_bltn (v := .ty "tuple") (u := .type "tuple") (by rfl) T.m_tuple (by decide +kernel) rfl) pa_nil))) (pe_and (pe_cmp (pc_eqI (pe_callB call_len_seq (by rfl) T.m_len (by decide +kernel) (pa_cons (pv 0) pa_nil)) pe_int) rfl) (pe_one (pe_callB (cr_all rfl) (by rfl) T.m_all (by decide +kernel) (pa_cons (pe_lc rfl sc_P_is_passed_entries.nd (own := [("part", 1)]) (pi_tup (pv 0)) (blkOk_by (N := ["value", "part"]) (sc := defScope s_P_is_passed_entries) (by decide +kernel)) (fun _ _ _ _ _ => pg_name (i := 1) sc_P_is_passed_entries.nd rfl (Or.inl rfl)) (fun _ _ _ _ _ => pts_nil) (fun _ _ _ _ _ => (pe_cal C_P_is_passed (hr.mono (by decide)) (pa_cons (pv 1) pa_nil)))) pa_nil))))))), ?_⟩
    refine ⟨_, rfl, _, .ty "tuple", _, _, true, rfl, .ty "tuple", .base (.tup he), (by show kitB "tuple" "tuple" = some true; decide +kernel), _, rfl, ?_⟩
    refine ⟨_, rfl, e, _, rfl, .inr (SqT.of he), _, _, rfl, rfl, _, rfl, ?_⟩
    have hall : ∀ i v, (ents q5)[i]? = some v → ∃ n : Int, v = V.int n ∧ n.natAbs < 10 ^ 60 := fun i v h => by
      have hm := List.mem_of_getElem? h
      have cases : v = V.int q5.w ∨ v = V.int q5.x ∨ v = V.int q5.y ∨ v = V.int q5.z := by simpa [ents] using hm
      rcases cases with c | c | c | c
      · exact ⟨_, c, p1⟩
      · exact ⟨_, c, p2⟩
      · exact ⟨_, c, p3⟩
      · exact ⟨_, c, p4⟩
    refine ⟨_, rfl, e, rfl, ⟨_, SqT.of he⟩, fun D hD => lc_tup (K := K) (a := e) (xs := ents q5) (fun i H' => Same H H' ∧ H' D = some (.lst ((List.replicate i true).map V.bl))) ⟨same_upd hD, upd_same⟩ (fun i H' _ hp => SqT.of (hp.1 _ _ he)) (fun i v H' hv hp => ?_) (fun H' hp => ?_)⟩
    · obtain ⟨e1, hd⟩ := hp
      obtain ⟨n, rfl, hn⟩ := hall i v hv
      refine ⟨rfl, ?_⟩
      refine ⟨_, rfl, .int n, true, rfl, .int n, ⟨fun _ => ⟨n, rfl⟩, fun _ => rfl⟩, fun r hr2 => ?_⟩
      have e : r = true := hr2.mpr ⟨n, rfl, hn⟩
      subst e
      have il : i < 4 := (List.getElem?_eq_some_iff.mp hv).1
      refine ⟨_, hd, ?_, ?_, ?_⟩
      · rw [List.length_map, List.length_replicate]
        exact Nat.lt_of_lt_of_le il (by decide)
      · intro b o eb
        rw [upd_ne (ne_of_none eb hD)]
        exact e1 _ _ eb
      · rw [upd_same, List.replicate_succ', List.map_append]; rfl
    · obtain ⟨e1, hd⟩ := hp
      exact ⟨D, _, rfl, SqL.of hd, q _ e1⟩
/-- a four: its algebra, its entries and its bottom in lowest terms -/
structure FourAt (CF CR : Addr) (H : Hp) (x al : Addr) (a b : Int) (q : Q5) : Prop where
  ex : ∃ (dx e tr nm : Addr) (t1 t2 n1 n2 : Int), H x = some (.ins CF dx [("algebra", .ref al), ("entries", .ref e), ("bottom", .int q.d), ("trace", .ref tr), ("norm", .ref nm), ("is_ratio", .bl (decide (q.x = 0 ∧ q.y = 0 ∧ q.z = 0)))]) ∧
    H e = some (.tup (ents q)) ∧ RatioAt CR H tr t1 t2 ∧ LowT (2 * q.w) q.d t1 t2 ∧ RatioAt CR H nm n1 n2 ∧ LowT (normT a b q) (q.d * q.d) n1 n2
  pos : 0 < q.d
  low : gcd5 q.w q.x q.y q.z q.d = 1
theorem FourAt.same {H H' : Hp} {x al : Addr} {a b : Int} {q : Q5} (h : FourAt CF CR H x al a b q) (s : Same H H') : FourAt CF CR H' x al a b q := by
  obtain ⟨dx, e, tr, nm, t1, t2, n1, n2, h1, h2, h3, h4, h5, h6⟩ := h.ex
  exact ⟨⟨dx, e, tr, nm, t1, t2, n1, n2, s _ _ h1, s _ _ h2, h3.same s, h4, h5.same s, h6⟩, h.pos, h.low⟩
theorem FourAt.ins {H : Hp} {x al : Addr} {a b : Int} {q : Q5} (h : FourAt CF CR H x al a b q) : Ins H x CF := by
  obtain ⟨dx, e, tr, nm, t1, t2, n1, n2, h1, _⟩ := h.ex
  exact ⟨dx, _, h1⟩
structure FourK (K : PySem.W.Frag) (CF : Addr) : Prop where
  own : OwnK K CF
  n1 : NoAttr K CF "algebra"
  n2 : NoAttr K CF "entries"
  n3 : NoAttr K CF "bottom"
  n4 : NoAttr K CF "trace"
  n5 : NoAttr K CF "norm"
  n6 : NoAttr K CF "is_ratio"
structure FourInitP (CF CR CA : Addr) (vs : List V) (H : Hp) (Q : VK) : Prop where
  ex : ∃ (x dx al e : Addr) (a b : Int) (q : Q5), vs = [.ref x, .ref al, .ref e, .int q.d] ∧ AlgAt CA H al a b ∧ al ≠ x ∧ H e = some (.tup (ents q)) ∧ q.d ≠ 0 ∧ Pass60 q ∧ Bd 3000 q ∧ H x = some (.ins CF dx []) ∧ (∀ r, Low5 q r → Bd 3000 r) ∧
    ∀ (r : Q5) (H' : Hp), Low5 q r → Keep x H H' → FourAt CF CR H' x al a b r → Q .non H'
def spFourInit (CF CR CA : Addr) : Sp := fun vs H Q _ => FourInitP CF CR CA vs H Q
set_option maxHeartbeats 8000000 in
theorem ok_Four_init (F : FnDD K "__init__" "Four.__init__" s_P_Four___init__ [.int 1] f fd) (T : Glob mg) (R : FourK K CF) (C_P_check_algebra : Cal P w K mg base 1 "check_algebra" ["value"] (spIsAlg CA)) (C_P_is_passed_entries : Cal P w K mg base 3 "is_passed_entries" ["value"] spPassE)
    (C_P_is_passed : Cal P w K mg base 2 "is_passed" ["value"] (spPassed K)) (C_P_lowest_entries : Cal P w K mg base 1 "lowest_entries" ["entries", "bottom"] spLowE) (C_P_made_ratio : Cal P w K mg base 5 "made_ratio" ["top", "bottom"] (spMadeRatio CR)) (C_P_norm_of : Cal P w K mg base 6 "norm_of" ["algebra", "entries", "bottom"] (spNorm CR CA)) :
    FnOk P w K mg base CX0 7 f fd ["self", "algebra", "entries", "bottom"] (spFourInit CF CR CA) := by
  refine F.ok sc_P_Four___init__ (fun vs H Q E h => ?_) (fun cdv A outer s H vs Q E hr h => ?_)
  · obtain ⟨x, dx, al, e, a, b, q, rfl, _⟩ := h.ex; rfl
  · obtain ⟨x, dx, al, e, a, b, q5, rfl, hal, nax, he, d0, hp, bd, hx, hlow, q⟩ := h.ex
    refine ⟨_, PSs.nox (pss_cons (ps_expr (pe_cal C_P_check_algebra (hr.mono (by decide)) (pa_cons (pv 1) pa_nil)))
      (pss_cons (ps_if (pt_not (pt_val (pe_cal C_P_is_passed_entries (hr.mono (by decide)) (pa_cons (pv 2) pa_nil)))) (pss_one ps_never) pss_nil)
      (pss_cons (ps_if (PW.pt (pw_or (pt_not (pt_val (pe_cal C_P_is_passed (hr.mono (by decide)) (pa_cons (pv 3) pa_nil)))) (pw_or1 (pt_cmp (pc_eqI (pv 3) pe_int))))) (pss_one ps_never) pss_nil)
      (pss_cons (ps_fld (pv 0) (pv 1) rfl)
      (pss_cons (ps_asg (pe_cal C_P_lowest_entries (hr.mono (by decide)) (pa_cons (pv 2) (pa_cons (pv 3) pa_nil))) (pg_tup (by rfl) (pgs_cons (pg_attr (pv 0)) (pgs_cons (pg_attr (pv 0)) pgs_nil))))
      (pss_cons (ps_fld (pv 0) (pe_cal C_P_made_ratio (hr.mono (by decide)) (pa_cons (pe_op op_mulW pe_int (pe_ix ix_tup (pe_fld (pv 0) rfl) pe_int (fun _ _ => rfl))) (pa_cons (pe_fld (pv 0) rfl) pa_nil))) rfl)
      (pss_cons (ps_fld (pv 0) (pe_cal C_P_norm_of (hr.mono (by decide)) (pa_cons (pv 1) (pa_cons (pe_fld (pv 0) rfl) (pa_cons (pe_fld (pv 0) rfl) pa_nil)))) rfl)
      (pss_one (ps_fld (pv 0) (pe_cmpR (op_eqD hr.units) (pe_slice sl_tup (pe_fld (pv 0) rfl) (po_some pe_int) po_none) (pe_tup (pa_cons pe_int (pa_cons pe_int (pa_cons pe_int pa_nil)))) (nomark _)) rfl))))))))), ?_⟩
    refine ⟨_, rfl, al, a, b, rfl, hal, ?_⟩
    refine ⟨_, rfl, e, q5, rfl, he, hp, fun H1 e1 => ⟨_, rfl, ?_⟩⟩
    refine ⟨_, rfl, .int q5.d, true, rfl, .int _, ⟨fun _ => ⟨_, rfl⟩, fun _ => rfl⟩, fun r hr2 => ⟨_, rfl, ?_⟩⟩
    have er : r = true := hr2.mpr ⟨_, rfl, hp.2.2.2.2⟩
    subst er
    refine ⟨_, rfl, _, _, rfl, rfl, _, rfl, ifd (fun h => absurd h d0) (fun _ => ?_)⟩
    have hx1 := e1 _ _ hx
    have nex : e ≠ x := fun z => by rw [z, hx] at he; cases he
    have m0 : (0 : Int) < 1 := by decide
    refine ⟨_, rfl, _, rfl, x, CF, dx, _, rfl, hx1, R.own.cls, R.n1, by decide, ?_⟩
    refine ⟨_, rfl, _, rfl, ⟨e, q5, rfl, by rw [upd_ne nex]; exact e1 _ _ he, d0, Nat.lt_of_lt_of_le bd.2.2.2.2 (Nat.pow_le_pow_right (by decide) (by decide)), fun r5 c u H2 hl e2 hc hu hc2 hu2 => ?_⟩⟩
    have rp := hl.1
    have rb := hlow r5 hl
    have hx2 := e2 _ _ upd_same
    have ncx : c ≠ x := fun z => by rw [z, upd_same] at hc; cases hc
    have nux : u ≠ x := fun z => by rw [z, upd_same] at hu; cases hu
    have k2 : Keep x H H2 := ((Keep.same e1).trans Keep.upd).trans (Keep.same e2)
    -- the algebra stays while the object at x is filled
    have ka : ∀ {H' : Hp}, Keep x H H' → AlgAt CA H' al a b := fun {H'} k => by
      obtain ⟨d1, pl, l, g1, g2, g3⟩ := hal.ex
      refine ⟨d1, pl, l, k _ _ g1 nax, k _ _ g2 (fun z => ?_), g3⟩
      rw [z, hx] at g2
      cases g2
    refine ⟨c, _, rfl, .inl (.inl hc2), rfl, _, _, rfl, _, rfl, x, CF, dx, _, rfl, hx2, R.own.cls, R.n2, (by show 1 < 1000; decide), ?_⟩
    refine ⟨_, _, rfl, _, rfl, x, CF, dx, _, rfl, upd_same, R.own.cls, R.n3, (by show 2 < 1000; decide), rfl, ?_⟩
    have u3 : (upd (upd H2 x (.ins CF dx [("algebra", .ref al), ("entries", .ref u)])) x (.ins CF dx [("algebra", .ref al), ("entries", .ref u), ("bottom", .int r5.d)])) u = some (.tup (ents r5)) := by
      rw [upd_ne nux, upd_ne nux]
      exact hu2
    refine ⟨_, rfl, x, CF, dx, _, .ref u, rfl, upd_same, R.own.cls, R.n2, rfl, u, _, 0, .int r5.w, rfl, rfl, SqT.of u3, rfl, _, _, rfl, rfl, CMulW.of (lt3000s (by decide) (by decide)) rb.1, ?_⟩
    refine ⟨_, rfl, x, CF, dx, _, .int r5.d, rfl, upd_same, R.own.cls, R.n3, rfl, ?_⟩
    refine ⟨_, _, rfl, by omega, Nat.lt_of_lt_of_le rb.2.2.2.2 (Nat.pow_le_pow_right (by decide) (by decide)), fun t1 t2 tr H3 hlt htr e3 hR => ?_⟩
    have hx3 := e3 _ _ upd_same
    have ntx : tr ≠ x := fun z => by rw [z, upd_same] at htr; cases htr
    have k3 : Keep x H2 H3 := (Keep.upd.trans Keep.upd).trans (Keep.same e3)
    refine ⟨_, rfl, x, CF, dx, _, rfl, hx3, R.own.cls, R.n4, (by show 3 < 1000; decide), ?_⟩
    have k4 : Keep x H2 (upd H3 x (.ins CF dx [("algebra", .ref al), ("entries", .ref u), ("bottom", .int r5.d), ("trace", .ref tr)])) := k3.trans Keep.upd
    refine ⟨_, rfl, _, rfl, x, CF, dx, _, .ref u, rfl, upd_same, R.own.cls, R.n2, rfl, _, rfl, x, CF, dx, _, .int r5.d, rfl, upd_same, R.own.cls, R.n3, rfl, ?_⟩
    refine ⟨⟨al, u, a, b, r5, rfl, ka (k2.trans k4), k4 _ _ hu2 nux, by omega, rb, fun n1 n2 nm H4 hln hnm e4 hN => ?_⟩⟩
    have hx4 := e4 _ _ upd_same
    have nnx : nm ≠ x := fun z => by rw [z, upd_same] at hnm; cases hnm
    refine ⟨_, rfl, x, CF, dx, _, rfl, hx4, R.own.cls, R.n5, (by show 4 < 1000; decide), ?_⟩
    have k5 : Keep x H2 (upd H4 x (.ins CF dx [("algebra", .ref al), ("entries", .ref u), ("bottom", .int r5.d), ("trace", .ref tr), ("norm", .ref nm)])) := (k4.trans (Keep.same e4)).trans Keep.upd
    refine ⟨_, rfl, x, CF, dx, _, .ref u, rfl, upd_same, R.own.cls, R.n2, rfl, ?_⟩
    refine ⟨1, rfl, u, _, rfl, SqT.of (k5 _ _ hu2 nux), ?hc, fun p hp => ⟨(by show 3 ≤ sizeLine; decide), fun p2 hp2 => ?_⟩⟩
    case hc =>
      show ¬ (HT.sIx 4 0 (some 1) = 0 ∧ HT.sIx 4 4 none = 4)
      rw [show HT.sIx 4 0 (some 1) = min 1 4 from HT.sIx_nat 4 0 1]
      decide
    have npx : p ≠ x := fun z => by rw [z, upd_same] at hp; cases hp
    have np2x : p2 ≠ x := fun z => by rw [z, upd_ne npx.symm, upd_same] at hp2; cases hp2
    have npp : p ≠ p2 := ne_of_none upd_same hp2
    refine ⟨.tuple ([r5.x, r5.y, r5.z].map PyData.int), .tuple ([0, 0, 0].map PyData.int), dp_tup (ns := [r5.x, r5.y, r5.z]) (SqT.of ?_), dp_tup (ns := [0, 0, 0]) (SqT.of upd_same), shp_tup _, shp_tup _, ?_⟩
    · rw [upd_ne npp, upd_same]
      show some (HO.tup (cutV [V.int r5.w, V.int r5.x, V.int r5.y, V.int r5.z] (some 1) none)) = _
      rw [cut_tail4]
      rfl
    rw [eqv_tups']
    refine ⟨_, rfl, x, CF, dx, _, rfl, by rw [upd_ne np2x.symm, upd_ne npx.symm, upd_same], R.own.cls, R.n6, (by show 5 < 1000; decide), ?_⟩
    have k6 : Keep x H2 (upd (upd (upd (upd H4 x (.ins CF dx [("algebra", .ref al), ("entries", .ref u), ("bottom", .int r5.d), ("trace", .ref tr), ("norm", .ref nm)])) p (.tup (cutV (ents r5) (some 1) none))) p2 (.tup [.int 0, .int 0, .int 0])) x (.ins CF dx [("algebra", .ref al), ("entries", .ref u), ("bottom", .int r5.d), ("trace", .ref tr), ("norm", .ref nm), ("is_ratio", .bl (decide ([r5.x, r5.y, r5.z] = [0, 0, 0])))])) :=
      ((k5.trans (Keep.new hp)).trans (Keep.new hp2)).trans Keep.upd
    have k63 : Keep x H3 (upd (upd (upd (upd H4 x (.ins CF dx [("algebra", .ref al), ("entries", .ref u), ("bottom", .int r5.d), ("trace", .ref tr), ("norm", .ref nm)])) p (.tup (cutV (ents r5) (some 1) none))) p2 (.tup [.int 0, .int 0, .int 0])) x (.ins CF dx [("algebra", .ref al), ("entries", .ref u), ("bottom", .int r5.d), ("trace", .ref tr), ("norm", .ref nm), ("is_ratio", .bl (decide ([r5.x, r5.y, r5.z] = [0, 0, 0])))])) :=
      ((((Keep.upd.trans (Keep.same e4)).trans Keep.upd).trans (Keep.new hp)).trans (Keep.new hp2)).trans Keep.upd
    have k64 : Keep x H4 (upd (upd (upd (upd H4 x (.ins CF dx [("algebra", .ref al), ("entries", .ref u), ("bottom", .int r5.d), ("trace", .ref tr), ("norm", .ref nm)])) p (.tup (cutV (ents r5) (some 1) none))) p2 (.tup [.int 0, .int 0, .int 0])) x (.ins CF dx [("algebra", .ref al), ("entries", .ref u), ("bottom", .int r5.d), ("trace", .ref tr), ("norm", .ref nm), ("is_ratio", .bl (decide ([r5.x, r5.y, r5.z] = [0, 0, 0])))])) :=
      ((Keep.upd.trans (Keep.new hp)).trans (Keep.new hp2)).trans Keep.upd
    obtain ⟨dt, hR⟩ := hR
    obtain ⟨dn, hN⟩ := hN
    refine q r5 _ hl (k2.trans k6) ⟨⟨dx, u, tr, nm, t1, t2, n1, n2, ?_, k6 _ _ hu2 nux, ⟨dt, k63 _ _ hR ntx⟩, hlt, ⟨dn, k64 _ _ hN nnx⟩, hln⟩, hl.1, hl.2.2.2.2.2⟩
    rw [upd_same]
    show some (HO.ins CF dx [("algebra", V.ref al), ("entries", V.ref u), ("bottom", V.int r5.d), ("trace", V.ref tr), ("norm", V.ref nm), ("is_ratio", V.bl (decide ([r5.x, r5.y, r5.z] = [0, 0, 0])))]) = _
    have e : decide ([r5.x, r5.y, r5.z] = [0, 0, 0]) = decide (r5.x = 0 ∧ r5.y = 0 ∧ r5.z = 0) := by
      rw [Bool.eq_iff_iff, decide_eq_true_iff, decide_eq_true_iff]
      simp
    rw [e]
end
end Sf

namespace Sf
open PySem PySem.Spec PyProof.Rows L2
section
variable {P : Program} {w : World} {K : PySem.W.Frag} {mg : Str → Option Value} {base : Heap} {f : Addr} {fd : FuncData} {CR CA CF : Addr}
structure MadeFourP (CF CR CA : Addr) (vs : List V) (H : Hp) (Q : VK) : Prop where
  ex : ∃ (al e : Addr) (a b : Int) (q : Q5), vs = [.ref al, .ref e, .int q.d] ∧ AlgAt CA H al a b ∧ H e = some (.tup (ents q)) ∧ q.d ≠ 0 ∧ q.d.natAbs < 2 ^ 8000 ∧ (∀ r, Low5 q r → Bd 3000 r) ∧
    ∀ (r : Q5) (x : Addr) (H' : Hp), Low5 q r → H x = none → Same H H' → FourAt CF CR H' x al a b r → Q (.ref x) H'
def spMadeFour (CF CR CA : Addr) : Sp := fun vs H Q _ => MadeFourP CF CR CA vs H Q
theorem zero_low {r : Q5} (h : Low5 ⟨0, 0, 0, 0, 1⟩ r) : r = ⟨0, 0, 0, 0, 1⟩ := by
  obtain ⟨h0, h1, h2, h3, h4, h5⟩ := h
  obtain ⟨w, x, y, z, d⟩ := r
  dsimp only at *
  have e1 : w = 0 := by omega
  have e2 : x = 0 := by omega
  have e3 : y = 0 := by omega
  have e4 : z = 0 := by omega
  subst e1 e2 e3 e4
  have e5 : d.natAbs = 1 := by
    unfold gcd5 at h5
    simpa using h5
  have e6 : d = 1 := by omega
  rw [e6]
set_option maxHeartbeats 8000000 in
theorem ok_made_four (F : FnD K "made_four" "made_four" s_P_made_four f fd) (R : FourK K CF) (C_P_lowest_entries : Cal P w K mg base 1 "lowest_entries" ["entries", "bottom"] spLowE) (N_Four_2 : CalC P w K mg base 7 "Four" CF ["self", "algebra", "entries", "bottom"] [.int 1] (spFourInit CF CR CA))
    (C_P_made_ratio : Cal P w K mg base 5 "made_ratio" ["top", "bottom"] (spMadeRatio CR)) (C_P_norm_of : Cal P w K mg base 6 "norm_of" ["algebra", "entries", "bottom"] (spNorm CR CA)) :
    FnOk P w K mg base CX0 9 f fd ["algebra", "entries", "bottom"] (spMadeFour CF CR CA) := by
  refine F.ok sc_P_made_four (fun vs H Q E h => ?_) (fun cdv A outer s H vs Q E hr h => ?_)
  · obtain ⟨al, e, a, b, q, rfl, _⟩ := h.ex; rfl
  · obtain ⟨al, e, a, b, q5, rfl, hal, he, d0, db, hlow, q⟩ := h.ex
    refine ⟨_, PSs.nox (pss_cons (ps_set (i := 3) sc_P_made_four.nd rfl (Or.inl rfl) (pe_cal C_P_lowest_entries (hr.mono (by decide)) (pa_cons (pv 1) (pa_cons (pv 2) pa_nil))))
      (pss_cons (ps_set (i := 4) sc_P_made_four.nd rfl (Or.inl rfl) (pe_new N_Four_2 (hr.mono (by decide)) (pa_cons (pv 0) (pa_cons (pe_tup (pa_cons pe_int (pa_cons pe_int (pa_cons pe_int (pa_cons pe_int pa_nil))))) pa_nil))))
      (pss_cons (ps_fld (pv 4) (pe_ix ix_tup (pv 3) pe_int (fun _ _ => rfl)) rfl)
      (pss_cons (ps_fld (pv 4) (pe_ix ix_tup (pv 3) pe_int (fun _ _ => rfl)) rfl)
      (pss_cons (ps_fld (pv 4) (pe_cal C_P_made_ratio (hr.mono (by decide)) (pa_cons (pe_op op_mulW pe_int (pe_ix ix_tup (pe_ix ix_tup (pv 3) pe_int (fun _ _ => rfl)) pe_int (fun _ _ => rfl))) (pa_cons (pe_ix ix_tup (pv 3) pe_int (fun _ _ => rfl)) pa_nil))) rfl)
      (pss_cons (ps_fld (pv 4) (pe_cal C_P_norm_of (hr.mono (by decide)) (pa_cons (pv 0) (pa_cons (pe_ix ix_tup (pv 3) pe_int (fun _ _ => rfl)) (pa_cons (pe_ix ix_tup (pv 3) pe_int (fun _ _ => rfl)) pa_nil)))) rfl)
      (pss_cons (ps_fld (pv 4) (pe_cmpR (op_eqD hr.units) (pe_slice sl_tup (pe_ix ix_tup (pv 3) pe_int (fun _ _ => rfl)) (po_some pe_int) po_none) (pe_tup (pa_cons pe_int (pa_cons pe_int (pa_cons pe_int pa_nil)))) (nomark _)) rfl)
      (pss_one (ps_ret (pv 4)))))))))), ?_⟩
    refine ⟨_, rfl, _, rfl, ⟨e, q5, rfl, he, d0, db, fun r5 c u H2 hl e2 hc hu hc2 hu2 => ?_⟩⟩
    have rp := hl.1
    have rb := hlow r5 hl
    have ncu : c ≠ u := fun z => by
      rw [z, hu2] at hc2
      have := congrArg (fun o => match o with | some (HO.tup l) => l.length | _ => 0) hc2
      exact absurd (show (4 : Nat) = 2 from this) (by decide)
    refine ⟨_, rfl, (by show 4 ≤ sizeLine; decide), fun z4 hz4 => ?_⟩
    have e3 := e2.trans (same_upd (o := .tup [.int 0, .int 0, .int 0, .int 0]) hz4)
    refine fun x dx hx hdx nd => ?_
    have e4 : Same (upd H2 z4 (.tup [.int 0, .int 0, .int 0, .int 0])) (upd (upd (upd H2 z4 (.tup [.int 0, .int 0, .int 0, .int 0])) dx (.own x)) x (.ins CF dx [])) := (same_upd hdx).trans (same_upd (by rw [upd_ne nd.symm]; exact hx))
    have nax : al ≠ x := fun z => by
      obtain ⟨d1, pl, l, g1, _⟩ := ((hal.same e3)).ex
      rw [z, hx] at g1
      cases g1
    refine ⟨x, dx, al, z4, a, b, ⟨0, 0, 0, 0, 1⟩, rfl, (hal.same e3).same e4, nax, e4 _ _ upd_same, by decide, ⟨by decide +kernel, by decide +kernel, by decide +kernel, by decide +kernel, by decide +kernel⟩, ⟨by decide +kernel, by decide +kernel, by decide +kernel, by decide +kernel, by decide +kernel⟩, upd_same, fun r hr => by rw [zero_low hr]; exact ⟨by decide +kernel, by decide +kernel, by decide +kernel, by decide +kernel, by decide +kernel⟩, fun r1 H3 _ k3 hF => ⟨rfl, ?_⟩⟩
    obtain ⟨dx2, e1, tr1, nm1, t1, t2, n1, n2, g1, _⟩ := hF.ex
    have hxH : H x = none := e3.free hx
    have kx : Keep x (upd H2 z4 (.tup [.int 0, .int 0, .int 0, .int 0])) H3 := (Keep.same e4).trans k3
    have kH2 : Keep x H2 H3 := (Keep.new hz4).trans kx
    have kH : Keep x H H3 := (Keep.same e2).trans kH2
    have nux : u ≠ x := fun z => by
      have := same_upd (o := .tup [.int 0, .int 0, .int 0, .int 0]) hz4 _ _ hu2
      rw [z, hx] at this
      cases this
    have ncx : c ≠ x := fun z => by
      have := same_upd (o := .tup [.int 0, .int 0, .int 0, .int 0]) hz4 _ _ hc2
      rw [z, hx] at this
      cases this
    have hc3 := kH2 _ _ hc2 ncx
    have hu3 := kH2 _ _ hu2 nux
    have cT : ∀ {G : Hp}, Keep x H3 G → SqT K G c [.ref u, .int r5.d] := fun {G} k => SqT.of (k _ _ hc3 ncx)
    have uT : ∀ {G : Hp}, Keep x H3 G → SqT K G u (ents r5) := fun {G} k => SqT.of (k _ _ hu3 nux)
    have ka : ∀ {G : Hp}, Keep x H3 G → AlgAt CA G al a b := fun {G} k => by
      obtain ⟨d1, pl, l, y1, y2, y3⟩ := hal.ex
      refine ⟨d1, pl, l, (kH.trans k) _ _ y1 nax, (kH.trans k) _ _ y2 (fun z => ?_), y3⟩
      rw [z, hxH] at y2
      cases y2
    have k0 := Keep.refl x H3
    refine ⟨_, rfl, c, _, 0, .ref u, rfl, rfl, cT k0, rfl, _, rfl, x, CF, dx2, _, rfl, g1, R.own.cls, R.n2, (by show 6 < 1000; decide), ?_⟩
    refine ⟨_, rfl, c, _, 1, .int r5.d, rfl, rfl, cT (k0.trans Keep.upd), rfl, _, rfl, x, CF, dx2, _, rfl, upd_same, R.own.cls, R.n3, (by show 6 < 1000; decide), ?_⟩
    refine ⟨_, rfl, c, _, 0, .ref u, rfl, rfl, cT ((k0.trans Keep.upd).trans Keep.upd), rfl, u, _, 0, .int r5.w, rfl, rfl, uT ((k0.trans Keep.upd).trans Keep.upd), rfl, _, _, rfl, rfl, CMulW.of (lt3000s (by decide) (by decide)) rb.1, ?_⟩
    refine ⟨_, rfl, c, _, 1, .int r5.d, rfl, rfl, cT ((k0.trans Keep.upd).trans Keep.upd), rfl, ?_⟩
    refine ⟨_, _, rfl, by omega, Nat.lt_of_lt_of_le rb.2.2.2.2 (Nat.pow_le_pow_right (by decide) (by decide)), fun s1 s2 tr H4 hlt htr f3 hR => ?_⟩
    have k1 : Keep x H3 H4 := ((k0.trans Keep.upd).trans Keep.upd).trans (Keep.same f3)
    have hx4 := f3 _ _ upd_same
    have ntx : tr ≠ x := fun z => by rw [z, upd_same] at htr; cases htr
    refine ⟨_, rfl, x, CF, dx2, _, rfl, hx4, R.own.cls, R.n4, (by show 6 < 1000; decide), ?_⟩
    have k2 := k1.trans (Keep.upd (p := x) (o := .ins CF dx2 [("algebra", .ref al), ("entries", .ref u), ("bottom", .int r5.d), ("trace", .ref tr), ("norm", .ref nm1), ("is_ratio", .bl (decide (r1.x = 0 ∧ r1.y = 0 ∧ r1.z = 0)))]))
    refine ⟨_, rfl, _, rfl, c, _, 0, .ref u, rfl, rfl, cT k2, rfl, _, rfl, c, _, 1, .int r5.d, rfl, rfl, cT k2, rfl, ?_⟩
    refine ⟨⟨al, u, a, b, r5, rfl, ka k2, k2 _ _ hu3 nux, by omega, rb, fun m1 m2 nm H5 hln hnm f4 hN => ?_⟩⟩
    have hx5 := f4 _ _ upd_same
    have nnx : nm ≠ x := fun z => by rw [z, upd_same] at hnm; cases hnm
    refine ⟨_, rfl, x, CF, dx2, _, rfl, hx5, R.own.cls, R.n5, (by show 6 < 1000; decide), ?_⟩
    have k3' := (k2.trans (Keep.same f4)).trans (Keep.upd (p := x) (o := .ins CF dx2 [("algebra", .ref al), ("entries", .ref u), ("bottom", .int r5.d), ("trace", .ref tr), ("norm", .ref nm), ("is_ratio", .bl (decide (r1.x = 0 ∧ r1.y = 0 ∧ r1.z = 0)))]))
    refine ⟨_, rfl, c, _, 0, .ref u, rfl, rfl, cT k3', rfl, 1, rfl, u, _, rfl, uT k3', ?hc, fun p hp => ⟨(by show 3 ≤ sizeLine; decide), fun p2 hp2 => ?_⟩⟩
    case hc =>
      show ¬ (HT.sIx 4 0 (some 1) = 0 ∧ HT.sIx 4 4 none = 4)
      rw [show HT.sIx 4 0 (some 1) = min 1 4 from HT.sIx_nat 4 0 1]
      decide
    have npx : p ≠ x := fun z => by rw [z, upd_same] at hp; cases hp
    have np2x : p2 ≠ x := fun z => by rw [z, upd_ne npx.symm, upd_same] at hp2; cases hp2
    have npp : p ≠ p2 := ne_of_none upd_same hp2
    refine ⟨.tuple ([r5.x, r5.y, r5.z].map PyData.int), .tuple ([0, 0, 0].map PyData.int), dp_tup (ns := [r5.x, r5.y, r5.z]) (SqT.of ?_), dp_tup (ns := [0, 0, 0]) (SqT.of upd_same), shp_tup _, shp_tup _, ?_⟩
    · rw [upd_ne npp, upd_same]
      show some (HO.tup (cutV [V.int r5.w, V.int r5.x, V.int r5.y, V.int r5.z] (some 1) none)) = _
      rw [cut_tail4]
      rfl
    rw [eqv_tups']
    refine ⟨_, rfl, x, CF, dx2, _, rfl, by rw [upd_ne np2x.symm, upd_ne npx.symm, upd_same], R.own.cls, R.n6, (by show 6 < 1000; decide), ?_⟩
    have hk : ∀ {G : Hp} {o : HO}, Keep x G (upd H5 x (.ins CF dx2 [("algebra", .ref al), ("entries", .ref u), ("bottom", .int r5.d), ("trace", .ref tr), ("norm", .ref nm), ("is_ratio", .bl (decide (r1.x = 0 ∧ r1.y = 0 ∧ r1.z = 0)))])) → Keep x G (upd (upd (upd (upd H5 x (.ins CF dx2 [("algebra", .ref al), ("entries", .ref u), ("bottom", .int r5.d), ("trace", .ref tr), ("norm", .ref nm), ("is_ratio", .bl (decide (r1.x = 0 ∧ r1.y = 0 ∧ r1.z = 0)))])) p (.tup (cutV (ents r5) (some 1) none))) p2 (.tup [.int 0, .int 0, .int 0])) x o) :=
      fun k => ((k.trans (Keep.new hp)).trans (Keep.new hp2)).trans Keep.upd
    obtain ⟨dt, hR⟩ := hR
    obtain ⟨dn, hN⟩ := hN
    have q4 : Keep x H4 (upd H5 x (.ins CF dx2 [("algebra", .ref al), ("entries", .ref u), ("bottom", .int r5.d), ("trace", .ref tr), ("norm", .ref nm), ("is_ratio", .bl (decide (r1.x = 0 ∧ r1.y = 0 ∧ r1.z = 0)))])) := (Keep.upd.trans (Keep.same f4)).trans Keep.upd
    refine ⟨_, rfl, q r5 x _ hl hxH (fun d o e => hk (kH.trans k3') _ _ e (ne_of_none e hxH)) ⟨⟨dx2, u, tr, nm, s1, s2, m1, m2, ?_, hk k3' _ _ hu3 nux, ⟨dt, hk q4 _ _ hR ntx⟩, hlt, ⟨dn, hk Keep.upd _ _ hN nnx⟩, hln⟩, hl.1, hl.2.2.2.2.2⟩⟩
    rw [upd_same]
    have e : decide ([r5.x, r5.y, r5.z] = [0, 0, 0]) = decide (r5.x = 0 ∧ r5.y = 0 ∧ r5.z = 0) := by
      rw [Bool.eq_iff_iff, decide_eq_true_iff, decide_eq_true_iff]
      simp
    rw [e]
    rfl
end
end Sf

namespace Sf
open PySem PySem.Spec PyProof.Rows L2
section
variable {P : Program} {w : World} {K : PySem.W.Frag} {mg : Str → Option Value} {base : Heap} {f : Addr} {fd : FuncData} {CR CA CF : Addr}
/-- == of two algebras that are told by equal numbers, or of one -/
def spAlgEq (CA : Addr) : Sp := fun vs H Q _ => ∃ (x y : Addr) (a b c d : Int), vs = [.ref x, .ref y] ∧ AlgAt CA H x a b ∧ AlgAt CA H y c d ∧ ∃ k : Bool, (k = true ↔ a = c ∧ b = d) ∧ Q (.bl k) H
theorem ok_Algebra_eq (F : FnD K "__eq__" "Algebra.__eq__" s_P_Algebra___eq__ f fd) (T : Glob mg) (R : AlgK K CA) (G_Algebra : mg "Algebra" = some (.ref CA)) : FnOk P w K mg base CX0 1 f fd ["self", "value"] (spAlgEq CA) := by
  refine F.ok sc_P_Algebra___eq__ (fun vs H Q E h => ?_) (fun cdv A outer s H vs Q E hr h => ?_)
  · obtain ⟨x, y, a, b, c, d, rfl, _⟩ := h; rfl
  · obtain ⟨x, y, a, b, c, d, rfl, hx, hy, k, hk, q⟩ := h
    refine ⟨_, PSs.nox (pss_one (ps_ret (pe_and (pe_callB call_isi (by rfl) T.m_isinstance (by decide +kernel) (pa_cons (pv 1) (pa_cons (pe_glob (v := .ref _) rfl G_Algebra rfl) pa_nil))) (pe_and (pe_cmp (pc_eqI (pe_fld (pv 0) rfl) (pe_fld (pv 1) rfl)) rfl) (pe_one (pe_cmp (pc_eqI (pe_fld (pv 0) rfl) (pe_fld (pv 1) rfl)) rfl)))))), ?_⟩
    obtain ⟨dx, p1, l1, h1, _⟩ := hx.ex
    obtain ⟨dy, p2, l2, h2, _⟩ := hy.ex
    refine ⟨_, rfl, _, .ref CA, _, _, true, rfl, .own CA, R.own.ty hy.ins, R.own.kk, _, rfl, ?_⟩
    have kf : ∀ {z : Bool}, (z = true ↔ a = c ∧ b = d) → z = k := fun {z} h => Bool.eq_iff_iff.mpr (h.trans hk.symm)
    refine ⟨_, rfl, x, CA, dx, _, .int a, rfl, h1, R.own.cls, R.n2, rfl, _, rfl, y, CA, dy, _, .int c, rfl, h2, R.own.cls, R.n2, rfl, _, _, rfl, rfl, _, rfl, ifd (fun e => ?_) (fun e => ?_)⟩
    · refine ⟨_, rfl, x, CA, dx, _, .int b, rfl, h1, R.own.cls, R.n3, rfl, _, rfl, y, CA, dy, _, .int d, rfl, h2, R.own.cls, R.n3, rfl, _, _, rfl, rfl, ?_⟩
      have z := kf (z := decide (b = d)) (by rw [decide_eq_true_iff]; exact ⟨fun h => ⟨e, h⟩, fun h => h.2⟩)
      show Q (.bl (decide (b = d))) H
      rw [z]
      exact q
    · have z := kf (z := false) ⟨fun h => Bool.noConfusion h, fun h => absurd h.1 e⟩
      show Q (.bl false) H
      rw [z]
      exact q
/-- two fours of one algebra -/
def spOperands (CF CR CA : Addr) : Sp := fun vs H Q _ => ∃ (x y al be : Addr) (a b : Int) (q r : Q5), vs = [.ref x, .ref y] ∧ FourAt CF CR H x al a b q ∧ FourAt CF CR H y be a b r ∧ AlgAt CA H al a b ∧ AlgAt CA H be a b ∧ Q .non H
theorem ok_check_operands (F : FnD K "check_operands" "check_operands" s_P_check_operands f fd) (R : FourK K CF) (O_Algebra : OwnK K CA) (M_Algebra_eq : CalM P w K mg base 1 "__eq__" CA ["self", "value"] (spAlgEq CA)) : FnOk P w K mg base CX0 3 f fd ["one", "other"] (spOperands CF CR CA) := by
  refine F.ok sc_P_check_operands (fun vs H Q E h => ?_) (fun cdv A outer s H vs Q E hr h => ?_)
  · obtain ⟨x, y, al, be, a, b, q, r, rfl, _⟩ := h; rfl
  · obtain ⟨x, y, al, be, a, b, q5, r5, rfl, hx, hy, ha, hb, q⟩ := h
    refine ⟨_, PSs.nox (pss_one (ps_if (pt_cmpR (ne_own M_Algebra_eq.me M_Algebra_eq.ok (hr.mono (by decide)) M_Algebra_eq.b pass0 O_Algebra.ne O_Algebra.mo) (pe_fld (pv 0) rfl) (pe_fld (pv 1) rfl) (nomark _)) (pss_one ps_never) pss_nil)), ?_⟩
    obtain ⟨d1, e1, t1, m1, _, _, _, _, h1, _⟩ := hx.ex
    obtain ⟨d2, e2, t2, m2, _, _, _, _, h2, _⟩ := hy.ex
    refine ⟨_, rfl, x, CF, d1, _, .ref al, rfl, h1, R.own.cls, R.n1, rfl, _, rfl, y, CF, d2, _, .ref be, rfl, h2, R.own.cls, R.n1, rfl, ?_⟩
    exact ⟨al, be, rfl, rfl, ha.ins, hb.ins, al, be, a, b, a, b, rfl, ha, hb, true, ⟨fun _ => ⟨rfl, rfl⟩, fun _ => rfl⟩, true, rfl, _, rfl, q⟩
/-- the product by the rules of i, j and k -/
def prodQ (a b : Int) (p q : Q5) : Q5 := ⟨p.w * q.w + a * p.x * q.x + b * p.y * q.y - a * b * p.z * q.z, p.w * q.x + p.x * q.w - b * p.y * q.z + b * p.z * q.y, p.w * q.y + p.y * q.w + a * p.x * q.z - a * p.z * q.x, p.w * q.z + p.z * q.w + p.x * q.y - p.y * q.x, p.d * q.d⟩
def SameQ (e q : Q5) : Prop := e.w = q.w ∧ e.x = q.x ∧ e.y = q.y ∧ e.z = q.z
structure ProdP (CA : Addr) (vs : List V) (H : Hp) (Q : VK) : Prop where
  ex : ∃ (al e1 e2 : Addr) (a b : Int) (p q : Q5), vs = [.ref al, .ref e1, .ref e2] ∧ AlgAt CA H al a b ∧ H e1 = some (.tup (ents p)) ∧ H e2 = some (.tup (ents q)) ∧ Bd 1400 p ∧ Bd 1400 q ∧ ∀ t, H t = none → Q (.ref t) (upd H t (.tup (ents (prodQ a b p q))))
def spProd (CA : Addr) : Sp := fun vs H Q _ => ProdP CA vs H Q
set_option maxHeartbeats 8000000 in
theorem ok_product_entries (F : FnD K "product_entries" "product_entries" s_P_product_entries f fd) (R : AlgK K CA) : FnOk P w K mg base CX0 1 f fd ["algebra", "one", "other"] (spProd CA) := by
  refine F.ok sc_P_product_entries (fun vs H Q E h => ?_) (fun cdv A outer s H vs Q E hr h => ?_)
  · obtain ⟨al, e1, e2, a, b, p, q, rfl, _⟩ := h.ex; rfl
  · obtain ⟨al, e1, e2, a, b, p, q5, rfl, hal, h1, h2, ⟨p1, p2, p3, p4, _⟩, ⟨q1, q2, q3, q4, _⟩, q⟩ := h.ex
    refine ⟨_, PSs.nox (pss_cons (ps_par (i := 3) (j := 4) (by rfl) sc_P_product_entries.nd rfl rfl (by decide) rfl rfl (pa_cons (pe_fld (pv 0) rfl) (pa_cons (pe_fld (pv 0) rfl) pa_nil)) (by rfl))
      (pss_cons (ps_asg (pv 1) (pg_tup (by rfl) (pgs_cons (pg_name (i := 5) sc_P_product_entries.nd rfl (Or.inl rfl)) (pgs_cons (pg_name (i := 6) sc_P_product_entries.nd rfl (Or.inl rfl)) (pgs_cons (pg_name (i := 7) sc_P_product_entries.nd rfl (Or.inl rfl)) (pgs_cons (pg_name (i := 8) sc_P_product_entries.nd rfl (Or.inl rfl)) pgs_nil))))))
      (pss_cons (ps_asg (pv 2) (pg_tup (by rfl) (pgs_cons (pg_name (i := 9) sc_P_product_entries.nd rfl (Or.inl rfl)) (pgs_cons (pg_name (i := 10) sc_P_product_entries.nd rfl (Or.inl rfl)) (pgs_cons (pg_name (i := 11) sc_P_product_entries.nd rfl (Or.inl rfl)) (pgs_cons (pg_name (i := 12) sc_P_product_entries.nd rfl (Or.inl rfl)) pgs_nil))))))
      (pss_one (ps_ret (pe_tup (pa_cons (pe_op op_sub (pe_op op_add (pe_op op_add (pe_op op_mulW (pv 5) (pv 9)) (pe_op op_mulW (pe_op op_mulW (pv 3) (pv 6)) (pv 10))) (pe_op op_mulW (pe_op op_mulW (pv 4) (pv 7)) (pv 11))) (pe_op op_mulW (pe_op op_mulW (pe_op op_mulW (pv 3) (pv 4)) (pv 8)) (pv 12))) (pa_cons (pe_op op_add (pe_op op_sub (pe_op op_add (pe_op op_mulW (pv 5) (pv 10)) (pe_op op_mulW (pv 6) (pv 9))) (pe_op op_mulW (pe_op op_mulW (pv 4) (pv 7)) (pv 12))) (pe_op op_mulW (pe_op op_mulW (pv 4) (pv 8)) (pv 11))) (pa_cons (pe_op op_sub (pe_op op_add (pe_op op_add (pe_op op_mulW (pv 5) (pv 11)) (pe_op op_mulW (pv 7) (pv 9))) (pe_op op_mulW (pe_op op_mulW (pv 3) (pv 6)) (pv 12))) (pe_op op_mulW (pe_op op_mulW (pv 3) (pv 8)) (pv 10))) (pa_cons (pe_op op_sub (pe_op op_add (pe_op op_add (pe_op op_mulW (pv 5) (pv 12)) (pe_op op_mulW (pv 8) (pv 9))) (pe_op op_mulW (pv 6) (pv 11))) (pe_op op_mulW (pv 7) (pv 10))) pa_nil)))))))))), ?_⟩
    obtain ⟨dx, pl, l, hx, _, _, a0, b0, ab, bb⟩ := hal.ex
    have a3 : a.natAbs < 2 ^ 30 := by omega
    have b3 : b.natAbs < 2 ^ 30 := by omega
    have l2 : ∀ {i j : Int} {m n : Nat}, i.natAbs < 2 ^ m → j.natAbs < 2 ^ n → (i * j).natAbs < 2 ^ (m + n) := fun h1 h2 => wide_lt h1 h2
    refine ⟨_, rfl, al, CA, dx, _, .int a, rfl, hx, R.own.cls, R.n2, rfl, _, rfl, al, CA, dx, _, .int b, rfl, hx, R.own.cls, R.n3, rfl, _, _, rfl, ?_⟩
    refine ⟨_, rfl, e1, _, rfl, .inl (.inl h1), rfl, _, _, rfl, _, _, rfl, _, _, rfl, _, _, rfl, rfl, ?_⟩
    refine ⟨_, rfl, e2, _, rfl, .inl (.inl h2), rfl, _, _, rfl, _, _, rfl, _, _, rfl, _, _, rfl, rfl, ?_⟩
    exact ⟨_, rfl, _, rfl, _, _, rfl, rfl, wmul p1 q1 (by decide) (by decide) (by decide), _, rfl, _, rfl, _, _, rfl, rfl, wmul a3 p2 (by decide) (by decide) (by decide), _, rfl, _, _, rfl, rfl, wmul (l2 a3 p2) q2 (by decide) (by decide) (by decide), _, _, rfl, rfl, _, rfl, _, rfl, _, _, rfl, rfl, wmul b3 p3 (by decide) (by decide) (by decide), _, rfl, _, _, rfl, rfl, wmul (l2 b3 p3) q3 (by decide) (by decide) (by decide), _, _, rfl, rfl, _, rfl, _, rfl, _, _, rfl, rfl, wmul a3 b3 (by decide) (by decide) (by decide), _, rfl, _, _, rfl, rfl, wmul (l2 a3 b3) p4 (by decide) (by decide) (by decide), _, rfl, _, _, rfl, rfl, wmul (l2 (l2 a3 b3) p4) q4 (by decide) (by decide) (by decide), _, _, rfl, rfl, _, rfl, _, rfl, _, _, rfl, rfl, wmul p1 q2 (by decide) (by decide) (by decide), _, rfl, _, rfl, _, _, rfl, rfl, wmul p2 q1 (by decide) (by decide) (by decide), _, _, rfl, rfl, _, rfl, _, rfl, _, _, rfl, rfl, wmul b3 p3 (by decide) (by decide) (by decide), _, rfl, _, _, rfl, rfl, wmul (l2 b3 p3) q4 (by decide) (by decide) (by decide), _, _, rfl, rfl, _, rfl, _, rfl, _, _, rfl, rfl, wmul b3 p4 (by decide) (by decide) (by decide), _, rfl, _, _, rfl, rfl, wmul (l2 b3 p4) q3 (by decide) (by decide) (by decide), _, _, rfl, rfl, _, rfl, _, rfl, _, _, rfl, rfl, wmul p1 q3 (by decide) (by decide) (by decide), _, rfl, _, rfl, _, _, rfl, rfl, wmul p3 q1 (by decide) (by decide) (by decide), _, _, rfl, rfl, _, rfl, _, rfl, _, _, rfl, rfl, wmul a3 p2 (by decide) (by decide) (by decide), _, rfl, _, _, rfl, rfl, wmul (l2 a3 p2) q4 (by decide) (by decide) (by decide), _, _, rfl, rfl, _, rfl, _, rfl, _, _, rfl, rfl, wmul a3 p4 (by decide) (by decide) (by decide), _, rfl, _, _, rfl, rfl, wmul (l2 a3 p4) q2 (by decide) (by decide) (by decide), _, _, rfl, rfl, _, rfl, _, rfl, _, _, rfl, rfl, wmul p1 q4 (by decide) (by decide) (by decide), _, rfl, _, rfl, _, _, rfl, rfl, wmul p4 q1 (by decide) (by decide) (by decide), _, _, rfl, rfl, _, rfl, _, rfl, _, _, rfl, rfl, wmul p2 q3 (by decide) (by decide) (by decide), _, _, rfl, rfl, _, rfl, _, rfl, _, _, rfl, rfl, wmul p3 q2 (by decide) (by decide) (by decide), _, _, rfl, rfl, (by show 4 ≤ sizeLine; decide), fun t ht => q t ht⟩
structure FourOpP (CF CR CA : Addr) (g : Int → Int → Q5 → Q5 → Q5) (vs : List V) (H : Hp) (Q : VK) : Prop where
  ex : ∃ (x y al be : Addr) (a b : Int) (p q : Q5), vs = [.ref x, .ref y] ∧ FourAt CF CR H x al a b p ∧ FourAt CF CR H y be a b q ∧ AlgAt CA H al a b ∧ AlgAt CA H be a b ∧ Bd 1400 p ∧ Bd 1400 q ∧ (∀ r, Low5 (g a b p q) r → Bd 3000 r) ∧
    ∀ (r : Q5) (z : Addr) (H' : Hp), Low5 (g a b p q) r → H z = none → Same H H' → FourAt CF CR H' z al a b r → Q (.ref z) H'
def spFourOp (CF CR CA : Addr) (g : Int → Int → Q5 → Q5 → Q5) : Sp := fun vs H Q _ => FourOpP CF CR CA g vs H Q
theorem ok_Four_mul (F : FnD K "__mul__" "Four.__mul__" s_P_Four___mul__ f fd) (T : Glob mg) (R : FourK K CF) (G_Four : mg "Four" = some (.ref CF)) (C_P_check_operands : Cal P w K mg base 3 "check_operands" ["one", "other"] (spOperands CF CR CA)) (C_P_product_entries : Cal P w K mg base 1 "product_entries" ["algebra", "one", "other"] (spProd CA))
    (C_P_made_four : Cal P w K mg base 9 "made_four" ["algebra", "entries", "bottom"] (spMadeFour CF CR CA)) : FnOk P w K mg base CX0 10 f fd ["self", "other"] (spFourOp CF CR CA prodQ) := by
  refine F.ok sc_P_Four___mul__ (fun vs H Q E h => ?_) (fun cdv A outer s H vs Q E hr h => ?_)
  · obtain ⟨x, y, al, be, a, b, p, q, rfl, _⟩ := h.ex; rfl
  · obtain ⟨x, y, al, be, a, b, p, q5, rfl, hx, hy, ha, hb, bp, bq, hlow, q⟩ := h.ex
    refine ⟨_, PSs.nox (pss_cons (ps_if (pt_not (pt_val (pe_callB call_isi (by rfl) T.m_isinstance (by decide +kernel) (pa_cons (pv 1) (pa_cons (pe_glob (v := .ref _) rfl G_Four rfl) pa_nil))))) (pss_one ps_never) pss_nil)
      (pss_cons (ps_expr (pe_cal C_P_check_operands (hr.mono (by decide)) (pa_cons (pv 0) (pa_cons (pv 1) pa_nil))))
      (pss_cons (ps_set (i := 2) sc_P_Four___mul__.nd rfl (Or.inl rfl) (pe_cal C_P_product_entries (hr.mono (by decide)) (pa_cons (pe_fld (pv 0) rfl) (pa_cons (pe_fld (pv 0) rfl) (pa_cons (pe_fld (pv 1) rfl) pa_nil)))))
      (pss_one (ps_ret (pe_cal C_P_made_four (hr.mono (by decide)) (pa_cons (pe_fld (pv 0) rfl) (pa_cons (pv 2) (pa_cons (pe_op op_mulW (pe_fld (pv 0) rfl) (pe_fld (pv 1) rfl)) pa_nil))))))))), ?_⟩
    obtain ⟨d1, e1, t1, m1, _, _, _, _, h1, u1, _⟩ := hx.ex
    obtain ⟨d2, e2, t2, m2, _, _, _, _, h2, u2, _⟩ := hy.ex
    refine ⟨_, rfl, _, .ref CF, _, _, true, rfl, .own CF, R.own.ty hy.ins, R.own.kk, _, rfl, ?_⟩
    refine ⟨_, rfl, _, rfl, x, y, al, be, a, b, p, q5, rfl, hx, hy, ha, hb, ?_⟩
    refine ⟨_, rfl, x, CF, d1, _, .ref al, rfl, h1, R.own.cls, R.n1, rfl, _, rfl, x, CF, d1, _, .ref e1, rfl, h1, R.own.cls, R.n2, rfl, _, rfl, y, CF, d2, _, .ref e2, rfl, h2, R.own.cls, R.n2, rfl, ⟨al, e1, e2, a, b, p, q5, rfl, ha, u1, u2, bp, bq, fun t ht => ?_⟩⟩
    have g := fun {c : Addr} {o : HO} (h : H c = some o) => (upd_ne (ne_of_none h ht) : (upd H t (.tup (ents (prodQ a b p q5)))) c = H c).trans h
    refine ⟨_, rfl, x, CF, d1, _, .ref al, rfl, g h1, R.own.cls, R.n1, rfl, _, rfl, _, rfl, x, CF, d1, _, .int p.d, rfl, g h1, R.own.cls, R.n3, rfl, _, rfl, y, CF, d2, _, .int q5.d, rfl, g h2, R.own.cls, R.n3, rfl, _, _, rfl, rfl, wmul bp.2.2.2.2 bq.2.2.2.2 (by decide) (by decide) (by decide), ?_⟩
    have dp := hx.pos
    have dq := hy.pos
    refine ⟨⟨al, t, a, b, prodQ a b p q5, rfl, ha.same (same_upd ht), upd_same, ?_, ?_, hlow, fun r z H' hl hz e hF => q r z H' hl ((same_upd ht).free hz) ((same_upd ht).trans e) hF⟩⟩
    · exact Int.mul_ne_zero (by omega) (by omega)
    · exact Nat.lt_of_lt_of_le (wide_lt bp.2.2.2.2 bq.2.2.2.2) (Nat.pow_le_pow_right (by decide) (by decide))
end
end Sf

namespace Sf
open PySem PySem.Spec PyProof.Rows L2
def mateQ (q : Q5) : Q5 := ⟨q.w, -q.x, -q.y, -q.z, q.d⟩
def addQ (_ _ : Int) (p q : Q5) : Q5 := ⟨p.w * q.d + q.w * p.d, p.x * q.d + q.x * p.d, p.y * q.d + q.y * p.d, p.z * q.d + q.z * p.d, p.d * q.d⟩
section
variable {P : Program} {w : World} {K : PySem.W.Frag} {mg : Str → Option Value} {base : Heap} {f : Addr} {fd : FuncData} {CR CA CF : Addr}
def spMateE : Sp := fun vs H Q _ => ∃ (e : Addr) (q : Q5), vs = [.ref e] ∧ H e = some (.tup (ents q)) ∧ ∀ t, H t = none → Q (.ref t) (upd H t (.tup (ents (mateQ q))))
theorem ok_mate_entries (F : FnD K "mate_entries" "mate_entries" s_P_mate_entries f fd) : FnOk P w K mg base CX0 1 f fd ["entries"] spMateE := by
  refine F.ok sc_P_mate_entries (fun vs H Q E h => ?_) (fun cdv A outer s H vs Q E hr h => ?_)
  · obtain ⟨e, q, rfl, _⟩ := h; rfl
  · obtain ⟨e, q5, rfl, he, q⟩ := h
    refine ⟨_, PSs.nox (pss_cons (ps_asg (pv 0) (pg_tup (by rfl) (pgs_cons (pg_name (i := 1) sc_P_mate_entries.nd rfl (Or.inl rfl)) (pgs_cons (pg_name (i := 2) sc_P_mate_entries.nd rfl (Or.inl rfl)) (pgs_cons (pg_name (i := 3) sc_P_mate_entries.nd rfl (Or.inl rfl)) (pgs_cons (pg_name (i := 4) sc_P_mate_entries.nd rfl (Or.inl rfl)) pgs_nil))))))
      (pss_one (ps_ret (pe_tup (pa_cons (pv 1) (pa_cons (pe_un un_neg (pv 2)) (pa_cons (pe_un un_neg (pv 3)) (pa_cons (pe_un un_neg (pv 4)) pa_nil)))))))), ?_⟩
    refine ⟨_, rfl, e, _, rfl, .inl (.inl he), rfl, _, _, rfl, _, _, rfl, _, _, rfl, _, _, rfl, rfl, ?_⟩
    exact ⟨_, rfl, _, rfl, _, rfl, _, rfl, _, rfl, _, rfl, _, rfl, (by show 4 ≤ sizeLine; decide), fun t ht => q t ht⟩
structure Four1P (CF CR CA : Addr) (g : Q5 → Q5) (vs : List V) (H : Hp) (Q : VK) : Prop where
  ex : ∃ (x al : Addr) (a b : Int) (p : Q5), vs = [.ref x] ∧ FourAt CF CR H x al a b p ∧ AlgAt CA H al a b ∧ Bd 3000 p ∧ (∀ r, Low5 (g p) r → Bd 3000 r) ∧
    ∀ (r : Q5) (z : Addr) (H' : Hp), Low5 (g p) r → H z = none → Same H H' → FourAt CF CR H' z al a b r → Q (.ref z) H'
def spFour1 (CF CR CA : Addr) (g : Q5 → Q5) : Sp := fun vs H Q _ => Four1P CF CR CA g vs H Q
theorem ok_Four_mate (F : FnD K "mate" "Four.mate" s_P_Four_mate f fd) (R : FourK K CF) (C_P_mate_entries : Cal P w K mg base 1 "mate_entries" ["entries"] spMateE) (C_P_made_four : Cal P w K mg base 9 "made_four" ["algebra", "entries", "bottom"] (spMadeFour CF CR CA)) :
    FnOk P w K mg base CX0 10 f fd ["self"] (spFour1 CF CR CA mateQ) := by
  refine F.ok sc_P_Four_mate (fun vs H Q E h => ?_) (fun cdv A outer s H vs Q E hr h => ?_)
  · obtain ⟨x, al, a, b, p, rfl, _⟩ := h.ex; rfl
  · obtain ⟨x, al, a, b, p, rfl, hx, ha, bp, hlow, q⟩ := h.ex
    refine ⟨_, PSs.nox (pss_one (ps_ret (pe_cal C_P_made_four (hr.mono (by decide)) (pa_cons (pe_fld (pv 0) rfl) (pa_cons (pe_cal C_P_mate_entries (hr.mono (by decide)) (pa_cons (pe_fld (pv 0) rfl) pa_nil)) (pa_cons (pe_fld (pv 0) rfl) pa_nil)))))), ?_⟩
    obtain ⟨d1, e1, t1, m1, _, _, _, _, h1, u1, _⟩ := hx.ex
    have dp := hx.pos
    refine ⟨_, rfl, x, CF, d1, _, .ref al, rfl, h1, R.own.cls, R.n1, rfl, _, rfl, x, CF, d1, _, .ref e1, rfl, h1, R.own.cls, R.n2, rfl, e1, p, rfl, u1, fun t ht => ?_⟩
    have g := fun {c : Addr} {o : HO} (h : H c = some o) => (upd_ne (ne_of_none h ht) : (upd H t (.tup (ents (mateQ p)))) c = H c).trans h
    refine ⟨_, rfl, x, CF, d1, _, .int p.d, rfl, g h1, R.own.cls, R.n3, rfl, ⟨al, t, a, b, mateQ p, rfl, ha.same (same_upd ht), upd_same, by show p.d ≠ 0; omega, Nat.lt_of_lt_of_le bp.2.2.2.2 (Nat.pow_le_pow_right (by decide) (by decide)), hlow, fun r z H' hl hz e hF => q r z H' hl ((same_upd ht).free hz) ((same_upd ht).trans e) hF⟩⟩
/-- == of two fours -/
def spFourEq (CF CR CA : Addr) : Sp := fun vs H Q _ => ∃ (x y al be : Addr) (a b c d : Int) (p q : Q5), vs = [.ref x, .ref y] ∧ FourAt CF CR H x al a b p ∧ FourAt CF CR H y be c d q ∧ AlgAt CA H al a b ∧ AlgAt CA H be c d ∧ ∃ k : Bool, (k = true ↔ (a = c ∧ b = d) ∧ p = q) ∧ Q (.bl k) H
end
end Sf

namespace Sf
open PySem PySem.Spec PyProof.Rows L2
theorem iter_tup {prog : Program} {w : World} {A : Around} {E : Value → Shared → Prop} {s : Shared} {l : Addr} {its : Array Value} {Q : Value → Shared → Prop} (hl : s.heap.IsTuple l its)
    (h : (s.heap.push { cls := .type "tuple_iterator", data := .fields #[.ref l, .int 0 0] }).IsTupleIter s.heap.objs.size l 0 ∧ (s.heap.push { cls := .type "tuple_iterator", data := .fields #[.ref l, .int 0 0] }).IsTuple l its → l ≠ s.heap.objs.size →
      Q (.ref s.heap.objs.size) { s with heap := s.heap.push { cls := .type "tuple_iterator", data := .fields #[.ref l, .int 0 0] } }) : wpAny (model prog w) A (pyIter (.ref l)) Q E s := by
  have lt : l < s.heap.objs.size := by
    obtain ⟨_, e, _⟩ := hl
    exact Heap.lt_size e
  exact wpAny_pyIter_tuple hl (h ⟨⟨_, Heap.get?_push_size _ rfl, rfl, rfl⟩, hl.push _⟩ (Nat.ne_of_lt lt))
theorem truth_ints {prog : Program} {w : World} {A : Around} {ns : List Int} {its : List Value} (r : Vals (ns.map V.int) its) :
    TruthOf prog w A (fun i v => its.toArray[i]? = some v) (fun i => ns.getD i 0 != 0) := fun i v s Q E hv hq => by
  have hv' : its[i]? = some v := by simpa using hv
  have il : i < ns.length := by
    have := (List.getElem?_eq_some_iff.mp hv').1
    rw [← r.length, List.length_map] at this
    exact this
  obtain ⟨u, hu, ru⟩ := r.get (i := i) (x := V.int ns[i]) (by rw [List.getElem?_map, List.getElem?_eq_getElem il]; rfl)
  rw [hv'] at hu
  cases hu
  obtain ⟨t, rfl⟩ := (show ∃ t, v = Value.int ns[i] t from ru)
  have hg : ns.getD i 0 = ns[i] := by rw [List.getD_eq_getElem?_getD, List.getElem?_eq_getElem il]; rfl
  have hq' : Q (ns.getD i 0 != 0) s := hq
  rw [hg] at hq'
  exact PyProof.Rows.truthy_int hq'
theorem any_rangeI : ∀ ns : List Int, (List.range ns.length).any (fun i => ns.getD i 0 != 0) = ns.any (fun z => z != 0)
  | [] => rfl
  | b :: ns => by
    rw [List.length_cons, List.range_succ_eq_map, List.any_cons, List.any_map, List.any_cons, ← any_rangeI ns]
    all_goals rfl
section
variable {X : Cx}
/-- any(t), t a tuple of ints -/
def rAnyT (K : PySem.W.Frag) : List V → Hp → VK → Prop := fun vs H Q => ∃ (a : Addr) (ns : List Int), vs = [V.ref a] ∧ SqT K H a (ns.map V.int) ∧ Q (.bl (ns.any fun z => z != 0)) H
theorem cr_anyT (hc : X.calm = true) : CallR X (.builtin "any") (rAnyT X.K) := by
  intro pins s σ H vs us Q I r h
  obtain ⟨a, ns, rfl, hs, q⟩ := h
  obtain ⟨its, rv, hl, _⟩ := I.tuple hs
  rw [Vals.ref1 r]
  refine call_any_walk (iter_tup hl fun st hne => ?_)
  refine ⟨_, _, _, _, _, _, _, rfl, Walks.tuple (A := X.A.in1) (I.ok.hd hc) _ a hne its.toArray, st, truth_ints rv, fun h' tk hk => ?_⟩
  refine ⟨.bl _, H, I.kept fun b o eo => hk b o (fun hmem => ?_) (Heap.get?_push_of_some _ eo), ?_, q⟩
  · rcases List.mem_cons.mp hmem with e1 | hmem
    · exact absurd (e1 ▸ Heap.lt_size eo) (Nat.lt_irrefl _)
    · cases hmem
  · show Value.bool _ = Value.bool _
    rw [← any_rangeI, List.size_toArray, ← rv.length, List.length_map]
end
end Sf

namespace Sf
open PySem PySem.Spec PyProof.Rows L2
def negQ (q : Q5) : Q5 := ⟨-q.w, -q.x, -q.y, -q.z, q.d⟩
def entI (q : Q5) : List Int := [q.w, q.x, q.y, q.z]
theorem ents_int (q : Q5) : ents q = (entI q).map V.int := rfl
theorem int_of_map' {l : List Int} {i : Nat} {v : V} (h : (l.map V.int)[i]? = some v) : ∃ z, l[i]? = some z ∧ v = V.int z := by
  rw [List.getElem?_map] at h
  cases e : l[i]? with
  | none => rw [e] at h; cases h
  | some z => rw [e] at h; exact ⟨z, rfl, (Option.some.inj h).symm⟩
section
variable {P : Program} {w : World} {K : PySem.W.Frag} {mg : Str → Option Value} {base : Heap} {f : Addr} {fd : FuncData} {CR CA CF : Addr}
def spFourBool (CF CR : Addr) : Sp := fun vs H Q _ => ∃ (x al : Addr) (a b : Int) (p : Q5), vs = [.ref x] ∧ FourAt CF CR H x al a b p ∧ ∃ k : Bool, (k = true ↔ ¬ (p.w = 0 ∧ p.x = 0 ∧ p.y = 0 ∧ p.z = 0)) ∧ Q (.bl k) H
theorem ok_Four_bool (F : FnD K "__bool__" "Four.__bool__" s_P_Four___bool__ f fd) (T : Glob mg) (R : FourK K CF) : FnOk P w K mg base CX0 1 f fd ["self"] (spFourBool CF CR) := by
  refine F.ok sc_P_Four___bool__ (fun vs H Q E h => ?_) (fun cdv A outer s H vs Q E hr h => ?_)
  · obtain ⟨x, al, a, b, p, rfl, _⟩ := h; rfl
  · obtain ⟨x, al, a, b, p, rfl, hx, k, hk, q⟩ := h
    refine ⟨_, PSs.nox (pss_one (ps_ret (pe_callB (cr_anyT rfl) (by rfl) T.m_any (by decide +kernel) (pa_cons (pe_fld (pv 0) rfl) pa_nil)))), ?_⟩
    obtain ⟨d1, e1, t1, m1, _, _, _, _, h1, u1, _⟩ := hx.ex
    refine ⟨_, rfl, x, CF, d1, _, .ref e1, rfl, h1, R.own.cls, R.n2, rfl, e1, entI p, rfl, SqT.of u1, ?_⟩
    have e : (entI p).any (fun z => z != 0) = k := by
      rw [Bool.eq_iff_iff, hk]
      unfold entI
      simp
      omega
    rw [e]
    exact q
theorem ok_Four_neg (F : FnD K "__neg__" "Four.__neg__" s_P_Four___neg__ f fd) (T : Glob mg) (R : FourK K CF) (C_P_made_four : Cal P w K mg base 9 "made_four" ["algebra", "entries", "bottom"] (spMadeFour CF CR CA)) :
    FnOk P w K mg base CX0 10 f fd ["self"] (spFour1 CF CR CA negQ) := by
  refine F.ok sc_P_Four___neg__ (fun vs H Q E h => ?_) (fun cdv A outer s H vs Q E hr h => ?_)
  · obtain ⟨x, al, a, b, p, rfl, _⟩ := h.ex; rfl
  · obtain ⟨x, al, a, b, p, rfl, hx, ha, bp, hlow, q⟩ := h.ex
    refine ⟨_, PSs.nox (pss_one (ps_ret (pe_cal C_P_made_four (hr.mono (by decide)) (pa_cons (pe_fld (pv 0) rfl) (pa_cons (pe_callTy call_tuple_of (by rfl) T.m_tuple (by decide +kernel) (pa_cons (pe_lc rfl sc_P_Four___neg__.nd (own := [("part", 1)]) (pi_tup (pe_fld (pv 0) rfl)) (blkOk_by (N := ["self", "part"]) (sc := defScope s_P_Four___neg__) (by decide +kernel)) (fun _ _ _ _ _ => pg_name (i := 1) sc_P_Four___neg__.nd rfl (Or.inl rfl)) (fun _ _ _ _ _ => pts_nil) (fun _ _ _ _ _ => (pe_un un_neg (pv 1)))) pa_nil)) (pa_cons (pe_fld (pv 0) rfl) pa_nil)))))), ?_⟩
    obtain ⟨d1, e1, t1, m1, _, _, _, _, h1, u1, _⟩ := hx.ex
    have dp := hx.pos
    refine ⟨_, rfl, x, CF, d1, _, .ref al, rfl, h1, R.own.cls, R.n1, rfl, _, rfl, x, CF, d1, _, .ref e1, rfl, h1, R.own.cls, R.n2, rfl, e1, rfl, ⟨_, SqT.of u1⟩, fun D hD => lc_tup (K := K) (a := e1) (xs := (entI p).map V.int) (fun i H' => Same H H' ∧ H' D = some (.lst (((entI p).take i).map fun n => V.int (-n)))) ⟨same_upd hD, upd_same⟩ (fun i H' _ hp => SqT.of (hp.1 _ _ u1)) (fun i v H' hv hp => ?_) (fun H' hp => ?_)⟩
    · obtain ⟨k1, hd⟩ := hp
      obtain ⟨n, hn, rfl⟩ := int_of_map' hv
      refine ⟨rfl, _, rfl, n, rfl, _, hd, ?_, ?_, ?_⟩
      · rw [List.length_map]
        have := List.length_take_le' i (entI p)
        exact Nat.lt_of_le_of_lt (Nat.le_trans this (by show 4 ≤ 4; exact Nat.le_refl _)) (by decide)
      · intro c o ec
        rw [upd_ne (ne_of_none ec hD)]
        exact k1 _ _ ec
      · rw [upd_same, List.take_add_one, hn, List.map_append]; rfl
    · obtain ⟨k1, hd⟩ := hp
      refine ⟨D, _, rfl, .inl ⟨SqL.of hd, fun t ht => ?_⟩⟩
      have et : ((entI p).take ((entI p).map V.int).length).map (fun n => V.int (-n)) = ents (negQ p) := rfl
      rw [et]
      have k2 := k1.trans (same_upd (o := .tup (ents (negQ p))) ht)
      refine ⟨_, rfl, x, CF, d1, _, .int p.d, rfl, k2 _ _ h1, R.own.cls, R.n3, rfl, ⟨al, t, a, b, negQ p, rfl, ha.same k2, upd_same, by show p.d ≠ 0; omega, Nat.lt_of_lt_of_le bp.2.2.2.2 (Nat.pow_le_pow_right (by decide) (by decide)), hlow, fun r z H'' hl hz e hF => q r z H'' hl (k2.free hz) (k2.trans e) hF⟩⟩
theorem ok_Four_eq (F : FnD K "__eq__" "Four.__eq__" s_P_Four___eq__ f fd) (T : Glob mg) (R : FourK K CF) (G_Four : mg "Four" = some (.ref CF)) (O_Algebra : OwnK K CA) (M_Algebra_eq : CalM P w K mg base 1 "__eq__" CA ["self", "value"] (spAlgEq CA)) : FnOk P w K mg base CX0 2 f fd ["self", "value"] (spFourEq CF CR CA) := by
  refine F.ok sc_P_Four___eq__ (fun vs H Q E h => ?_) (fun cdv A outer s H vs Q E hr h => ?_)
  · obtain ⟨x, y, al, be, a, b, c, d, p, q, rfl, _⟩ := h; rfl
  · obtain ⟨x, y, al, be, a, b, c, d, p, q5, rfl, hx, hy, ha, hb, k, hk, q⟩ := h
    refine ⟨_, PSs.nox (pss_one (ps_ret (pe_and (pe_callB call_isi (by rfl) T.m_isinstance (by decide +kernel) (pa_cons (pv 1) (pa_cons (pe_glob (v := .ref _) rfl G_Four rfl) pa_nil))) (pe_and (pe_cmpR (eq_own M_Algebra_eq.me M_Algebra_eq.ok (hr.mono (by decide)) M_Algebra_eq.b pass0) (pe_fld (pv 0) rfl) (pe_fld (pv 1) rfl) (nomark _)) (pe_and (pe_cmpR (op_eqD hr.units) (pe_fld (pv 0) rfl) (pe_fld (pv 1) rfl) (nomark _)) (pe_one (pe_cmp (pc_eqI (pe_fld (pv 0) rfl) (pe_fld (pv 1) rfl)) rfl))))))), ?_⟩
    obtain ⟨d1, e1, t1, m1, _, _, _, _, h1, u1, _⟩ := hx.ex
    obtain ⟨d2, e2, t2, m2, _, _, _, _, h2, u2, _⟩ := hy.ex
    have kf : ∀ {z : Bool}, (z = true ↔ (a = c ∧ b = d) ∧ p = q5) → z = k := fun {z} h => Bool.eq_iff_iff.mpr (h.trans hk.symm)
    refine ⟨_, rfl, _, .ref CF, _, _, true, rfl, .own CF, R.own.ty hy.ins, R.own.kk, _, rfl, ?_⟩
    refine ⟨_, rfl, x, CF, d1, _, .ref al, rfl, h1, R.own.cls, R.n1, rfl, _, rfl, y, CF, d2, _, .ref be, rfl, h2, R.own.cls, R.n1, rfl, ?_⟩
    refine ⟨al, be, rfl, rfl, ha.ins, hb.ins, al, be, a, b, c, d, rfl, ha, hb, decide (a = c ∧ b = d), decide_eq_true_iff, _, rfl, ifd (fun h => ?_) (fun h => ?_)⟩
    · refine ⟨_, rfl, x, CF, d1, _, .ref e1, rfl, h1, R.own.cls, R.n2, rfl, _, rfl, y, CF, d2, _, .ref e2, rfl, h2, R.own.cls, R.n2, rfl, ?_⟩
      refine ⟨.tuple ((entI p).map PyData.int), .tuple ((entI q5).map PyData.int), dp_tup (ns := entI p) (SqT.of u1), dp_tup (ns := entI q5) (SqT.of u2), shp_tup _, shp_tup _, ?_⟩
      rw [eqv_tups']
      refine ⟨_, rfl, ifd (fun h3 => ?_) (fun h3 => ?_)⟩
      · refine ⟨_, rfl, x, CF, d1, _, .int p.d, rfl, h1, R.own.cls, R.n3, rfl, _, rfl, y, CF, d2, _, .int q5.d, rfl, h2, R.own.cls, R.n3, rfl, _, _, rfl, rfl, ?_⟩
        have z := kf (z := decide (p.d = q5.d)) (by
          rw [decide_eq_true_iff]
          constructor
          · intro e
            refine ⟨h, ?_⟩
            obtain ⟨w1, x1, y1, z1, dd1⟩ := p
            obtain ⟨w2, x2, y2, z2, dd2⟩ := q5
            unfold entI at h3
            simp at h3 e
            obtain ⟨r1, r2, r3, r4⟩ := h3
            subst r1 r2 r3 r4 e
            rfl
          · rintro ⟨_, e⟩
            rw [e])
        show Q (.bl (decide (p.d = q5.d))) H
        rw [z]
        exact q
      · have z := kf (z := false) ⟨fun h => Bool.noConfusion h, fun e => absurd (by rw [e.2]) h3⟩
        show Q (.bl false) H
        rw [z]
        exact q
    · have z := kf (z := false) ⟨fun h => Bool.noConfusion h, fun e => absurd e.1 h⟩
      show Q (.bl false) H
      rw [z]
      exact q
end
end Sf

namespace Sf
open PySem PySem.Spec PyProof.Rows L2
/-! a class called: what stands then -/
theorem same_new {H : Hp} {x dx C : Addr} (hx : H x = none) (hd : H dx = none) (nd : dx ≠ x) : Same H (upd (upd H dx (.own x)) x (.ins C dx [])) := (same_upd hd).trans (same_upd (by rw [upd_ne nd.symm]; exact hx))
theorem same_keep {x : Addr} {H H1 H2 : Hp} (hx : H x = none) (s : Same H H1) (k : Keep x H1 H2) : Same H H2 := fun d o e => k _ _ (s _ _ e) (ne_of_none e hx)
theorem new_alg {CA : Addr} {H : Hp} {a b : Int} {R : VK} {x dx : Addr} (a0 : a ≠ 0) (b0 : b ≠ 0) (a1 : a.natAbs ≤ 1000000000) (b1 : b.natAbs ≤ 1000000000) (hx : H x = none) (hd : H dx = none) (nd : dx ≠ x) (q : ∀ (H' : Hp), Same H H' → AlgAt CA H' x a b → R .non H') :
    AlgInitP CA [.ref x, .int a, .int b] (upd (upd H dx (.own x)) x (.ins CA dx [])) R :=
  ⟨x, dx, a, b, rfl, a0, b0, a1, b1, upd_same, fun H' k hA => q H' (same_keep hx (same_new hx hd nd) k) hA⟩
theorem new_rat {CR : Addr} {H : Hp} {t b : Int} {R : VK} {x dx : Addr} (b0 : b ≠ 0) (t1 : t.natAbs < 10 ^ 60) (b1 : b.natAbs < 10 ^ 60) (hx : H x = none) (hd : H dx = none) (nd : dx ≠ x) (q : ∀ (t' b' : Int) (H' : Hp), LowT t b t' b' → Same H H' → RatioAt CR H' x t' b' → R .non H') :
    RatInitP CR [.ref x, .int t, .int b] (upd (upd H dx (.own x)) x (.ins CR dx [])) R :=
  ⟨x, dx, t, b, rfl, b0, t1, b1, upd_same, fun t' b' H' l k hR => q t' b' H' l (same_keep hx (same_new hx hd nd) k) hR⟩
theorem new_four {CF CR CA : Addr} {H : Hp} {al e x dx : Addr} {a b : Int} {p : Q5} {R : VK} (hal : AlgAt CA H al a b) (he : H e = some (.tup (ents p))) (d0 : p.d ≠ 0) (hp : Pass60 p) (bp : Bd 3000 p) (hlow : ∀ r, Low5 p r → Bd 3000 r)
    (hx : H x = none) (hd : H dx = none) (nd : dx ≠ x) (q : ∀ (r : Q5) (H' : Hp), Low5 p r → Same H H' → FourAt CF CR H' x al a b r → R .non H') :
    FourInitP CF CR CA [.ref x, .ref al, .ref e, .int p.d] (upd (upd H dx (.own x)) x (.ins CF dx [])) R := by
  have s := same_new (C := CF) hx hd nd
  refine ⟨x, dx, al, e, a, b, p, rfl, hal.same s, fun z => ?_, s _ _ he, d0, hp, bp, upd_same, hlow, fun r H' l k hF => q r H' l (same_keep hx s k) hF⟩
  obtain ⟨_, _, _, g, _⟩ := hal.ex
  rw [z, hx] at g
  cases g
/-- a ratio has its lowest terms once -/
theorem low_one_r {t : Int} {t' b' : Int} (h : LowT t 1 t' b') : t' = t ∧ b' = 1 := by
  obtain ⟨h0, h1, h2⟩ := h
  have e : t' = t * b' := by rw [h1, Int.mul_one]
  have d : b'.natAbs ∣ t'.natAbs := Int.natAbs_dvd_natAbs.mpr ⟨t, by rw [e, Int.mul_comm]⟩
  have g : t'.natAbs.gcd b'.natAbs = b'.natAbs := Nat.gcd_eq_right d
  have b1 : b' = 1 := by omega
  subst b1
  exact ⟨by omega, rfl⟩
theorem low_one_q {w x y z : Int} {r : Q5} (h : Low5 ⟨w, x, y, z, 1⟩ r) : r = ⟨w, x, y, z, 1⟩ := by
  obtain ⟨h0, h1, h2, h3, h4, h5⟩ := h
  obtain ⟨w', x', y', z', d⟩ := r
  dsimp only at *
  have dv : ∀ {s t : Int}, s * d = t * 1 → d.natAbs ∣ t.natAbs := fun {s t} e => Int.natAbs_dvd_natAbs.mpr ⟨s, by rw [Int.mul_comm, e, Int.mul_one]⟩
  have g : d.natAbs ∣ gcd5 w' x' y' z' d := Nat.dvd_gcd (Nat.dvd_gcd (Nat.dvd_gcd (Nat.dvd_gcd (dv h1) (dv h2)) (dv h3)) (dv h4)) (Nat.dvd_refl _)
  rw [h5] at g
  have d1 : d = 1 := by
    have := Nat.dvd_one.mp g
    omega
  subst d1
  simp only [Int.mul_one] at h1 h2 h3 h4
  subst h1 h2 h3 h4
  rfl
end Sf

namespace Sf
open PySem PySem.Spec PyProof.Rows L2
def subQ (_ _ : Int) (p q : Q5) : Q5 := ⟨p.w * q.d - q.w * p.d, p.x * q.d - q.x * p.d, p.y * q.d - q.y * p.d, p.z * q.d - q.z * p.d, p.d * q.d⟩
def sclQ (t b : Int) (p : Q5) : Q5 := ⟨p.w * t, p.x * t, p.y * t, p.z * t, p.d * b⟩
theorem low5_bd {n : Nat} {p r : Q5} (hp : p.d ≠ 0) (h : Low5 p r) (b : Bd n p) : Bd n r := by
  obtain ⟨h0, h1, h2, h3, h4, h5⟩ := h
  obtain ⟨b1, b2, b3, b4, b5⟩ := b
  have dv : r.d.natAbs ∣ p.d.natAbs := by
    -- r.d divides r.w * p.d, .., r.d * p.d, whose common divisor is p.d
    have e : ∀ {s t : Int}, s * r.d = t * p.d → r.d.natAbs ∣ t.natAbs * p.d.natAbs := fun {s t} e => by
      rw [← Int.natAbs_mul, ← e, Int.natAbs_mul]
      exact Nat.dvd_mul_left _ _
    have g : r.d.natAbs ∣ (gcd5 r.w r.x r.y r.z r.d) * p.d.natAbs := by
      unfold gcd5
      rw [← Nat.gcd_mul_right, ← Nat.gcd_mul_right, ← Nat.gcd_mul_right, ← Nat.gcd_mul_right]
      exact Nat.dvd_gcd (Nat.dvd_gcd (Nat.dvd_gcd (Nat.dvd_gcd (e h1) (e h2)) (e h3)) (e h4)) (Nat.dvd_mul_right _ _)
    rw [h5, Nat.one_mul] at g
    exact g
  have le : r.d.natAbs ≤ p.d.natAbs := Nat.le_of_dvd (by omega) dv
  have small : ∀ {s t : Int}, s * r.d = t * p.d → t.natAbs ≤ s.natAbs := fun {s t} e => by
    have e2 : s.natAbs * r.d.natAbs = t.natAbs * p.d.natAbs := by rw [← Int.natAbs_mul, ← Int.natAbs_mul, e]
    have h6 : t.natAbs * r.d.natAbs ≤ s.natAbs * r.d.natAbs := by
      rw [e2]
      exact Nat.mul_le_mul_left _ le
    exact Nat.le_of_mul_le_mul_right h6 (by omega)
  exact ⟨Nat.lt_of_le_of_lt (small h1) b1, Nat.lt_of_le_of_lt (small h2) b2, Nat.lt_of_le_of_lt (small h3) b3, Nat.lt_of_le_of_lt (small h4) b4, Nat.lt_of_le_of_lt le b5⟩
theorem bd_mono {m n : Nat} {p : Q5} (h : Bd m p) (l : m ≤ n) : Bd n p := by
  have e : 2 ^ m ≤ 2 ^ n := Nat.pow_le_pow_right (by decide) l
  exact ⟨Nat.lt_of_lt_of_le h.1 e, Nat.lt_of_lt_of_le h.2.1 e, Nat.lt_of_lt_of_le h.2.2.1 e, Nat.lt_of_lt_of_le h.2.2.2.1 e, Nat.lt_of_lt_of_le h.2.2.2.2 e⟩
theorem lt_mono {m n : Nat} {i : Int} (h : i.natAbs < 2 ^ m) (l : m ≤ n) : i.natAbs < 2 ^ n := Nat.lt_of_lt_of_le h (Nat.pow_le_pow_right (by decide) l)
theorem add_lt2 {n : Nat} {i j : Int} (h1 : i.natAbs < 2 ^ n) (h2 : j.natAbs < 2 ^ n) : (i + j).natAbs < 2 ^ (n + 1) := by
  rw [Nat.pow_succ]
  omega
theorem sub_lt2 {n : Nat} {i j : Int} (h1 : i.natAbs < 2 ^ n) (h2 : j.natAbs < 2 ^ n) : (i - j).natAbs < 2 ^ (n + 1) := by
  rw [Nat.pow_succ]
  omega
theorem prodQ_bd {a b : Int} {p q : Q5} {m n k : Nat} (ha : a.natAbs < 2 ^ k) (hb : b.natAbs < 2 ^ k) (hp : Bd m p) (hq : Bd n q) : Bd (m + n + 2 * k + 2) (prodQ a b p q) := by
  obtain ⟨p1, p2, p3, p4, p5⟩ := hp
  obtain ⟨q1, q2, q3, q4, q5⟩ := hq
  have L : ∀ {i j : Int} {s t : Nat}, i.natAbs < 2 ^ s → j.natAbs < 2 ^ t → (i * j).natAbs < 2 ^ (s + t) := fun h1 h2 => wide_lt h1 h2
  have two : ∀ {i j : Int}, i.natAbs < 2 ^ m → j.natAbs < 2 ^ n → (i * j).natAbs < 2 ^ (m + n + 2 * k) := fun h1 h2 => lt_mono (L h1 h2) (by omega)
  have three : ∀ {c i j : Int}, c.natAbs < 2 ^ k → i.natAbs < 2 ^ m → j.natAbs < 2 ^ n → (c * i * j).natAbs < 2 ^ (m + n + 2 * k) := fun h0 h1 h2 => lt_mono (L (L h0 h1) h2) (by omega)
  have four : ∀ {i j : Int}, i.natAbs < 2 ^ m → j.natAbs < 2 ^ n → (a * b * i * j).natAbs < 2 ^ (m + n + 2 * k) := fun h1 h2 => lt_mono (L (L (L ha hb) h1) h2) (by omega)
  have sum : ∀ {c1 c2 c3 c4 : Int}, c1.natAbs < 2 ^ (m + n + 2 * k) → c2.natAbs < 2 ^ (m + n + 2 * k) → c3.natAbs < 2 ^ (m + n + 2 * k) → c4.natAbs < 2 ^ (m + n + 2 * k) → (c1 + c2 + c3 - c4).natAbs < 2 ^ (m + n + 2 * k + 2) ∧ (c1 + c2 - c3 + c4).natAbs < 2 ^ (m + n + 2 * k + 2) := fun {c1 c2 c3 c4} h1 h2 h3 h4 => by
    rw [Nat.pow_succ, Nat.pow_succ]
    omega
  unfold prodQ
  exact ⟨(sum (two p1 q1) (three ha p2 q2) (three hb p3 q3) (four p4 q4)).1, (sum (two p1 q2) (two p2 q1) (three hb p3 q4) (three hb p4 q3)).2, (sum (two p1 q3) (two p3 q1) (three ha p2 q4) (three ha p4 q2)).1, (sum (two p1 q4) (two p4 q1) (two p2 q3) (two p3 q2)).1, lt_mono (L p5 q5) (by omega)⟩
section
variable {P : Program} {w : World} {K : PySem.W.Frag} {mg : Str → Option Value} {base : Heap} {f : Addr} {fd : FuncData} {CR CA CF : Addr}
set_option maxHeartbeats 8000000 in
theorem ok_Four_add (F : FnD K "__add__" "Four.__add__" s_P_Four___add__ f fd) (T : Glob mg) (R : FourK K CF) (G_Four : mg "Four" = some (.ref CF)) (C_P_check_operands : Cal P w K mg base 3 "check_operands" ["one", "other"] (spOperands CF CR CA))
    (C_P_made_four : Cal P w K mg base 9 "made_four" ["algebra", "entries", "bottom"] (spMadeFour CF CR CA)) : FnOk P w K mg base CX0 10 f fd ["self", "other"] (spFourOp CF CR CA addQ) := by
  refine F.ok sc_P_Four___add__ (fun vs H Q E h => ?_) (fun cdv A outer s H vs Q E hr h => ?_)
  · obtain ⟨x, y, al, be, a, b, p, q, rfl, _⟩ := h.ex; rfl
  · obtain ⟨x, y, al, be, a, b, p, q5, rfl, hx, hy, ha, hb, bp, bq, hlow, q⟩ := h.ex
    refine ⟨_, PSs.nox (pss_cons (ps_if (pt_not (pt_val (pe_callB call_isi (by rfl) T.m_isinstance (by decide +kernel) (pa_cons (pv 1) (pa_cons (pe_glob (v := .ref _) rfl G_Four rfl) pa_nil))))) (pss_one ps_never) pss_nil)
      (pss_cons (ps_expr (pe_cal C_P_check_operands (hr.mono (by decide)) (pa_cons (pv 0) (pa_cons (pv 1) pa_nil))))
      (pss_cons (ps_set (i := 2) sc_P_Four___add__.nd rfl (Or.inl rfl) (pe_callTy call_tuple_of (by rfl) T.m_tuple (by decide +kernel) (pa_cons (pe_lc rfl sc_P_Four___add__.nd (own := [("one", 3), ("two", 4)]) (RZ.pi_zipA (by rfl) T.m_zip (pa_cons (pe_fld (pv 0) rfl) (pa_cons (pe_fld (pv 1) rfl) pa_nil))) (blkOk_by (N := ["self", "other", "entries", "one", "two"]) (sc := defScope s_P_Four___add__) (by decide +kernel)) (fun _ _ _ _ _ => pg_tupK (K := K) (n := 2) rfl (by rfl) (pgs_cons (pg_name (i := 3) sc_P_Four___add__.nd rfl (Or.inl rfl)) (pgs_cons (pg_name (i := 4) sc_P_Four___add__.nd rfl (Or.inl rfl)) pgs_nil))) (fun _ _ _ _ _ => pts_nil) (fun _ _ _ _ _ => (pe_op op_add (pe_op op_mulW (pv 3) (pe_fldK (K := K) rfl (pv 1) rfl)) (pe_op op_mulW (pv 4) (pe_fldK (K := K) rfl (pv 0) rfl))))) pa_nil)))
      (pss_one (ps_ret (pe_cal C_P_made_four (hr.mono (by decide)) (pa_cons (pe_fld (pv 0) rfl) (pa_cons (pv 2) (pa_cons (pe_op op_mulW (pe_fld (pv 0) rfl) (pe_fld (pv 1) rfl)) pa_nil))))))))), ?_⟩
    obtain ⟨d1, e1, t1, m1, _, _, _, _, h1, u1, _⟩ := hx.ex
    obtain ⟨d2, e2, t2, m2, _, _, _, _, h2, u2, _⟩ := hy.ex
    have dp := hx.pos
    have dq := hy.pos
    refine ⟨_, rfl, _, .ref CF, _, _, true, rfl, .own CF, R.own.ty hy.ins, R.own.kk, _, rfl, ?_⟩
    refine ⟨_, rfl, _, rfl, x, y, al, be, a, b, p, q5, rfl, hx, hy, ha, hb, ?_⟩
    refine ⟨_, rfl, x, CF, d1, _, .ref e1, rfl, h1, R.own.cls, R.n2, rfl, _, rfl, y, CF, d2, _, .ref e2, rfl, h2, R.own.cls, R.n2, rfl, e1, e2, _, _, rfl, .inr ⟨SqT.of u1, SqT.of u2, fun D hD => ?_⟩⟩
    refine lc_it (walk_zipT (xs := (entI p).map V.int) (ys := (entI q5).map V.int) (n := 4) rfl rfl) (fun i H' => Same H H' ∧ H' D = some (.lst ((((entI p).zip (entI q5)).take i).map fun n => V.int (n.1 * q5.d + n.2 * p.d)))) ⟨same_upd hD, upd_same⟩ (fun i H' _ hp => ⟨SqT.of (hp.1 _ _ u1), SqT.of (hp.1 _ _ u2)⟩) (fun i v H' H'' hi hp hY => ?_) (fun H' hp => ?_)
    · obtain ⟨k1, hd⟩ := hp
      obtain ⟨TT, n1, n2, rfl, hT, rfl, g1, g2⟩ := hY
      obtain ⟨z1, hz1, rfl⟩ := int_of_map' g1
      obtain ⟨z2, hz2, rfl⟩ := int_of_map' g2
      have bz : ∀ {r : Q5} {z : Int}, Bd 1400 r → (entI r)[i]? = some z → z.natAbs < 2 ^ 1400 := fun {r z} b h => by
        have hm := List.mem_of_getElem? h
        have c : z = r.w ∨ z = r.x ∨ z = r.y ∨ z = r.z := by simpa [entI] using hm
        rcases c with rfl | rfl | rfl | rfl
        · exact b.1
        · exact b.2.1
        · exact b.2.2.1
        · exact b.2.2.2.1
      have k2 := k1.trans (same_upd (o := .tup [V.int z1, V.int z2]) hT)
      refine ⟨TT, _, rfl, .inl (.inl upd_same), rfl, _, _, rfl, _, _, rfl, rfl, rfl, ?_⟩
      refine ⟨_, rfl, _, rfl, y, CF, d2, _, .int q5.d, rfl, k2 _ _ h2, R.own.cls, R.n3, rfl, _, _, rfl, rfl, wmul (bz bp hz1) bq.2.2.2.2 (by decide) (by decide) (by decide), ?_⟩
      refine ⟨_, rfl, _, rfl, x, CF, d1, _, .int p.d, rfl, k2 _ _ h1, R.own.cls, R.n3, rfl, _, _, rfl, rfl, wmul (bz bq hz2) bp.2.2.2.2 (by decide) (by decide) (by decide), _, _, rfl, rfl, _, by rw [upd_ne (ne_of_none hd hT)]; exact hd, ?_, ?_, ?_⟩
      · rw [List.length_map]
        have := List.length_take_le' i ((entI p).zip (entI q5))
        exact Nat.lt_of_le_of_lt this (by show 4 < sizeLine; decide)
      · intro c o ec
        rw [upd_ne (ne_of_none ec hD)]
        exact k2 _ _ ec
      · have hz : ((entI p).zip (entI q5))[i]? = some (z1, z2) := by
          rw [List.getElem?_zip_eq_some]
          exact ⟨hz1, hz2⟩
        rw [upd_same, List.take_add_one, hz, List.map_append]
        rfl
    · obtain ⟨k1, hd⟩ := hp
      refine ⟨D, _, rfl, .inl ⟨SqL.of hd, fun t ht => ?_⟩⟩
      have et : (((entI p).zip (entI q5)).take 4).map (fun n => V.int (n.1 * q5.d + n.2 * p.d)) = ents (addQ a b p q5) := rfl
      rw [et]
      have k2 := k1.trans (same_upd (o := .tup (ents (addQ a b p q5))) ht)
      refine ⟨_, rfl, x, CF, d1, _, .ref al, rfl, k2 _ _ h1, R.own.cls, R.n1, rfl, _, rfl, _, rfl, x, CF, d1, _, .int p.d, rfl, k2 _ _ h1, R.own.cls, R.n3, rfl, _, rfl, y, CF, d2, _, .int q5.d, rfl, k2 _ _ h2, R.own.cls, R.n3, rfl, _, _, rfl, rfl, wmul bp.2.2.2.2 bq.2.2.2.2 (by decide) (by decide) (by decide), ?_⟩
      refine ⟨⟨al, t, a, b, addQ a b p q5, rfl, ha.same k2, upd_same, ?_, ?_, hlow, fun r z H' hl hz e hF => q r z H' hl (k2.free hz) (k2.trans e) hF⟩⟩
      · exact Int.mul_ne_zero (by omega) (by omega)
      · exact Nat.lt_of_lt_of_le (wide_lt bp.2.2.2.2 bq.2.2.2.2) (Nat.pow_le_pow_right (by decide) (by decide))
end
end Sf

namespace Sf
open PySem PySem.Spec PyProof.Rows L2
/-- the same four: cross products -/
def Cross (p q : Q5) : Prop := p.w * q.d = q.w * p.d ∧ p.x * q.d = q.x * p.d ∧ p.y * q.d = q.y * p.d ∧ p.z * q.d = q.z * p.d
theorem Cross.symm {p q : Q5} (h : Cross p q) : Cross q p := ⟨h.1.symm, h.2.1.symm, h.2.2.1.symm, h.2.2.2.symm⟩
theorem cr1 {a b c d e f : Int} (h1 : a * d = b * e) (h2 : b * f = c * d) (d0 : d ≠ 0) : a * f = c * e := by
  have h : (a * f) * d = (c * e) * d := by
    calc (a * f) * d = (a * d) * f := by simp only [Int.mul_comm, Int.mul_left_comm]
      _ = (b * e) * f := by rw [h1]
      _ = (b * f) * e := by simp only [Int.mul_comm, Int.mul_left_comm]
      _ = (c * d) * e := by rw [h2]
      _ = (c * e) * d := by simp only [Int.mul_comm, Int.mul_left_comm]
  exact Int.eq_of_mul_eq_mul_right d0 h
theorem Cross.trans {p q r : Q5} (h : Cross p q) (g : Cross q r) (d0 : q.d ≠ 0) : Cross p r := ⟨cr1 h.1 g.1 d0, cr1 h.2.1 g.2.1 d0, cr1 h.2.2.1 g.2.2.1 d0, cr1 h.2.2.2 g.2.2.2 d0⟩
def Nrm (r : Q5) : Prop := 0 < r.d ∧ gcd5 r.w r.x r.y r.z r.d = 1
theorem Low5.cross {p r : Q5} (h : Low5 p r) : Cross p r := ⟨h.2.1, h.2.2.1, h.2.2.2.1, h.2.2.2.2.1⟩
theorem Low5.nrm {p r : Q5} (h : Low5 p r) : Nrm r := ⟨h.1, h.2.2.2.2.2⟩
theorem low5_mk {p r : Q5} (n : Nrm r) (c : Cross p r) : Low5 p r := ⟨n.1, c.1, c.2.1, c.2.2.1, c.2.2.2, n.2⟩
theorem nrm_dvd {r s : Q5} (hr : Nrm r) (c : Cross r s) : r.d.natAbs ∣ s.d.natAbs := by
  have e : ∀ {a b : Int}, a * s.d = b * r.d → r.d.natAbs ∣ a.natAbs * s.d.natAbs := fun {a b} e => by
    rw [← Int.natAbs_mul, e, Int.natAbs_mul]
    exact Nat.dvd_mul_left _ _
  have g : r.d.natAbs ∣ (gcd5 r.w r.x r.y r.z r.d) * s.d.natAbs := by
    unfold gcd5
    rw [← Nat.gcd_mul_right, ← Nat.gcd_mul_right, ← Nat.gcd_mul_right, ← Nat.gcd_mul_right]
    exact Nat.dvd_gcd (Nat.dvd_gcd (Nat.dvd_gcd (Nat.dvd_gcd (e c.1) (e c.2.1)) (e c.2.2.1)) (e c.2.2.2)) (Nat.dvd_mul_right _ _)
  rw [hr.2, Nat.one_mul] at g
  exact g
theorem nrm_uni {r s : Q5} (hr : Nrm r) (hs : Nrm s) (c : Cross r s) : r = s := by
  have d : r.d = s.d := by
    have := Nat.dvd_antisymm (nrm_dvd hr c) (nrm_dvd hs c.symm)
    have h1 := hr.1
    have h2 := hs.1
    omega
  obtain ⟨w, x, y, z, d1⟩ := r
  obtain ⟨w', x', y', z', d2⟩ := s
  obtain ⟨h1, h2, h3, h4⟩ := c
  obtain ⟨hp, _⟩ := hr
  dsimp only at *
  subst d
  have d0 : d1 ≠ 0 := by omega
  rw [Int.eq_of_mul_eq_mul_right d0 h1, Int.eq_of_mul_eq_mul_right d0 h2, Int.eq_of_mul_eq_mul_right d0 h3, Int.eq_of_mul_eq_mul_right d0 h4]
theorem low5_uni {p q r s : Q5} (hr : Low5 p r) (hs : Low5 q s) (c : Cross p q) (p0 : p.d ≠ 0) (q0 : q.d ≠ 0) : r = s :=
  nrm_uni hr.nrm hs.nrm ((hr.cross.symm.trans c p0).trans hs.cross q0)
theorem FourAt.nrm {CF CR : Addr} {H : Hp} {x al : Addr} {a b : Int} {q : Q5} (h : FourAt CF CR H x al a b q) : Nrm q := ⟨h.pos, h.low⟩
theorem Cross.refl (p : Q5) : Cross p p := ⟨rfl, rfl, rfl, rfl⟩
theorem low_self {q r : Q5} (n : Nrm q) (h : Low5 q r) : r = q := nrm_uni h.nrm n h.cross.symm
theorem negQ_nrm {q : Q5} (n : Nrm q) : Nrm (negQ q) := by
  refine ⟨n.1, ?_⟩
  have h := n.2
  unfold gcd5 negQ at *
  dsimp only
  rw [Int.natAbs_neg, Int.natAbs_neg, Int.natAbs_neg, Int.natAbs_neg]
  exact h
theorem add_neg (a b : Int) (p q : Q5) : addQ a b p (negQ q) = subQ a b p q := by
  unfold addQ negQ subQ
  dsimp only
  rw [Int.neg_mul, Int.neg_mul, Int.neg_mul, Int.neg_mul]
  rfl
/-! powers -/
def oneQ : Q5 := ⟨1, 0, 0, 0, 1⟩
def pw (a b : Int) (p : Q5) : Nat → Q5
  | 0 => oneQ
  | n + 1 => prodQ a b (pw a b p n) p
theorem q5_ext {p q : Q5} (h1 : p.w = q.w) (h2 : p.x = q.x) (h3 : p.y = q.y) (h4 : p.z = q.z) (h5 : p.d = q.d) : p = q := by
  obtain ⟨_, _, _, _, _⟩ := p
  obtain ⟨_, _, _, _, _⟩ := q
  dsimp only at *
  subst h1 h2 h3 h4 h5
  rfl
theorem prod_assoc (a b : Int) (p q r : Q5) : prodQ a b (prodQ a b p q) r = prodQ a b p (prodQ a b q r) := by
  unfold prodQ
  refine q5_ext ?_ ?_ ?_ ?_ ?_ <;> dsimp only <;> grind
theorem one_prod (a b : Int) (p : Q5) : prodQ a b oneQ p = p := by
  unfold prodQ oneQ
  refine q5_ext ?_ ?_ ?_ ?_ ?_ <;> dsimp only <;> grind
theorem prod_one (a b : Int) (p : Q5) : prodQ a b p oneQ = p := by
  unfold prodQ oneQ
  refine q5_ext ?_ ?_ ?_ ?_ ?_ <;> dsimp only <;> grind
theorem pw_succ' (a b : Int) (p : Q5) : ∀ n, pw a b p (n + 1) = prodQ a b p (pw a b p n)
  | 0 => by
    show prodQ a b oneQ p = prodQ a b p oneQ
    rw [one_prod, prod_one]
  | n + 1 => by
    show prodQ a b (pw a b p (n + 1)) p = prodQ a b p (prodQ a b (pw a b p n) p)
    rw [pw_succ' a b p n, prod_assoc]
theorem pw_sq (a b : Int) (p : Q5) : ∀ n, pw a b (prodQ a b p p) n = pw a b p (2 * n)
  | 0 => rfl
  | n + 1 => by
    show prodQ a b (pw a b (prodQ a b p p) n) (prodQ a b p p) = prodQ a b (prodQ a b (pw a b p (2 * n)) p) p
    rw [pw_sq a b p n, prod_assoc]
def invQ (a b : Int) (p : Q5) : Q5 := ⟨p.w * p.d, -p.x * p.d, -p.y * p.d, -p.z * p.d, normT a b p⟩
end Sf

namespace Sf
open PySem PySem.Spec PyProof.Rows L2
section
variable {P : Program} {w : World} {K : PySem.W.Frag} {mg : Str → Option Value} {base : Heap} {f : Addr} {fd : FuncData} {CR CA CF : Addr}
theorem ok_Four_sub (F : FnD K "__sub__" "Four.__sub__" s_P_Four___sub__ f fd) (T : Glob mg) (R : FourK K CF) (G_Four : mg "Four" = some (.ref CF)) (O_Four : OwnK K CF) (M_Four_neg : CalM P w K mg base 10 "__neg__" CF ["self"] (spFour1 CF CR CA negQ)) (M_Four_add : CalM P w K mg base 10 "__add__" CF ["self", "other"] (spFourOp CF CR CA addQ)) :
    FnOk P w K mg base CX0 12 f fd ["self", "other"] (spFourOp CF CR CA subQ) := by
  refine F.ok sc_P_Four___sub__ (fun vs H Q E h => ?_) (fun cdv A outer s H vs Q E hr h => ?_)
  · obtain ⟨x, y, al, be, a, b, p, q, rfl, _⟩ := h.ex; rfl
  · obtain ⟨x, y, al, be, a, b, p, q5, rfl, hx, hy, ha, hb, bp, bq, hlow, q⟩ := h.ex
    refine ⟨_, PSs.nox (pss_cons (ps_if (pt_not (pt_val (pe_callB call_isi (by rfl) T.m_isinstance (by decide +kernel) (pa_cons (pv 1) (pa_cons (pe_glob (v := .ref _) rfl G_Four rfl) pa_nil))))) (pss_one ps_never) pss_nil)
      (pss_one (ps_ret (pe_op (op_own (M_Four_add.me.cast (by decide +kernel)) M_Four_add.ok (hr.mono (by decide)) M_Four_add.b pass0 O_Four.sf) (pv 0) (pe_un (un_own M_Four_neg.me M_Four_neg.ok (hr.mono (by decide)) M_Four_neg.b pass0) (pv 1)))))), ?_⟩
    refine ⟨_, rfl, _, .ref CF, _, _, true, rfl, .own CF, R.own.ty hy.ins, R.own.kk, _, rfl, ?_⟩
    have nn := negQ_nrm hy.nrm
    have dq := hy.pos
    have bn : Bd 1400 (negQ q5) := ⟨by show (-q5.w).natAbs < _; rw [Int.natAbs_neg]; exact bq.1, by show (-q5.x).natAbs < _; rw [Int.natAbs_neg]; exact bq.2.1, by show (-q5.y).natAbs < _; rw [Int.natAbs_neg]; exact bq.2.2.1, by show (-q5.z).natAbs < _; rw [Int.natAbs_neg]; exact bq.2.2.2.1, bq.2.2.2.2⟩
    refine ⟨_, rfl, _, rfl, y, rfl, hy.ins, ⟨y, be, a, b, q5, rfl, hy, hb, bd_mono bq (by decide), fun r hr => by rw [low_self nn hr]; exact bd_mono bn (by decide), fun r z H1 hl hz e1 hF => ?_⟩⟩
    have er := low_self nn hl
    subst er
    exact ⟨x, z, rfl, rfl, (hx.same e1).ins, hF.ins, ⟨x, z, al, be, a, b, p, negQ q5, rfl, hx.same e1, hF, ha.same e1, hb.same e1, bp, bn, fun r hr => hlow r (by rw [← add_neg a b p q5]; exact hr), fun r z2 H2 hl2 hz2 e2 hF2 => q r z2 H2 (by rw [← add_neg a b p q5]; exact hl2) (e1.free hz2) (e1.trans e2) hF2⟩⟩
structure BasisP (CF CR CA : Addr) (vs : List V) (H : Hp) (Q : VK) : Prop where
  ex : ∃ (al : Addr) (a b : Int), vs = [.ref al] ∧ AlgAt CA H al a b ∧ ∀ (x0 x1 x2 x3 t : Addr) (H' : Hp), Same H H' → H' t = some (.tup [.ref x0, .ref x1, .ref x2, .ref x3]) → FourAt CF CR H' x0 al a b ⟨1, 0, 0, 0, 1⟩ → FourAt CF CR H' x1 al a b ⟨0, 1, 0, 0, 1⟩ → FourAt CF CR H' x2 al a b ⟨0, 0, 1, 0, 1⟩ → FourAt CF CR H' x3 al a b ⟨0, 0, 0, 1, 1⟩ → Q (.ref t) H'
def spBasis (CF CR CA : Addr) : Sp := fun vs H Q _ => BasisP CF CR CA vs H Q
theorem unit_four {CF CR CA : Addr} {H : Hp} {al e x dx : Addr} {a b i j k l : Int} {R : VK} (hi : i = 0 ∨ i = 1) (hj : j = 0 ∨ j = 1) (hk : k = 0 ∨ k = 1) (hl : l = 0 ∨ l = 1) (hal : AlgAt CA H al a b) (he : H e = some (.tup [.int i, .int j, .int k, .int l]))
    (hx : H x = none) (hd : H dx = none) (nd : dx ≠ x) (q : ∀ (H' : Hp), Same H H' → FourAt CF CR H' x al a b ⟨i, j, k, l, 1⟩ → R .non H') : FourInitP CF CR CA [.ref x, .ref al, .ref e, .int 1] (upd (upd H dx (.own x)) x (.ins CF dx [])) R := by
  have o : ∀ {i : Int}, i = 0 ∨ i = 1 → i.natAbs < 10 ^ 60 ∧ i.natAbs < 2 ^ 3000 := fun h => by
    rcases h with rfl | rfl
    · exact ⟨by decide +kernel, by decide +kernel⟩
    · exact ⟨by decide +kernel, by decide +kernel⟩
  have one := o (.inr (rfl : (1 : Int) = 1))
  have bd : Bd 3000 ⟨i, j, k, l, 1⟩ := ⟨(o hi).2, (o hj).2, (o hk).2, (o hl).2, one.2⟩
  exact new_four (p := ⟨i, j, k, l, 1⟩) hal he (by show (1 : Int) ≠ 0; decide) ⟨(o hi).1, (o hj).1, (o hk).1, (o hl).1, one.1⟩ bd (fun r hr => by rw [low_one_q hr]; exact bd) hx hd nd fun r H' hr e hF => by
    have er := low_one_q hr
    subst er
    exact q H' e hF
theorem ok_Algebra_basis (F : FnD K "basis" "Algebra.basis" s_P_Algebra_basis f fd) (N_Four_2 : CalC P w K mg base 7 "Four" CF ["self", "algebra", "entries", "bottom"] [.int 1] (spFourInit CF CR CA)) : FnOk P w K mg base CX0 9 f fd ["self"] (spBasis CF CR CA) := by
  refine F.ok sc_P_Algebra_basis (fun vs H Q E h => ?_) (fun cdv A outer s H vs Q E hr h => ?_)
  · obtain ⟨al, a, b, rfl, _⟩ := h.ex; rfl
  · obtain ⟨al, a, b, rfl, ha, q⟩ := h.ex
    refine ⟨_, PSs.nox (pss_one (ps_ret (pe_tup (pa_cons (pe_new N_Four_2 (hr.mono (by decide)) (pa_cons (pv 0) (pa_cons (pe_tup (pa_cons pe_int (pa_cons pe_int (pa_cons pe_int (pa_cons pe_int pa_nil))))) pa_nil))) (pa_cons (pe_new N_Four_2 (hr.mono (by decide)) (pa_cons (pv 0) (pa_cons (pe_tup (pa_cons pe_int (pa_cons pe_int (pa_cons pe_int (pa_cons pe_int pa_nil))))) pa_nil))) (pa_cons (pe_new N_Four_2 (hr.mono (by decide)) (pa_cons (pv 0) (pa_cons (pe_tup (pa_cons pe_int (pa_cons pe_int (pa_cons pe_int (pa_cons pe_int pa_nil))))) pa_nil))) (pa_cons (pe_new N_Four_2 (hr.mono (by decide)) (pa_cons (pv 0) (pa_cons (pe_tup (pa_cons pe_int (pa_cons pe_int (pa_cons pe_int (pa_cons pe_int pa_nil))))) pa_nil))) pa_nil))))))), ?_⟩
    refine ⟨_, rfl, (by show 4 ≤ sizeLine; decide), fun e0 he0 => fun x0 dx0 hx0 hd0 nd0 => unit_four (.inr rfl) (.inl rfl) (.inl rfl) (.inl rfl) (ha.same (same_upd he0)) upd_same hx0 hd0 nd0 fun H0 k0 f0 => ⟨rfl, ?_⟩⟩
    have s0 := (same_upd (o := .tup [V.int 1, V.int 0, V.int 0, V.int 0]) he0).trans k0
    refine ⟨_, rfl, (by show 4 ≤ sizeLine; decide), fun e1 he1 => fun x1 dx1 hx1 hd1 nd1 => unit_four (.inl rfl) (.inr rfl) (.inl rfl) (.inl rfl) ((ha.same s0).same (same_upd he1)) upd_same hx1 hd1 nd1 fun H1 k1 f1 => ⟨rfl, ?_⟩⟩
    have s1 := (same_upd (o := .tup [V.int 0, V.int 1, V.int 0, V.int 0]) he1).trans k1
    refine ⟨_, rfl, (by show 4 ≤ sizeLine; decide), fun e2 he2 => fun x2 dx2 hx2 hd2 nd2 => unit_four (.inl rfl) (.inl rfl) (.inr rfl) (.inl rfl) (((ha.same s0).same s1).same (same_upd he2)) upd_same hx2 hd2 nd2 fun H2 k2 f2 => ⟨rfl, ?_⟩⟩
    have s2 := (same_upd (o := .tup [V.int 0, V.int 0, V.int 1, V.int 0]) he2).trans k2
    refine ⟨_, rfl, (by show 4 ≤ sizeLine; decide), fun e3 he3 => fun x3 dx3 hx3 hd3 nd3 => unit_four (.inl rfl) (.inl rfl) (.inl rfl) (.inr rfl) ((((ha.same s0).same s1).same s2).same (same_upd he3)) upd_same hx3 hd3 nd3 fun H3 k3 f3 => ⟨rfl, ?_⟩⟩
    have s3 := (same_upd (o := .tup [V.int 0, V.int 0, V.int 0, V.int 1]) he3).trans k3
    refine ⟨(by show 4 ≤ sizeLine; decide), fun t ht => q x0 x1 x2 x3 t _ ((((s0.trans s1).trans s2).trans s3).trans (same_upd ht)) upd_same ?_ ?_ ?_ ?_⟩
    · exact (((f0.same s1).same s2).same s3).same (same_upd ht)
    · exact ((f1.same s2).same s3).same (same_upd ht)
    · exact (f2.same s3).same (same_upd ht)
    · exact f3.same (same_upd ht)
end
end Sf

namespace Sf
open PySem PySem.Spec PyProof.Rows L2
section
variable {P : Program} {w : World} {K : PySem.W.Frag} {mg : Str → Option Value} {base : Heap} {f : Addr} {fd : FuncData} {CR CA CF : Addr}
structure ScaledP (CF CR CA : Addr) (vs : List V) (H : Hp) (Q : VK) : Prop where
  ex : ∃ (x al : Addr) (a b t u : Int) (v : V) (p : Q5), vs = [.ref x, v] ∧ FourAt CF CR H x al a b p ∧ AlgAt CA H al a b ∧ RatV CR H v t u ∧ u ≠ 0 ∧ t.natAbs < 2 ^ 1400 ∧ u.natAbs < 2 ^ 1400 ∧ Bd 1400 p ∧
    ∀ (r : Q5) (z : Addr) (H' : Hp), Low5 (sclQ t u p) r → H z = none → Same H H' → FourAt CF CR H' z al a b r → Q (.ref z) H'
def spScaled (CF CR CA : Addr) : Sp := fun vs H Q _ => ScaledP CF CR CA vs H Q
theorem ok_Four_scaled (F : FnD K "scaled" "Four.scaled" s_P_Four_scaled f fd) (T : Glob mg) (R : FourK K CF) (C_P_check_ratio : Cal P w K mg base 4 "check_ratio" ["value"] (spRatV CR .non)) (C_P_terms_of : Cal P w K mg base 1 "terms_of" ["ratio"] (spTermsOf CR))
    (C_P_made_four : Cal P w K mg base 9 "made_four" ["algebra", "entries", "bottom"] (spMadeFour CF CR CA)) : FnOk P w K mg base CX0 10 f fd ["self", "ratio"] (spScaled CF CR CA) := by
  refine F.ok sc_P_Four_scaled (fun vs H Q E h => ?_) (fun cdv A outer s H vs Q E hr h => ?_)
  · obtain ⟨x, al, a, b, t, u, v, p, rfl, _⟩ := h.ex; rfl
  · obtain ⟨x, al, a, b, t, u, v, p, rfl, hx, ha, hv, u0, bt, bu, bp, q⟩ := h.ex
    refine ⟨_, PSs.nox (pss_cons (ps_expr (pe_cal C_P_check_ratio (hr.mono (by decide)) (pa_cons (pv 1) pa_nil)))
      (pss_cons (ps_asg (pe_cal C_P_terms_of (hr.mono (by decide)) (pa_cons (pv 1) pa_nil)) (pg_tup (by rfl) (pgs_cons (pg_name (i := 2) sc_P_Four_scaled.nd rfl (Or.inr rfl)) (pgs_cons (pg_name (i := 3) sc_P_Four_scaled.nd rfl (Or.inl rfl)) pgs_nil))))
      (pss_one (ps_ret (pe_cal C_P_made_four (hr.mono (by decide)) (pa_cons (pe_fld (pv 0) rfl) (pa_cons (pe_callTy call_tuple_of (by rfl) T.m_tuple (by decide +kernel) (pa_cons (pe_lc rfl sc_P_Four_scaled.nd (own := [("part", 4)]) (pi_tup (pe_fld (pv 0) rfl)) (blkOk_by (N := ["self", "ratio", "top", "bottom", "part"]) (sc := defScope s_P_Four_scaled) (by decide +kernel)) (fun _ _ _ _ _ => pg_name (i := 4) sc_P_Four_scaled.nd rfl (Or.inl rfl)) (fun _ _ _ _ _ => pts_nil) (fun _ _ _ _ _ => (pe_op op_mulW (pv 4) (pv 2)))) pa_nil)) (pa_cons (pe_op op_mulW (pe_fld (pv 0) rfl) (pv 3)) pa_nil)))))))), ?_⟩
    obtain ⟨d1, e1, t1, m1, _, _, _, _, h1, u1, _⟩ := hx.ex
    have dp := hx.pos
    refine ⟨_, rfl, v, t, u, rfl, hv, _, rfl, v, t, u, rfl, hv, fun c hc => ?_⟩
    have k0 := same_upd (o := .tup [V.int t, V.int u]) hc
    refine ⟨c, _, rfl, .inl (.inl upd_same), rfl, _, _, rfl, _, _, rfl, rfl, ?_⟩
    refine ⟨_, rfl, x, CF, d1, _, .ref al, rfl, k0 _ _ h1, R.own.cls, R.n1, rfl, _, rfl, x, CF, d1, _, .ref e1, rfl, k0 _ _ h1, R.own.cls, R.n2, rfl, e1, rfl, ⟨_, SqT.of (k0 _ _ u1)⟩, fun D hD => lc_tup (K := K) (a := e1) (xs := (entI p).map V.int) (fun i H' => Same (upd H c (.tup [V.int t, V.int u])) H' ∧ H' D = some (.lst (((entI p).take i).map fun n => V.int (n * t)))) ⟨same_upd hD, upd_same⟩ (fun i H' _ hp => SqT.of (hp.1 _ _ (k0 _ _ u1))) (fun i v H' hv hp => ?_) (fun H' hp => ?_)⟩
    · obtain ⟨k1, hd⟩ := hp
      obtain ⟨n, hn, rfl⟩ := int_of_map' hv
      have bn : n.natAbs < 2 ^ 1400 := by
        have hm := List.mem_of_getElem? hn
        have c : n = p.w ∨ n = p.x ∨ n = p.y ∨ n = p.z := by simpa [entI] using hm
        rcases c with rfl | rfl | rfl | rfl
        · exact bp.1
        · exact bp.2.1
        · exact bp.2.2.1
        · exact bp.2.2.2.1
      refine ⟨rfl, _, rfl, _, rfl, _, _, rfl, rfl, wmul bn bt (by decide) (by decide) (by decide), _, hd, ?_, ?_, ?_⟩
      · rw [List.length_map]
        have := List.length_take_le' i (entI p)
        exact Nat.lt_of_le_of_lt this (by show 4 < sizeLine; decide)
      · intro b o eb
        rw [upd_ne (ne_of_none eb hD)]
        exact k1 _ _ eb
      · rw [upd_same, List.take_add_one, hn, List.map_append]; rfl
    · obtain ⟨k1, hd⟩ := hp
      refine ⟨D, _, rfl, .inl ⟨SqL.of hd, fun tt htt => ?_⟩⟩
      have et : ((entI p).take ((entI p).map V.int).length).map (fun n => V.int (n * t)) = ents (sclQ t u p) := rfl
      rw [et]
      have k2 := (k0.trans k1).trans (same_upd (o := .tup (ents (sclQ t u p))) htt)
      have bs : Bd 2800 (sclQ t u p) := ⟨wide_lt bp.1 bt, wide_lt bp.2.1 bt, wide_lt bp.2.2.1 bt, wide_lt bp.2.2.2.1 bt, wide_lt bp.2.2.2.2 bu⟩
      have d0 : (sclQ t u p).d ≠ 0 := Int.mul_ne_zero (by omega) u0
      refine ⟨_, rfl, x, CF, d1, _, .int p.d, rfl, k2 _ _ h1, R.own.cls, R.n3, rfl, _, rfl, _, _, rfl, rfl, wmul bp.2.2.2.2 bu (by decide) (by decide) (by decide), ⟨al, tt, a, b, sclQ t u p, rfl, ha.same k2, upd_same, d0, lt_mono bs.2.2.2.2 (by decide), fun r hr => bd_mono (low5_bd d0 hr bs) (by decide), fun r z H'' hl hz e hF => q r z H'' hl (k2.free hz) (k2.trans e) hF⟩⟩
end
end Sf

namespace Sf
open PySem PySem.Spec PyProof.Rows L2
theorem lowT_bd {t b t' b' : Int} (b0 : b ≠ 0) (h : LowT t b t' b') : t'.natAbs ≤ t.natAbs ∧ b'.natAbs ≤ b.natAbs := by
  obtain ⟨h0, h1, h2⟩ := h
  have e : t.natAbs * b'.natAbs = t'.natAbs * b.natAbs := by rw [← Int.natAbs_mul, ← Int.natAbs_mul, h1]
  have dv : b'.natAbs ∣ b.natAbs := by
    have d : b'.natAbs ∣ t'.natAbs * b.natAbs := by rw [← e]; exact Nat.dvd_mul_left _ _
    exact Nat.Coprime.dvd_of_dvd_mul_left (by rw [Nat.coprime_comm]; exact h2) d
  have le : b'.natAbs ≤ b.natAbs := Nat.le_of_dvd (by omega) dv
  refine ⟨?_, le⟩
  have h3 : t'.natAbs * b.natAbs ≤ t.natAbs * b.natAbs := by
    rw [← e]
    exact Nat.mul_le_mul_left _ le
  exact Nat.le_of_mul_le_mul_right h3 (by omega)
theorem normT_bd {a b : Int} {p : Q5} {n k : Nat} (ha : a.natAbs < 2 ^ k) (hb : b.natAbs < 2 ^ k) (hp : Bd n p) : (normT a b p).natAbs < 2 ^ (n + n + 2 * k + 2) := by
  have h := (prodQ_bd ha hb hp (q := mateQ p) (n := n) ⟨hp.1, by show (-p.x).natAbs < _; rw [Int.natAbs_neg]; exact hp.2.1, by show (-p.y).natAbs < _; rw [Int.natAbs_neg]; exact hp.2.2.1, by show (-p.z).natAbs < _; rw [Int.natAbs_neg]; exact hp.2.2.2.1, hp.2.2.2.2⟩).1
  have e : (prodQ a b p (mateQ p)).w = normT a b p := by
    unfold prodQ mateQ normT
    dsimp only
    grind
  rw [e] at h
  exact h
section
variable {P : Program} {w : World} {K : PySem.W.Frag} {mg : Str → Option Value} {base : Heap} {f : Addr} {fd : FuncData} {CR CA CF : Addr}
structure InverseP (CF CR CA : Addr) (vs : List V) (H : Hp) (Q : VK) : Prop where
  ex : ∃ (x al : Addr) (a b : Int) (p : Q5), vs = [.ref x] ∧ FourAt CF CR H x al a b p ∧ AlgAt CA H al a b ∧ a.natAbs < 2 ^ 10 ∧ b.natAbs < 2 ^ 10 ∧ Bd 600 p ∧ normT a b p ≠ 0 ∧
    ∀ (r : Q5) (z : Addr) (H' : Hp), Low5 (invQ a b p) r → H z = none → Same H H' → FourAt CF CR H' z al a b r → Q (.ref z) H'
def spInverse (CF CR CA : Addr) : Sp := fun vs H Q _ => InverseP CF CR CA vs H Q
def invP (p : Q5) (n1 n2 : Int) : Q5 := ⟨p.w * n2, -p.x * n2, -p.y * n2, -p.z * n2, p.d * n1⟩
theorem inv_cross {a b n1 n2 : Int} {p : Q5} (h : LowT (normT a b p) (p.d * p.d) n1 n2) : Cross (invQ a b p) (invP p n1 n2) := by
  have e := h.2.1
  unfold Cross invQ invP
  dsimp only
  generalize normT a b p = N at *
  refine ⟨?_, ?_, ?_, ?_⟩ <;> grind
theorem ok_Four_inverse (F : FnD K "inverse" "Four.inverse" s_P_Four_inverse f fd) (T : Glob mg) (R : FourK K CF) (RR : RatioK K CR) (M_Ratio_bool : CalM P w K mg base 1 "__bool__" CR ["self"] (spRatBool CR)) (C_P_mate_entries : Cal P w K mg base 1 "mate_entries" ["entries"] spMateE)
    (C_P_made_four : Cal P w K mg base 9 "made_four" ["algebra", "entries", "bottom"] (spMadeFour CF CR CA)) : FnOk P w K mg base CX0 10 f fd ["self"] (spInverse CF CR CA) := by
  refine F.ok sc_P_Four_inverse (fun vs H Q E h => ?_) (fun cdv A outer s H vs Q E hr h => ?_)
  · obtain ⟨x, al, a, b, p, rfl, _⟩ := h.ex; rfl
  · obtain ⟨x, al, a, b, p, rfl, hx, ha, ba, bb, bp, nz, q⟩ := h.ex
    refine ⟨_, PSs.nox (pss_cons (ps_if (pt_not (pt_truthR (pe_fld (pv 0) rfl) (tru_own M_Ratio_bool.me M_Ratio_bool.ok (hr.mono (by decide)) M_Ratio_bool.b pass0) (fun _ => rfl))) (pss_one ps_never) pss_nil)
      (pss_cons (ps_set (i := 1) sc_P_Four_inverse.nd rfl (Or.inl rfl) (pe_callTy call_tuple_of (by rfl) T.m_tuple (by decide +kernel) (pa_cons (pe_lc rfl sc_P_Four_inverse.nd (own := [("part", 2)]) (pi_tup (pe_cal C_P_mate_entries (hr.mono (by decide)) (pa_cons (pe_fld (pv 0) rfl) pa_nil))) (blkOk_by (N := ["self", "entries", "part"]) (sc := defScope s_P_Four_inverse) (by decide +kernel)) (fun _ _ _ _ _ => pg_name (i := 2) sc_P_Four_inverse.nd rfl (Or.inl rfl)) (fun _ _ _ _ _ => pts_nil) (fun _ _ _ _ _ => (pe_op op_mulW (pv 2) (pe_fldK (K := K) rfl (pe_fldK (K := K) rfl (pv 0) rfl) rfl)))) pa_nil)))
      (pss_one (ps_ret (pe_cal C_P_made_four (hr.mono (by decide)) (pa_cons (pe_fld (pv 0) rfl) (pa_cons (pv 1) (pa_cons (pe_op op_mulW (pe_fld (pv 0) rfl) (pe_fld (pe_fld (pv 0) rfl) rfl)) pa_nil)))))))), ?_⟩
    obtain ⟨d1, e1, tr, nm, t1, t2, n1, n2, h1, u1, _, _, hN, lN⟩ := hx.ex
    have dp := hx.pos
    have dd : p.d * p.d ≠ 0 := Int.mul_ne_zero (by omega) (by omega)
    have n10 : n1 ≠ 0 := fun z => by
      have e := lN.2.1
      rw [z, Int.zero_mul] at e
      exact nz ((Int.mul_eq_zero.mp e).resolve_right (by have := lN.1; omega))
    obtain ⟨c1, c2⟩ := lowT_bd dd lN
    have bN := normT_bd ba bb bp
    have b1 : n1.natAbs < 2 ^ 1222 := Nat.lt_of_le_of_lt c1 bN
    have b2 : n2.natAbs < 2 ^ 1222 := Nat.lt_of_le_of_lt c2 (lt_mono (wide_lt bp.2.2.2.2 bp.2.2.2.2) (by decide))
    have hb : (n1 != 0) = true := by simpa using n10
    refine ⟨_, rfl, x, CF, d1, _, .ref nm, rfl, h1, R.own.cls, R.n5, rfl, nm, rfl, hN.ins, nm, n1, n2, rfl, hN, _, rfl, ifnb (fun h => absurd (h.symm.trans hb) (by decide)) (fun _ => ?_)⟩
    refine ⟨_, rfl, x, CF, d1, _, .ref e1, rfl, h1, R.own.cls, R.n2, rfl, e1, p, rfl, u1, fun me hme => ?_⟩
    have k0 := same_upd (o := .tup (ents (mateQ p))) hme
    refine ⟨me, rfl, ⟨_, SqT.of upd_same⟩, fun D hD => lc_tup (K := K) (a := me) (xs := (entI (mateQ p)).map V.int) (fun i H' => Same (upd H me (.tup (ents (mateQ p)))) H' ∧ H' D = some (.lst (((entI (mateQ p)).take i).map fun n => V.int (n * n2)))) ⟨same_upd hD, upd_same⟩ (fun i H' _ hp => SqT.of (hp.1 _ _ upd_same)) (fun i v H' hv hp => ?_) (fun H' hp => ?_)⟩
    · obtain ⟨k1, hd⟩ := hp
      obtain ⟨n, hn, rfl⟩ := int_of_map' hv
      have bn : n.natAbs < 2 ^ 600 := by
        have hm := List.mem_of_getElem? hn
        have c : n = p.w ∨ n = -p.x ∨ n = -p.y ∨ n = -p.z := by simpa [entI, mateQ] using hm
        rcases c with rfl | rfl | rfl | rfl
        · exact bp.1
        · rw [Int.natAbs_neg]; exact bp.2.1
        · rw [Int.natAbs_neg]; exact bp.2.2.1
        · rw [Int.natAbs_neg]; exact bp.2.2.2.1
      have hN' := (hN.same k0).same k1
      obtain ⟨dR, hR⟩ := hN'
      refine ⟨rfl, _, rfl, _, rfl, x, CF, d1, _, .ref nm, rfl, k1 _ _ (k0 _ _ h1), R.own.cls, R.n5, rfl, nm, CR, dR, _, .int n2, rfl, hR, RR.own.cls, RR.nb, rfl, _, _, rfl, rfl, wmul bn b2 (by decide) (by decide) (by decide), _, hd, ?_, ?_, ?_⟩
      · rw [List.length_map]
        have := List.length_take_le' i (entI (mateQ p))
        exact Nat.lt_of_le_of_lt this (by show 4 < sizeLine; decide)
      · intro b o eb
        rw [upd_ne (ne_of_none eb hD)]
        exact k1 _ _ eb
      · rw [upd_same, List.take_add_one, hn, List.map_append]; rfl
    · obtain ⟨k1, hd⟩ := hp
      refine ⟨D, _, rfl, .inl ⟨SqL.of hd, fun tt htt => ?_⟩⟩
      have et : ((entI (mateQ p)).take ((entI (mateQ p)).map V.int).length).map (fun n => V.int (n * n2)) = ents (invP p n1 n2) := rfl
      rw [et]
      have k2 := (k0.trans k1).trans (same_upd (o := .tup (ents (invP p n1 n2))) htt)
      obtain ⟨dR, hR⟩ := hN.same k2
      have neg : ∀ {i : Int}, i.natAbs < 2 ^ 600 → (-i).natAbs < 2 ^ 600 := fun h => by rw [Int.natAbs_neg]; exact h
      have bs : Bd 1822 (invP p n1 n2) := ⟨wide_lt bp.1 b2, wide_lt (neg bp.2.1) b2, wide_lt (neg bp.2.2.1) b2, wide_lt (neg bp.2.2.2.1) b2, wide_lt bp.2.2.2.2 b1⟩
      have d0 : (invP p n1 n2).d ≠ 0 := Int.mul_ne_zero (by omega) n10
      refine ⟨_, rfl, x, CF, d1, _, .ref al, rfl, k2 _ _ h1, R.own.cls, R.n1, rfl, _, rfl, _, rfl, x, CF, d1, _, .int p.d, rfl, k2 _ _ h1, R.own.cls, R.n3, rfl, _, rfl, x, CF, d1, _, .ref nm, rfl, k2 _ _ h1, R.own.cls, R.n5, rfl, nm, CR, dR, _, .int n1, rfl, hR, RR.own.cls, RR.nt, rfl, _, _, rfl, rfl, wmul bp.2.2.2.2 b1 (by decide) (by decide) (by decide), ⟨al, tt, a, b, invP p n1 n2, rfl, ha.same k2, upd_same, d0, lt_mono bs.2.2.2.2 (by decide), fun r hr => bd_mono (low5_bd d0 hr bs) (by decide), fun r z H'' hl hz e hF => q r z H'' (low5_mk hl.nrm ((inv_cross lN).trans hl.cross d0)) (k2.free hz) (k2.trans e) hF⟩⟩
structure Pow0P (CF CR CA : Addr) (vs : List V) (H : Hp) (Q : VK) : Prop where
  ex : ∃ (x al : Addr) (a b : Int) (p : Q5) (n : Nat), vs = [.ref x, .int n] ∧ FourAt CF CR H x al a b p ∧ AlgAt CA H al a b ∧ a.natAbs < 2 ^ 10 ∧ b.natAbs < 2 ^ 10 ∧ Bd 130 p ∧ n ≤ 5 ∧
    ∀ (r : Q5) (z : Addr) (H' : Hp), Low5 (pw a b p n) r → H z = none → Same H H' → FourAt CF CR H' z al a b r → Q (.ref z) H'
def spPow0 (CF CR CA : Addr) : Sp := fun vs H Q _ => Pow0P CF CR CA vs H Q
theorem pw_d {a b : Int} {p : Q5} (h : 0 < p.d) : ∀ n, 0 < (pw a b p n).d
  | 0 => by show (0 : Int) < 1; decide
  | n + 1 => Int.mul_pos (pw_d h n) h
set_option maxHeartbeats 8000000 in
theorem ok_pow0 (F : FnD K "power" "Four.power" s_P_Four_power f fd) (T : Glob mg) (R : FourK K CF) (C_P_is_passed : Cal P w K mg base 2 "is_passed" ["value"] (spPassed K)) (C_P_product_entries : Cal P w K mg base 1 "product_entries" ["algebra", "one", "other"] (spProd CA)) (C_P_made_four : Cal P w K mg base 9 "made_four" ["algebra", "entries", "bottom"] (spMadeFour CF CR CA))
    (O_Four : OwnK K CF) (M_Four_inverse : CalM P w K mg base 10 "inverse" CF ["self"] (spInverse CF CR CA)) (M_Four_power : CalM P w K mg base 0 "power" CF ["self", "many"] (fun _ _ _ _ => False)) : FnOk P w K mg base CX0 11 f fd ["self", "many"] (spPow0 CF CR CA) := by
  refine F.ok sc_P_Four_power (fun vs H Q E h => ?_) (fun cdv A outer s H vs Q E hr h => ?_)
  · obtain ⟨x, al, a, b, p, n, rfl, _⟩ := h.ex; rfl
  · obtain ⟨x, al, a, b, p, n, rfl, hx, ha, ba, bb, bp, hn, q⟩ := h.ex
    obtain ⟨tM, hc_MAX_POWER⟩ := T.m_MAX_POWER
    refine ⟨_, PSs.nox (pss_cons (ps_if (PW.pt (pw_or (pt_not (pt_val (pe_cal C_P_is_passed (hr.mono (by decide)) (pa_cons (pv 1) pa_nil)))) (pw_or1 (pt_cmp (pc_gt (pe_callB call_abs (by rfl) T.m_abs (by decide +kernel) (pa_cons (pv 1) pa_nil)) (pe_glob (v := .int 1000) rfl hc_MAX_POWER ⟨_, rfl⟩)))))) (pss_one ps_never) pss_nil)
      (pss_cons (ps_if (pt_cmp (pc_lt (pv 1) pe_int)) (pss_one (ps_ret (pe_meth (pe_meth0 (pv 0) O_Four.cls M_Four_inverse.me M_Four_inverse.ok (hr.mono (by decide)) M_Four_inverse.b .nil pass0) O_Four.cls M_Four_power.me M_Four_power.ok (hr.mono (by decide)) M_Four_power.b .nil pass0 (pa_cons (pe_un un_neg (pv 1)) pa_nil)))) pss_nil)
      (pss_cons (ps_asg (pe_tup (pa_cons (pe_tup (pa_cons pe_int (pa_cons pe_int (pa_cons pe_int (pa_cons pe_int pa_nil))))) (pa_cons pe_int pa_nil))) (pg_tup (by rfl) (pgs_cons (pg_name (i := 2) sc_P_Four_power.nd rfl (Or.inl rfl)) (pgs_cons (pg_name (i := 3) sc_P_Four_power.nd rfl (Or.inl rfl)) pgs_nil))))
      (pss_cons (ps_par (i := 4) (j := 5) (by rfl) sc_P_Four_power.nd rfl rfl (by decide) rfl rfl (pa_cons (pe_fld (pv 0) rfl) (pa_cons (pe_fld (pv 0) rfl) pa_nil)) (by rfl))
      (pss_cons (ps_while PassesOwn.never (pt_cmp (pc_gt (pv 1) pe_int)) (Evl.pss_cut (ps_if (pt_cmp (pc_eqI (pe_op op_mod (pv 1) pe_int) pe_int)) (pss_one (ps_par (i := 2) (j := 3) (by rfl) sc_P_Four_power.nd rfl rfl (by decide) rfl rfl (pa_cons (pe_cal C_P_product_entries (hr.mono (by decide)) (pa_cons (pe_fld (pv 0) rfl) (pa_cons (pv 2) (pa_cons (pv 4) pa_nil)))) (pa_cons (pe_op op_mulW (pv 3) (pv 5)) pa_nil)) (by rfl))) pss_nil)
      (pss_cons (ps_set (i := 1) sc_P_Four_power.nd rfl (Or.inl rfl) (pe_op op_fdivW (pv 1) pe_int))
      (pss_one (ps_if (pt_cmp (pc_gt (pv 1) pe_int)) (pss_one (ps_par (i := 4) (j := 5) (by rfl) sc_P_Four_power.nd rfl rfl (by decide) rfl rfl (pa_cons (pe_cal C_P_product_entries (hr.mono (by decide)) (pa_cons (pe_fld (pv 0) rfl) (pa_cons (pv 4) (pa_cons (pv 4) pa_nil)))) (pa_cons (pe_op op_mulW (pv 5) (pv 5)) pa_nil)) (by rfl))) pss_nil)))))
      (pss_one (ps_ret (pe_cal C_P_made_four (hr.mono (by decide)) (pa_cons (pe_fld (pv 0) rfl) (pa_cons (pv 2) (pa_cons (pv 3) pa_nil))))))))))), ?_⟩
    obtain ⟨d1, e1, tr, nm, t1, t2, n1, n2, h1, u1, _⟩ := hx.ex
    have dp := hx.pos
    refine ⟨_, rfl, .int n, true, rfl, .int _, ⟨fun _ => ⟨_, rfl⟩, fun _ => rfl⟩, fun r hr2 => ⟨_, rfl, ?_⟩⟩
    have er : r = true := hr2.mpr ⟨_, rfl, Nat.lt_of_le_of_lt (by omega : (n : Int).natAbs ≤ 5) (by decide +kernel)⟩
    subst er
    refine ⟨_, rfl, n, rfl, _, _, rfl, rfl, _, rfl, ifd (fun h => ?_) (fun _ => ?_)⟩
    · exfalso
      split at h <;> omega
    refine ⟨_, rfl, _, _, rfl, rfl, _, rfl, ifd (fun h => by exfalso; omega) (fun _ => ?_)⟩
    refine ⟨(by show 4 ≤ sizeLine; decide), fun m0 hm0 => ⟨(by show 2 ≤ sizeLine; decide), fun mt hmt => ?_⟩⟩
    have k0 := (same_upd (o := .tup [V.int 1, V.int 0, V.int 0, V.int 0]) hm0).trans (same_upd (o := .tup [V.ref m0, V.int 1]) hmt)
    have hm0' : (upd (upd H m0 (.tup [V.int 1, V.int 0, V.int 0, V.int 0])) mt (.tup [V.ref m0, V.int 1])) m0 = some (.tup (ents oneQ)) := by
      rw [upd_ne (ne_of_none upd_same hmt), upd_same]
      rfl
    refine ⟨mt, _, rfl, .inl (.inl upd_same), rfl, _, _, rfl, _, _, rfl, rfl, ?_⟩
    refine ⟨_, rfl, x, CF, d1, _, .ref e1, rfl, k0 _ _ h1, R.own.cls, R.n2, rfl, _, rfl, x, CF, d1, _, .int p.d, rfl, k0 _ _ h1, R.own.cls, R.n3, rfl, _, _, rfl, ?_⟩
    refine ⟨fun c σ H' => ∃ (M S : Q5) (me se : Addr) (m j : Nat), σ = [some (.ref x), some (.int m), some (.ref me), some (.int M.d), some (.ref se), some (.int S.d)] ∧ c = m ∧ Same H H' ∧ H' me = some (.tup (ents M)) ∧ H' se = some (.tup (ents S)) ∧
        prodQ a b M (pw a b S m) = pw a b p n ∧ m * 2 ^ j ≤ 5 ∧ Bd (2 ^ j * 152 - 22) M ∧ (0 < m → Bd (2 ^ j * 152 - 22) S) ∧ j ≤ 3,
      ⟨n, oneQ, p, m0, e1, n, 0, rfl, rfl, k0, hm0', k0 _ _ u1, one_prod a b _, by omega, ⟨by decide +kernel, by decide +kernel, by decide +kernel, by decide +kernel, by decide +kernel⟩, fun _ => bp, by decide⟩, ?_⟩
    rintro c σ H' ⟨M, S, me, se, m, j, rfl, rfl, ks, hM, hS, inv, hj, bM, bS, j3⟩
    refine ⟨_, rfl, _, _, rfl, rfl, _, rfl, ifd (fun h => ⟨_, fun _ _ z => z, ?_⟩) (fun h => ?_)⟩
    · have m1 : 0 < c := by omega
      have bS' := bS m1
      have j2 : j ≤ 2 := by
        have c : j = 0 ∨ j = 1 ∨ j = 2 ∨ j = 3 := by omega
        rcases c with rfl | rfl | rfl | rfl <;> omega
      have mono : 2 ^ j * 152 - 22 ≤ 1400 := by
        have c : j = 0 ∨ j = 1 ∨ j = 2 := by omega
        rcases c with rfl | rfl | rfl <;> decide
      have nextb : ∀ {A B : Q5}, Bd (2 ^ j * 152 - 22) A → Bd (2 ^ j * 152 - 22) B → Bd (2 ^ (j + 1) * 152 - 22) (prodQ a b A B) := fun {A B} hA hB => by
        refine bd_mono (prodQ_bd ba bb hA hB) ?_
        rw [Nat.pow_succ]
        have : 1 ≤ 2 ^ j := Nat.one_le_two_pow
        omega
      have Mup : Bd (2 ^ (j + 1) * 152 - 22) M := bd_mono bM (by rw [Nat.pow_succ]; omega)
      have S14 := bd_mono bS' mono
      have M14 := bd_mono bM mono
      refine ⟨fun σ' H2 => ∃ (M' : Q5) (me' : Addr), σ' = [some (.ref x), some (.int c), some (.ref me'), some (.int M'.d), some (.ref se), some (.int S.d)] ∧ Same H H2 ∧ H2 me' = some (.tup (ents M')) ∧ H2 se = some (.tup (ents S)) ∧ prodQ a b M' (pw a b (prodQ a b S S) (c / 2)) = pw a b p n ∧ Bd (2 ^ (j + 1) * 152 - 22) M', ?_, ?_⟩
      · refine ⟨_, rfl, _, _, rfl, rfl, (by show (0 : Int) < 2; decide), _, _, rfl, rfl, _, rfl, ifd (fun h2 => ?_) (fun h2 => ?_)⟩
        · have odd : c = 2 * (c / 2) + 1 := by omega
          refine ⟨_, rfl, x, CF, d1, _, .ref al, rfl, ks _ _ h1, R.own.cls, R.n1, rfl, _, rfl, _, rfl, ⟨al, me, se, a, b, M, S, rfl, ha.same ks, hM, hS, M14, S14, fun t ht => ?_⟩⟩
          have kt := same_upd (o := .tup (ents (prodQ a b M S))) ht
          refine ⟨_, rfl, _, rfl, _, _, rfl, rfl, wmul M14.2.2.2.2 S14.2.2.2.2 (by decide) (by decide) (by decide), _, _, rfl, ?_⟩
          refine ⟨prodQ a b M S, t, rfl, ks.trans kt, upd_same, kt _ _ hS, ?_, nextb bM bS'⟩
          rw [pw_sq, prod_assoc, ← pw_succ', ← odd]
          exact inv
        · have even : c = 2 * (c / 2) := by omega
          refine ⟨M, me, rfl, ks, hM, hS, ?_, Mup⟩
          rw [pw_sq, ← even]
          exact inv
      · rintro σ' H2 ⟨M', me', rfl, k2, hM', hS', inv', bM'⟩
        have half : ((c : Int) / 2) = ((c / 2 : Nat) : Int) := by omega
        have hj' : c / 2 * 2 ^ (j + 1) ≤ 5 := by
          have c : j = 0 ∨ j = 1 ∨ j = 2 := by omega
          rcases c with rfl | rfl | rfl <;> omega
        refine ⟨_, rfl, _, _, rfl, rfl, CDivW.of (by decide) (lt3000s (by decide) (by decide)), ?_⟩
        refine ⟨_, rfl, _, _, rfl, rfl, _, rfl, ifd (fun h2 => ?_) (fun h2 => ?_)⟩
        · refine ⟨_, rfl, x, CF, d1, _, .ref al, rfl, k2 _ _ h1, R.own.cls, R.n1, rfl, _, rfl, _, rfl, ⟨al, se, se, a, b, S, S, rfl, ha.same k2, hS', hS', S14, S14, fun t ht => ?_⟩⟩
          have kt := same_upd (o := .tup (ents (prodQ a b S S))) ht
          refine ⟨_, rfl, _, rfl, _, _, rfl, rfl, wmul S14.2.2.2.2 S14.2.2.2.2 (by decide) (by decide) (by decide), _, _, rfl, ?_⟩
          refine ⟨c / 2, by omega, M', prodQ a b S S, me', t, c / 2, j + 1, ?_, rfl, k2.trans kt, kt _ _ hM', upd_same, inv', hj', bM', fun _ => nextb bS' bS', by omega⟩
          rw [← half]
          rfl
        · have z : c / 2 = 0 := by omega
          refine ⟨c / 2, by omega, M', S, me', se, c / 2, j + 1, ?_, rfl, k2, hM', hS', ?_, hj', bM', fun h => by omega, by omega⟩
          · rw [← half]
            rfl
          · rw [z] at inv' ⊢
            exact inv'
    · have e0 : c = 0 := by omega
      subst e0
      have eM : M = pw a b p n := by
        rw [← inv]
        exact (prod_one a b M).symm
      subst eM
      have bM' : Bd 3000 (pw a b p n) := bd_mono bM (by
        have c : j = 0 ∨ j = 1 ∨ j = 2 ∨ j = 3 := by omega
        rcases c with rfl | rfl | rfl | rfl <;> decide)
      have d0 := pw_d (a := a) (b := b) dp n
      refine ⟨_, rfl, x, CF, d1, _, .ref al, rfl, ks _ _ h1, R.own.cls, R.n1, rfl, _, rfl, _, rfl, ⟨al, me, a, b, pw a b p n, rfl, ha.same ks, hM, by omega, lt_mono bM'.2.2.2.2 (by decide), fun r hr => low5_bd (by omega) hr bM', fun r z H'' hl hz e hF => q r z H'' hl (ks.free hz) (ks.trans e) hF⟩⟩
end
end Sf

namespace Sf
open PySem PySem.Spec PyProof.Rows L2
theorem fnOr {P : Program} {w : World} {K : PySem.W.Frag} {mg : Str → Option Value} {base : Heap} {CX : CXT} {k : Nat} {f : Addr} {fd : FuncData} {ps : List Str} {sp sq sr : Sp} (F : FnOk P w K mg base CX k f fd ps sp) (G : FnOk P w K mg base CX k f fd ps sq)
    (h : ∀ vs H Q E, sr vs H Q E → sp vs H Q E ∨ sq vs H Q E) : FnOk P w K mg base CX k f fd ps sr :=
  ⟨fun vs H Q E q => (h _ _ _ _ q).elim (F.len vs H Q E) (G.len vs H Q E), fun A outer s H args us vs Q E hr he hb hv hs => (h _ _ _ _ hs).elim (F.run A outer s H args us vs Q E hr he hb hv) (G.run A outer s H args us vs Q E hr he hb hv)⟩
theorem cross_prod {a b : Int} {p q r : Q5} (h : Cross p r) : Cross (prodQ a b p q) (prodQ a b r q) := by
  obtain ⟨h1, h2, h3, h4⟩ := h
  unfold prodQ
  refine ⟨?_, ?_, ?_, ?_⟩ <;> dsimp only <;> grind
section
variable {P : Program} {w : World} {K : PySem.W.Frag} {mg : Str → Option Value} {base : Heap} {f : Addr} {fd : FuncData} {CR CA CF : Addr}
structure PowNP (CF CR CA : Addr) (vs : List V) (H : Hp) (Q : VK) : Prop where
  ex : ∃ (x al : Addr) (a b : Int) (p : Q5) (n : Nat), vs = [.ref x, .int (-(n : Int))] ∧ FourAt CF CR H x al a b p ∧ AlgAt CA H al a b ∧ a.natAbs < 2 ^ 10 ∧ b.natAbs < 2 ^ 10 ∧ Bd 41 p ∧ 1 ≤ n ∧ n ≤ 5 ∧ normT a b p ≠ 0 ∧
    ∀ (i r : Q5) (z : Addr) (H' : Hp), Low5 (invQ a b p) i → Low5 (pw a b i n) r → H z = none → Same H H' → FourAt CF CR H' z al a b r → Q (.ref z) H'
def spPowN (CF CR CA : Addr) : Sp := fun vs H Q _ => PowNP CF CR CA vs H Q
theorem ok_powN (F : FnD K "power" "Four.power" s_P_Four_power f fd) (T : Glob mg) (R : FourK K CF) (C_P_is_passed : Cal P w K mg base 2 "is_passed" ["value"] (spPassed K)) (C_P_product_entries : Cal P w K mg base 1 "product_entries" ["algebra", "one", "other"] (spProd CA)) (C_P_made_four : Cal P w K mg base 9 "made_four" ["algebra", "entries", "bottom"] (spMadeFour CF CR CA))
    (O_Four : OwnK K CF) (M_Four_inverse : CalM P w K mg base 10 "inverse" CF ["self"] (spInverse CF CR CA)) (M_Four_power : CalM P w K mg base 11 "power" CF ["self", "many"] (spPow0 CF CR CA)) : FnOk P w K mg base CX0 12 f fd ["self", "many"] (spPowN CF CR CA) := by
  refine F.ok sc_P_Four_power (fun vs H Q E h => ?_) (fun cdv A outer s H vs Q E hr h => ?_)
  · obtain ⟨x, al, a, b, p, n, rfl, _⟩ := h.ex; rfl
  · obtain ⟨x, al, a, b, p, n, rfl, hx, ha, ba, bb, bp, n1, hn, nz, q⟩ := h.ex
    obtain ⟨tM, hc_MAX_POWER⟩ := T.m_MAX_POWER
    refine ⟨_, PSs.nox (pss_cons (ps_if (PW.pt (pw_or (pt_not (pt_val (pe_cal C_P_is_passed (hr.mono (by decide)) (pa_cons (pv 1) pa_nil)))) (pw_or1 (pt_cmp (pc_gt (pe_callB call_abs (by rfl) T.m_abs (by decide +kernel) (pa_cons (pv 1) pa_nil)) (pe_glob (v := .int 1000) rfl hc_MAX_POWER ⟨_, rfl⟩)))))) (pss_one ps_never) pss_nil)
      (pss_cons (ps_if (pt_cmp (pc_lt (pv 1) pe_int)) (pss_one (ps_ret (pe_meth (pe_meth0 (pv 0) O_Four.cls M_Four_inverse.me M_Four_inverse.ok (hr.mono (by decide)) M_Four_inverse.b .nil pass0) O_Four.cls M_Four_power.me M_Four_power.ok (hr.mono (by decide)) M_Four_power.b .nil pass0 (pa_cons (pe_un un_neg (pv 1)) pa_nil)))) pss_nil)
      (pss_cons (ps_asg (pe_tup (pa_cons (pe_tup (pa_cons pe_int (pa_cons pe_int (pa_cons pe_int (pa_cons pe_int pa_nil))))) (pa_cons pe_int pa_nil))) (pg_tup (by rfl) (pgs_cons (pg_name (i := 2) sc_P_Four_power.nd rfl (Or.inl rfl)) (pgs_cons (pg_name (i := 3) sc_P_Four_power.nd rfl (Or.inl rfl)) pgs_nil))))
      (pss_cons (ps_par (i := 4) (j := 5) (by rfl) sc_P_Four_power.nd rfl rfl (by decide) rfl rfl (pa_cons (pe_fld (pv 0) rfl) (pa_cons (pe_fld (pv 0) rfl) pa_nil)) (by rfl))
      (pss_cons (ps_while PassesOwn.never (pt_cmp (pc_gt (pv 1) pe_int)) (Evl.pss_cut (ps_if (pt_cmp (pc_eqI (pe_op op_mod (pv 1) pe_int) pe_int)) (pss_one (ps_par (i := 2) (j := 3) (by rfl) sc_P_Four_power.nd rfl rfl (by decide) rfl rfl (pa_cons (pe_cal C_P_product_entries (hr.mono (by decide)) (pa_cons (pe_fld (pv 0) rfl) (pa_cons (pv 2) (pa_cons (pv 4) pa_nil)))) (pa_cons (pe_op op_mulW (pv 3) (pv 5)) pa_nil)) (by rfl))) pss_nil)
      (pss_cons (ps_set (i := 1) sc_P_Four_power.nd rfl (Or.inl rfl) (pe_op op_fdivW (pv 1) pe_int))
      (pss_one (ps_if (pt_cmp (pc_gt (pv 1) pe_int)) (pss_one (ps_par (i := 4) (j := 5) (by rfl) sc_P_Four_power.nd rfl rfl (by decide) rfl rfl (pa_cons (pe_cal C_P_product_entries (hr.mono (by decide)) (pa_cons (pe_fld (pv 0) rfl) (pa_cons (pv 4) (pa_cons (pv 4) pa_nil)))) (pa_cons (pe_op op_mulW (pv 5) (pv 5)) pa_nil)) (by rfl))) pss_nil)))))
      (pss_one (ps_ret (pe_cal C_P_made_four (hr.mono (by decide)) (pa_cons (pe_fld (pv 0) rfl) (pa_cons (pv 2) (pa_cons (pv 3) pa_nil))))))))))), ?_⟩
    refine ⟨_, rfl, .int (-(n : Int)), true, rfl, .int _, ⟨fun _ => ⟨_, rfl⟩, fun _ => rfl⟩, fun r hr2 => ⟨_, rfl, ?_⟩⟩
    have er : r = true := hr2.mpr ⟨_, rfl, Nat.lt_of_le_of_lt (by omega : (-(n : Int)).natAbs ≤ 5) (by decide +kernel)⟩
    subst er
    refine ⟨_, rfl, _, rfl, _, _, rfl, rfl, _, rfl, ifd (fun h => ?_) (fun _ => ?_)⟩
    · exfalso
      split at h <;> omega
    refine ⟨_, rfl, _, _, rfl, rfl, _, rfl, ifd (fun _ => ?_) (fun h => by exfalso; omega)⟩
    obtain ⟨d1, e1, tr, nm, t1, t2, n1', n2, h1, u1, _⟩ := hx.ex
    have dp := hx.pos
    refine ⟨_, rfl, x, d1, _, rfl, h1, rfl, x, al, a, b, p, rfl, hx, ha, ba, bb, bd_mono bp (by decide), nz, fun i z H2 hi hz s2 hF => ?_⟩
    obtain ⟨d2, e2, _, _, _, _, _, _, h2, _⟩ := hF.ex
    have d0 : (invQ a b p).d ≠ 0 := nz
    have bi0 : Bd 130 (invQ a b p) := by
      have neg : ∀ {i : Int}, i.natAbs < 2 ^ 41 → (-i).natAbs < 2 ^ 41 := fun h => by rw [Int.natAbs_neg]; exact h
      have W : ∀ {i : Int}, i.natAbs < 2 ^ 41 → (i * p.d).natAbs < 2 ^ 130 := fun h => lt_mono (wide_lt h bp.2.2.2.2) (by decide)
      exact ⟨W bp.1, W (neg bp.2.1), W (neg bp.2.2.1), W (neg bp.2.2.2.1), lt_mono (normT_bd ba bb bp) (by decide)⟩
    have bi := low5_bd d0 hi bi0
    refine ⟨z, d2, _, rfl, h2, rfl, _, rfl, _, rfl, ⟨z, al, a, b, i, n, by show [V.ref z, V.int (-(-(n : Int)))] = _; rw [Int.neg_neg], hF, ha.same s2, ba, bb, bi, hn, fun r y H3 hr3 hy s3 hG => ?_⟩⟩
    exact q i r y H3 hi hr3 (s2.free hy) (s2.trans s3) hG
structure PowP (CF CR CA : Addr) (vs : List V) (H : Hp) (Q : VK) : Prop where
  ex : ∃ (x al : Addr) (a b : Int) (p : Q5) (n : Int), vs = [.ref x, .int n] ∧ FourAt CF CR H x al a b p ∧ AlgAt CA H al a b ∧ a.natAbs < 2 ^ 10 ∧ b.natAbs < 2 ^ 10 ∧ Bd 41 p ∧ n.natAbs ≤ 5 ∧ (n < 0 → normT a b p ≠ 0) ∧
    ∀ (r : Q5) (z : Addr) (H' : Hp), (0 ≤ n → Low5 (pw a b p n.natAbs) r) → (n < 0 → ∃ i, Low5 (invQ a b p) i ∧ Low5 (pw a b i n.natAbs) r) → H z = none → Same H H' → FourAt CF CR H' z al a b r → Q (.ref z) H'
def spPow (CF CR CA : Addr) : Sp := fun vs H Q _ => PowP CF CR CA vs H Q
theorem ok_Four_power (F : FnD K "power" "Four.power" s_P_Four_power f fd) (T : Glob mg) (R : FourK K CF) (C_P_is_passed : Cal P w K mg base 2 "is_passed" ["value"] (spPassed K)) (C_P_product_entries : Cal P w K mg base 1 "product_entries" ["algebra", "one", "other"] (spProd CA)) (C_P_made_four : Cal P w K mg base 9 "made_four" ["algebra", "entries", "bottom"] (spMadeFour CF CR CA))
    (O_Four : OwnK K CF) (M_Four_inverse : CalM P w K mg base 10 "inverse" CF ["self"] (spInverse CF CR CA)) (ME_Four_power : Meth K CF "power" f) : FnOk P w K mg base CX0 12 f fd ["self", "many"] (spPow CF CR CA) := by
  have bi : Binds K fd ["self", "many"] [] := F.bindsN fun _ _ _ _ _ _ us hl => match us, hl with | [_, _], _ => rfl
  have N : FnOk P w K mg base CX0 0 f fd ["self", "many"] (fun _ _ _ _ => False) := ⟨fun _ _ _ _ h => False.elim h, fun _ _ _ _ _ _ _ _ _ _ _ _ _ h => False.elim h⟩
  have A := ok_pow0 F T R C_P_is_passed C_P_product_entries C_P_made_four O_Four M_Four_inverse ⟨f, fd, N, ME_Four_power, bi⟩
  have B := ok_powN F T R C_P_is_passed C_P_product_entries C_P_made_four O_Four M_Four_inverse ⟨f, fd, A, ME_Four_power, bi⟩
  refine fnOr (A.mono (by decide)) B fun vs H Q E h => ?_
  obtain ⟨x, al, a, b, p, n, rfl, hx, ha, ba, bb, bp, hn, nz, q⟩ := h.ex
  by_cases h0 : 0 ≤ n
  · refine .inl ⟨x, al, a, b, p, n.natAbs, ?_, hx, ha, ba, bb, bd_mono bp (by decide), hn, fun r z H' hl hz s hF => q r z H' (fun _ => hl) (fun h => by omega) hz s hF⟩
    rw [show ((n.natAbs : Nat) : Int) = n by omega]
  · refine .inr ⟨x, al, a, b, p, n.natAbs, ?_, hx, ha, ba, bb, bp, by omega, hn, nz (by omega), fun i r z H' hi hl hz s hF => q r z H' (fun h => absurd h h0) (fun _ => ⟨i, hi, hl⟩) hz s hF⟩
    rw [show (-((n.natAbs : Nat) : Int)) = n by omega]
end
end Sf

namespace Sf
open PySem PySem.Spec PyProof.Rows L2
open AutoSeq1 (wpAny_loadPart')
/-! enumerate(t), t a tuple -/
set_option maxHeartbeats 8000000 in
theorem meets_enumerate_newT (l : Addr) (items : Array Value) (n : Nat) (dct : Option Addr) (sl : Array (Option Value)) :
    Meets (Builtin.«enumerate.__new__» ⟨[.type "enumerate", .ref l], []⟩) (fun _ R s => s.heap.get? l = some { cls := .type "tuple", dict := dct, data := .seq items n, slots := sl } ∧
      R (.ok (.ret (.ref (s.heap.push { cls := .type "tuple_iterator", data := .fields #[.ref l, .int 0 0] }).objs.size)))
        { s with heap := (s.heap.push { cls := .type "tuple_iterator", data := .fields #[.ref l, .int 0 0] }).push { cls := .type "enumerate", data := .fields #[.none, .bool false, .ref s.heap.objs.size, rawInt 0, .none, .none] } }) :=
  .of_wp fun prog w A R s h => by
    obtain ⟨hp, g, d, tk, os⟩ := s; obtain ⟨hl, h⟩ := h
    have hsub := sub_enumerate
    have hL : Heap.IsTuple (Shared.heap ⟨hp, g, d, tk, os⟩) l items := ⟨_, hl, rfl, n, rfl⟩
    wp_walk using wpAny_loadPart' hl
    refine wpAny_stack_any fun st => wpAny_pure ?_
    split
    · rename_i c _ _ _ _ _
      cases (c == Value.type "enumerate")
      · wp_walk using wpAny_loadPart' hl, wpAny_pyIter_tuple hL
        exact ⟨_, rfl, h⟩
      · wp_walk using wpAny_loadPart' hl, wpAny_pyIter_tuple hL
        exact ⟨_, rfl, h⟩
    · wp_walk using wpAny_loadPart' hl, wpAny_pyIter_tuple hL
      exact ⟨_, rfl, h⟩
theorem call_enumerate_tuple {prog : Program} {w : World} {A : Around} {E : Value → Shared → Prop} {s : Shared} {l : Addr} {items : Array Value} {Q : Value → Shared → Prop} (hL : s.heap.IsTuple l items)
    (h : ∀ h', IsEnum h' (s.heap.objs.size + 1) s.heap.objs.size 0 .none → h'.IsTupleIter s.heap.objs.size l 0 → h'.objs.size = s.heap.objs.size + 2 →
      (∀ b o, s.heap.get? b = some o → h'.get? b = some o) → Q (.ref (s.heap.objs.size + 1)) { s with heap := h' }) :
    wpAny (model prog w) A (call (.type "enumerate") [.ref l]) Q E s := by
  obtain ⟨⟨c, dct, dt, sl⟩, hl, hc, n, hd⟩ := hL
  replace hc : c = .type "tuple" := hc
  replace hd : dt = .seq items n := hd
  subst hc hd
  refine callType_new F.called_enumerate (by decide) (F.typeCall_enumerate_1 _) (F.newCall_enumerate_1 _) (fun obj => F.args_object_init_2 obj _) F.entry_enumerate_new
    (meets_enumerate_newT l items n dct sl) ⟨hl, ?_⟩
  have hz : (s.heap.push { cls := .type "tuple_iterator", data := .fields #[.ref l, .int 0 0] }).objs.size = s.heap.objs.size + 1 := Heap.size_push ..
  show _ ∧ _
  rw [hz]
  have he : IsEnum ((s.heap.push { cls := .type "tuple_iterator", data := .fields #[.ref l, .int 0 0] }).push
      { cls := .type "enumerate", data := .fields #[.none, .bool false, .ref s.heap.objs.size, rawInt 0, .none, .none] }) (s.heap.objs.size + 1) s.heap.objs.size 0 .none := by
    have := Heap.get?_push_size (s.heap.push { cls := .type "tuple_iterator", data := .fields #[.ref l, .int 0 0] })
      (o := { cls := .type "enumerate", data := .fields #[.none, .bool false, .ref s.heap.objs.size, rawInt 0, .none, .none] }) rfl
    rw [hz] at this; exact this
  refine ⟨⟨_, he, rfl⟩, h _ he ⟨_, Heap.get?_push_of_some _ (Heap.get?_push_size _ rfl), rfl, rfl⟩ (by rw [Heap.size_push, hz]) fun b o x => Heap.get?_push_of_some _ (Heap.get?_push_of_some _ x)⟩
/-- the tuple at a, each item in a new pair -/
def IteT (K : PySem.W.Frag) (a : Addr) : It :=
  ⟨fun i H => ∃ (xs : List V) (x : V), SqT K H a xs ∧ xs[i]? = some x, fun i H v H' => ∃ T x, v = .ref T ∧ H T = none ∧ H' = upd H T (.tup [.int (i : Nat), x]) ∧ ∀ xs, SqT K H a xs → xs[i]? = some x, fun i H => ∃ xs : List V, SqT K H a xs ∧ xs.length ≤ i⟩
theorem enum_ne {h : Heap} {e it a : Addr} {i : Int} {old : Value} {its : Array Value} (he : IsEnum h e it i old) (ht : h.IsTuple a its) : e ≠ a := fun z => by
  obtain ⟨o, g, hc, _⟩ := ht
  have he' : h.get? e = some _ := he
  rw [z, g] at he'
  have e2 := Option.some.inj he'
  rw [e2] at hc
  have h3 := hc
  simp at h3
theorem iter_ne {h : Heap} {it a : Addr} {i : Nat} {its : Array Value} (hi : h.IsTupleIter it a i) (ht : h.IsTuple a its) : a ≠ it := fun z => by
  obtain ⟨o, g, hc, _⟩ := ht
  obtain ⟨o2, g2, hc2, _⟩ := hi
  rw [← z, g] at g2
  cases g2
  rw [hc] at hc2
  simp at hc2
theorem next_enum_endT {prog : Program} {w : World} {A : Around} {E : Value → Shared → Prop} {s : Shared} {e it l : Addr} {i : Nat} {items : Array Value} {old : Value} {Q : Option Value → Shared → Prop} (hh : A.handled = none)
    (he : IsEnum s.heap e it i old) (hit : s.heap.IsTupleIter it l i) (hl : s.heap.IsTuple l items) (hx : items[i]? = none)
    (hQ : ∀ h', Heap.ExtBut it s.heap h' → Q none { s with heap := h' }) : wpAny (model prog w) A (pyNext (.ref e)) Q E s := by
  have hT : s.TypeIs (.ref e) "enumerate" := ⟨_, he, rfl⟩
  unfold pyNext
  refine wpAny_bind (wpAny_attempt (wpAny_callSpecial?_slot (name := Str.ofString "__next__") hT F.slot_enumerate_next
    (wpAny_call_entry F.slot_enumerate_next hT F.entry_enumerate_next ?_ (F.args_enumerate_next_1 _))))
  show wpAny _ _ (field (.ref e) 2 >>= _) _ _ _
  refine wpAny_bind (wpAny_field he rfl (x := .ref it) rfl ?_)
  refine wpAny_bind (wpAny_nextOf_tuple_end hh hit hl hx fun h' x he' hx' => ?_)
  obtain ⟨o, ho, hc⟩ := hx'
  refine wpAny_bind (wpAny_isInstance (T := "StopIteration") (b := true) ⟨o, ho, hc⟩ isSubtype_stop ?_)
  exact wpAny_pure (hQ _ he')
theorem turn_enumT {P : Program} {w : World} {K : PySem.W.Frag} {elts : List Expr} {kk : Nat} {tpos : Pos} (a e it : Addr) :
    Turn P w K (.Tuple elts kk tpos) (IteT K a) [e, it] e (fun i h => (∃ old, IsEnum h e it ((i : Nat) : Int) old) ∧ h.IsTupleIter it a i ∧ e ≠ it) where
  mem := by simp
  obj := fun i h st b hb => by
    obtain ⟨⟨old, he⟩, ⟨o, ho, hc, hd⟩, _⟩ := st
    have e' : b = e ∨ b = it := by simpa using hb
    rcases e' with z | z
    · rw [z]; exact ⟨_, he, fun v q => nomatch q⟩
    · rw [z]; exact ⟨o, ho, fun v q => by rw [hd] at q; cases q⟩
  keep := fun i h h' st k => let ⟨⟨old, he⟩, hi, hne⟩ := st; ⟨⟨old, k e (by simp) _ he⟩, hi.at fun o q => k it (by simp) o q, hne⟩
  item := by
    intro X hP hw hK hc i pins s σ H E I hf st hg
    subst hP hw hK
    obtain ⟨⟨old, he⟩, hit, hne⟩ := st
    obtain ⟨xs, x, hq, hx⟩ := hg
    obtain ⟨its, rv, p, hz⟩ := I.tuple hq
    obtain ⟨u, hu, ru⟩ := rv.get hx
    have hel : e < s.heap.objs.size := Heap.lt_size he
    have hil : it < s.heap.objs.size := by obtain ⟨_, q, _⟩ := hit; exact Heap.lt_size q
    have hil2 : i < its.toArray.size := by
      rw [List.size_toArray]
      exact (List.getElem?_eq_some_iff.mp hu).1
    refine wpAny_pyNext_enum_itemD (Draws.tuple (A := X.A.in1) (I.ok.hd hc) it a (iter_ne hit p) its.toArray) he ⟨hit, p⟩ hil2 hne (fun z => ?_) fun x' h' tk hx' ho hst hT hsz hk => ?_
    · have e' : e = it ∨ e = a := by simpa using z
      exact e'.elim hne (enum_ne he p)
    have ex : x' = u := by
      have h1 : its[i]? = some x' := by simpa using hx'
      rw [hu] at h1
      exact (Option.some.inj h1).symm
    subst ex
    refine ⟨_, rfl, wpAny_letOwnedTupleGo_enum (s := { s with heap := h', toks := tk + 1 }) ho fun h'' he' sb => ?_⟩
    have hT2 : h''.get? s.heap.objs.size = some { cls := .type "tuple", data := .seq #[.int i tk, x'] } := (sb.2 _ (Nat.ne_of_gt hel)).trans hT
    have new : ObjOk X.prog X.w (upd H s.heap.objs.size (.tup [.int (i : Nat), x])) h'' s.heap.objs.size (.tup [.int (i : Nat), x]) :=
      ⟨by show 2 ≤ sizeLine; decide, [.int i tk, x'], .cons ⟨_, rfl⟩ (.cons ru .nil), ⟨_, hT2, rfl, _, rfl⟩⟩
    have I1 : Inv X pins σ (upd H s.heap.objs.size (.tup [.int (i : Nat), x])) { s with heap := h'', toks := tk + 1 } :=
      I.turnedNew (ch := [e, it]) (fun b ob hb q => (sb.2 b (fun z => hb (by simp [z]))).trans (hk b ob (fun z => hb (by simp [z])) (fun z => hb (by simp [z])) q)) hf (Nat.le_refl _) new
    refine ⟨.ref s.heap.objs.size, _, I1, rfl, ⟨_, x, rfl, I.hok.fresh (Nat.le_refl _), rfl, fun ys hy => by rw [I.tuple_inj hy hq]; exact hx⟩, ⟨⟨x', ?_⟩, hst.1.at fun o q => (sb.2 it (Ne.symm hne)).trans q, hne⟩, fun b hb => ?_⟩
    · have e1 : ((i + 1 : Nat) : Int) = (i : Int) + 1 := by omega
      rw [e1]; exact he'
    · have hb' : b < s.heap.objs.size := by
        have e' : b = e ∨ b = it := by simpa using hb
        rcases e' with z | z
        · rw [z]; exact hel
        · rw [z]; exact hil
      rw [upd_ne (Nat.ne_of_lt hb')]
      exact (hf b hb).1
  done := by
    intro X hP hw hK hc i pins s σ H E I hf st hg
    subst hP hw hK
    obtain ⟨⟨old, he⟩, hit, hne⟩ := st
    obtain ⟨xs, hq, hx⟩ := hg
    obtain ⟨its, rv, p, hz⟩ := I.tuple hq
    obtain ⟨f0, f1, f2, f3, f4, f5⟩ := hf it (by simp)
    have hl := rv.length
    refine next_enum_endT (I.ok.hd hc) he hit p (by simp; omega) fun h' eb => ⟨rfl, I.turned (t' := s.toks) (fun b o hb q => eb b o hb q) f0 f1 f3 f4 f5⟩
  self := fun A i s Q E st h => let ⟨⟨_, he⟩, _⟩ := st; wpAny_pyIter_enum he h
def iEnumT (K : PySem.W.Frag) (ta : TA) : TI := fun σ H R => ta σ H fun vs H1 => ∃ a xs, vs = [.ref a] ∧ SqT K H1 a xs ∧ R (IteT K a) H1
theorem pi_enumT {X : Cx} {e : Expr} {ta : TA} {p pos tpos : Pos} {elts : List Expr} {kk : Nat} (hg : Gl X "enumerate") (hm : X.mg "enumerate" = none) (ha : PA X [e] ta) (hs : starEach [e] X.env = [(false, eval e X.env)] := by rfl) :
    PI X (.Tuple elts kk tpos) (.Call (.Name "enumerate" p) [e] [] pos) (iEnumT X.K ta) := by
  refine ⟨fun pins s σ H R I h => ?_⟩
  refine Call_ (ld_blt I hg hm boot_enumerate (PyProof.Rows.callWith_type1 (thn (ha.run pos pins s σ H _ I h) fun us s1 ⟨vs, H1, I1, r1, q1⟩ => ?_) hs rfl))
  obtain ⟨a, xs, ex, hq, q⟩ := q1
  subst ex
  cases r1 with
  | cons r rr =>
    cases rr
    cases r
    obtain ⟨its, rv, p', hz⟩ := I1.tuple hq
    refine call_enumerate_tuple p' fun h' he hit hsz hk => wpAny_pyIter_enum he ?_
    have I2 : Inv X pins σ H1 { s1 with heap := h' } := I1.kept (t' := s1.toks) hk
    refine ⟨s1.heap.objs.size + 1, [s1.heap.objs.size + 1, s1.heap.objs.size], _, _, H1, rfl, I2, turn_enumT a (s1.heap.objs.size + 1) s1.heap.objs.size, ⟨⟨.none, he⟩, hit, Nat.succ_ne_self _⟩, fun b hb => ?_, q⟩
    have e' : b = s1.heap.objs.size + 1 ∨ b = s1.heap.objs.size := by simpa using hb
    have hle : s1.heap.objs.size ≤ b := by
      rcases e' with z | z
      · rw [z]; exact Nat.le_add_right _ _
      · rw [z]; exact Nat.le_refl _
    exact I1.fpOk hle (I1.hok.fresh hle)
theorem walk_enumT {K : PySem.W.Frag} {a : Addr} {xs : List V} {n : Nat} (hn : xs.length = n) : Walk (IteT K a) n (fun H => SqT K H a xs) (YPair (fun i => some (.int (i : Nat))) (fun i => xs[i]?)) := by
  subst hn
  refine ⟨fun i _ hi q => ⟨xs, xs[i], q, by simp [hi]⟩, fun _ q => ⟨xs, q, Nat.le_refl _⟩, fun i H v H' _ q y => ?_⟩
  obtain ⟨T, x, h1, h2, h3, h4⟩ := y
  exact ⟨T, .int (i : Nat), x, h1, h2, h3, rfl, h4 xs q⟩
end Sf

namespace Sf
open PySem PySem.Spec PyProof.Rows L2
section
variable {P : Program} {w : World} {K : PySem.W.Frag} {mg : Str → Option Value} {base : Heap} {f : Addr} {fd : FuncData}
structure TakeP (vs : List V) (H : Hp) (Q : VK) : Prop where
  ex : ∃ (p : Addr) (xs : List V) (n : Nat) (m : Int), vs = [.ref p, .int m] ∧ H p = some (.lst xs) ∧ SackO n xs ∧ n ≤ 1000000 ∧ 1 ≤ m ∧ m < 10 ^ 80 ∧
  ∀ (r : Int) (ys : List V), 0 ≤ r → r < m → SackO (n + 1) ys → Q (.int r) (upd H p (.lst ys))
def spTake : Sp := fun vs H Q _ => TakeP vs H Q
theorem ok_scoop (F : FnD K "_law_scoop" "_law_scoop" s_L_scoop f fd) (T : Glob mg) : FnOk P w K mg base CX0 1 f fd ["_law_bowl_here", "_law_total"] spTake := by
  refine F.ok sc_L_scoop (fun vs H Q E h => ?_) (fun cdv A outer s H vs Q E hr h => ?_)
  · obtain ⟨p, xs, n, m, rfl, _⟩ := h.ex; rfl
  · obtain ⟨p, _, n, m, rfl, hp, ⟨a, b, c, rfl, a0, a1, b0, b1, c0, c1⟩, hn, hm, hm1, q⟩ := h.ex
    have m0 : (0 : Int) < m := by omega
    have mb : m.natAbs < 2 ^ 3000 := lt3000 (by omega) (Int.lt_trans hm1 (by decide +kernel))
    have hS : SqL K H p [.int a, .int b, .int c] := SqL.of hp
    refine ⟨_, PSs.nox (pss_cons (ps_if (pt_cmp (pc_gt (pe_ix ix_list (pv 0) pe_int (fun _ _ => rfl)) pe_int)) (pss_cons (ps_set (i := 2) sc_L_scoop.nd rfl (Or.inl rfl) (pe_op op_mod (pe_callTy call_int1 (by rfl) T.m_int (by decide +kernel) (pa_cons (pe_ix ix_list (pv 0) pe_int (fun _ _ => rfl)) pa_nil)) (pv 1)))
      (pss_cons (ps_asg (pe_op op_fdivW (pe_ix ix_list (pv 0) pe_int (fun _ _ => rfl)) (pv 1)) (pg_sub (pv 0) pe_int set_list))
      (pss_one (ps_ret (pv 2))))) pss_nil)
      (pss_cons (ps_asg (pe_op op_add (pe_ix ix_list (pv 0) pe_int (fun _ _ => rfl)) pe_int) (pg_sub (pv 0) pe_int set_list))
      (pss_cons (ps_set (i := 3) sc_L_scoop.nd rfl (Or.inl rfl) (pe_op op_mod (pe_callTy call_int1 (by rfl) T.m_int (by decide +kernel) (pa_cons (pe_op op_add (pe_ix ix_list (pv 0) pe_int (fun _ _ => rfl)) (pe_op op_mulW pe_int (pe_ix ix_list (pv 0) pe_int (fun _ _ => rfl)))) pa_nil)) pe_int))
      (pss_cons (ps_set (i := 4) sc_L_scoop.nd rfl (Or.inl rfl) (pe_op op_mod (pe_callTy call_int1 (by rfl) T.m_int (by decide +kernel) (pa_cons (pe_op op_add (pe_op op_mulW (pv 3) (pv 3)) (pe_op op_mulW pe_int (pe_ix ix_list (pv 0) pe_int (fun _ _ => rfl)))) pa_nil)) pe_int))
      (pss_one (ps_ret (pe_op op_mod (pe_callTy call_int1 (by rfl) T.m_int (by decide +kernel) (pa_cons (pe_op op_fdivW (pe_callTy call_int1 (by rfl) T.m_int (by decide +kernel) (pa_cons (pe_op op_add (pe_op op_mulW (pv 4) pe_int) (pv 3)) pa_nil)) pe_int) pa_nil)) (pv 1)))))))), ?_⟩
    refine ⟨_, rfl, p, _, 0, .int a, rfl, rfl, hS, rfl, _, _, rfl, rfl, _, rfl, ifd (fun h => ?_) (fun h => ?_)⟩
    · refine ⟨_, rfl, p, _, 0, .int a, rfl, rfl, hS, rfl, .inl ⟨_, rfl, _, rfl, _, _, rfl, rfl, m0, ?_⟩⟩
      refine ⟨_, rfl, p, _, 0, .int a, rfl, rfl, hS, rfl, _, rfl, _, _, rfl, rfl, CDivW.of m0 mb, ?_⟩
      refine ⟨_, rfl, p, _, 0, 0, rfl, rfl, hp, rfl, ?_⟩
      refine ⟨_, rfl, q (a % m) _ (Int.emod_nonneg _ (by omega)) (Int.emod_lt_of_pos _ m0) ⟨a / m, b, c, rfl, Int.ediv_nonneg a0 (by omega), ?_, b0, b1, c0, by omega⟩⟩
      exact Int.lt_of_le_of_lt (Int.ediv_le_self m a0) a1
    · refine ⟨_, rfl, p, _, 2, .int c, rfl, rfl, hS, rfl, _, _, rfl, rfl, ?_⟩
      refine ⟨_, rfl, p, _, 2, 2, rfl, rfl, hp, rfl, ?_⟩
      have hS2 : SqL K (upd H p (.lst [.int a, .int b, .int (c + 1)])) p [.int a, .int b, .int (c + 1)] := SqL.of upd_same
      refine ⟨_, rfl, p, _, 1, .int b, rfl, rfl, hS2, rfl, _, rfl, p, _, 2, .int (c + 1), rfl, rfl, hS2, rfl, _, _, rfl, rfl, CMulW.of (lt3000s (by decide) (by decide)) (lt3000s (by omega) (by omega)), _, _, rfl, rfl, .inl ⟨_, rfl, _, _, rfl, rfl, (by show (0 : Int) < 2305843009213693951; decide), ?_⟩⟩
      refine ⟨_, rfl, _, rfl, _, _, rfl, rfl, CMulW.of (lt3000s (by omega) (by omega)) (lt3000s (by omega) (by omega)), _, rfl, p, _, 2, .int (c + 1), rfl, rfl, hS2, rfl, _, _, rfl, rfl, CMulW.of (lt3000s (by decide) (by decide)) (lt3000s (by omega) (by omega)), _, _, rfl, rfl, .inl ⟨_, rfl, _, _, rfl, rfl, (by show (0 : Int) < 2305843009213693921; decide), ?_⟩⟩
      refine ⟨_, rfl, _, _, rfl, rfl, CMulW.of (lt3000s (by omega) (by omega)) (lt3000s (by decide) (by decide)), _, rfl, _, _, rfl, rfl, .inl ⟨_, rfl, _, _, rfl, rfl, CDivW.of (by decide) (lt3000s (by decide) (by decide)), .inl ⟨_, rfl, _, rfl, _, _, rfl, rfl, m0, ?_⟩⟩⟩
      refine q _ _ (Int.emod_nonneg _ (by omega)) (Int.emod_lt_of_pos _ m0) ⟨a, b, c + 1, rfl, a0, a1, b0, b1, by omega, by omega⟩
end
end Sf

namespace Sf
open PySem PySem.Spec PyProof.Rows L2
section
variable {P : Program} {w : World} {K : PySem.W.Frag} {mg : Str → Option Value} {base : Heap} {f : Addr} {fd : FuncData}
structure OneOfP (K : PySem.W.Frag) (vs : List V) (H : Hp) (Q : VK) : Prop where
  ex : ∃ (p b : Addr) (xs items : List V) (n : Nat), vs = [.ref p, .ref b] ∧ H p = some (.lst xs) ∧ SackO n xs ∧ n ≤ 1000000 ∧ b ≠ p ∧ SqL K H b items ∧ 1 ≤ items.length ∧ items.length ≤ 1000000 ∧
  ∀ (v : V) (ys : List V), v ∈ items → SackO (n + 1) ys → Q v (upd H p (.lst ys))
def spOneOf (K : PySem.W.Frag) : Sp := fun vs H Q _ => OneOfP K vs H Q
theorem ok_one_of (F : FnD K "_law_one_of" "_law_one_of" s_L_one_of f fd) (T : Glob mg) (C_L_scoop : Cal P w K mg base 1 "_law_scoop" ["_law_bowl_here", "_law_total"] spTake) : FnOk P w K mg base CX0 2 f fd ["_law_bowl_here", "_law_items"] (spOneOf K) := by
  refine F.ok sc_L_one_of (fun vs H Q E h => ?_) (fun cdv A outer s H vs Q E hr h => ?_)
  · obtain ⟨p, b, xs, items, n, rfl, _⟩ := h.ex; rfl
  · obtain ⟨p, b, xs, items, n, rfl, hp, hx, hn, hne, hS, hl0, hl1, q⟩ := h.ex
    refine ⟨_, PSs.nox (pss_one (ps_ret (pe_ix ix_list (pv 1) (pe_cal C_L_scoop (hr.mono (by decide)) (pa_cons (pv 0) (pa_cons (pe_callB call_len_seq (by rfl) T.m_len (by decide +kernel) (pa_cons (pv 1) pa_nil)) pa_nil))) (fun _ _ => rfl)))), ?_⟩
    refine ⟨_, rfl, _, rfl, _, rfl, b, _, rfl, .inl hS, ⟨p, xs, n, _, rfl, hp, hx, hn, by omega, ?_, fun r ys h0 h1 hy => ?_⟩⟩
    · exact Int.lt_trans (by omega : (items.length : Int) < 1000001) (by decide +kernel)
    · have hi : r.toNat < items.length := by omega
      have er : ((r.toNat : Nat) : Int) = r := by omega
      refine ⟨b, items, r, items[r.toNat], rfl, rfl, sq_upd hS hne, ?_, q _ ys (List.getElem_mem hi) hy⟩
      have z := atI_nat (List.getElem?_eq_getElem hi)
      rw [er] at z
      exact z
end
end Sf

namespace Sf
open PySem PySem.Spec PyProof.Rows L2
/-- a draw: the same promises in the words of Sk -/
theorem take_of {H : Hp} {p : Addr} {n : Nat} {m : Int} {Q : VK} (hs : Sk p n H) (hn : n ≤ 1000000) (h1 : 1 ≤ m) (h2 : m < 10 ^ 80) (q : ∀ (r : Int) (H' : Hp), 0 ≤ r → r < m → Keep p H H' → Sk p (n + 1) H' → (∀ b, H b = none → H' b = none) → Q (.int r) H') : TakeP [.ref p, .int m] H Q := by
  obtain ⟨xs, a, b⟩ := hs
  exact ⟨p, xs, n, m, rfl, a, b, hn, h1, h2, fun r ys r0 r1 hy => q r _ r0 r1 Keep.upd ⟨ys, upd_same, hy⟩ fun c hc => by rw [upd_ne (fun z => by rw [z, a] at hc; cases hc)]; exact hc⟩
theorem one_of_new {K : PySem.W.Frag} {H : Hp} {p b : Addr} {n : Nat} {items : List V} {Q : VK} (hs : Sk p n H) (hn : n ≤ 1000000) (hb : H b = none) (h1 : 1 ≤ items.length) (h2 : items.length ≤ 1000000)
    (q : ∀ (v : V) (H' : Hp), v ∈ items → Keep p H H' → Sk p (n + 1) H' → Q v H') : OneOfP K [.ref p, .ref b] (upd H b (.lst items)) Q := by
  obtain ⟨xs, a, o⟩ := hs
  have npb : p ≠ b := ne_of_none a hb
  refine ⟨p, b, xs, items, n, rfl, by rw [upd_ne npb]; exact a, o, hn, npb.symm, SqL.of upd_same, h1, h2, fun v ys hv hy => q v _ hv ?_ ⟨ys, upd_same, hy⟩⟩
  exact (Keep.new hb).trans Keep.upd
end Sf

namespace Sf
open PySem PySem.Spec PyProof.Rows L2
section
variable {P : Program} {w : World} {K : PySem.W.Frag} {mg : Str → Option Value} {base : Heap} {f : Addr} {fd : FuncData}
def spSack (K : PySem.W.Frag) : Sp := fun vs H Q _ => ∃ (a : Addr) (ns : List Int) (t : Nat), vs = [.ref a, .int t] ∧ SqL K H a (ns.map V.int) ∧ ns.length ≤ 63 ∧ t ≤ 10 ∧
  ∀ (p : Addr) (xs : List V) (H' : Hp), Same H H' → H p = none → H' p = some (.lst xs) → SackO 0 xs → Q (.ref p) H'
theorem ok_bowl (F : FnD K "_law_bowl" "_law_bowl" s_L_bowl f fd) (T : Glob mg) : FnOk P w K mg base CX0 1 f fd ["_law_script", "_law_at"] (spSack K) := by
  refine F.ok sc_L_bowl (fun vs H Q E h => ?_) (fun cdv A outer s H vs Q E hr h => ?_)
  · obtain ⟨a, ns, t, rfl, _⟩ := h; rfl
  · obtain ⟨a, ns, t, rfl, hS, hl, ht, q⟩ := h
    refine ⟨_, PSs.nox (Evl.pss_cut (ps_set (i := 2) sc_L_bowl.nd rfl (Or.inl rfl) (pe_ifExp (pt_cmp (pc_lt (pv 1) (pe_callB call_len_seq (by rfl) T.m_len (by decide +kernel) (pa_cons (pv 0) pa_nil)))) (pe_callTy call_int1 (by rfl) T.m_int (by decide +kernel) (pa_cons (pe_ix ix_list (pv 0) (pv 1) (fun _ _ => rfl)) pa_nil)) (pe_op op_add (pe_op op_mulW pe_int (pv 1)) pe_int)))
      (pss_cons (ps_set (i := 3) sc_L_bowl.nd rfl (Or.inl rfl) (pe_op op_mod (pe_callB call_abs (by rfl) T.m_abs (by decide +kernel) (pa_cons (pv 2) pa_nil)) (pe_op op_powW (pe_op op_powW pe_int pe_int) pe_int)))
      (pss_cons (ps_set (i := 4) sc_L_bowl.nd rfl (Or.inl rfl) (pe_op op_add (pe_op op_add (pe_op op_add (pe_op op_mulW (pe_op op_mod (pv 3) pe_int) pe_int) (pe_op op_mulW pe_int (pv 1))) (pe_op op_mulW pe_int (pe_callTy call_int1 (by rfl) T.m_int (by decide +kernel) (pa_cons (pe_cmp (pc_lt (pv 2) pe_int) rfl) pa_nil)))) pe_int))
      (pss_one (ps_ret (pe_lst (pa_cons (pe_callB (call_max2 rfl) (by rfl) T.m_max (by decide +kernel) (pa_cons pe_int (pa_cons (pe_op op_sub (pv 3) (pe_op op_powW pe_int pe_int)) pa_nil))) (pa_cons (pv 4) (pa_cons pe_int pa_nil))))))))), ?_⟩
    refine ⟨fun σ' H' => ∃ c : Int, σ' = [some (.ref a), some (.int t), some (.int c), none, none] ∧ Same H H', ?_, ?_⟩
    · refine ⟨_, rfl, _, rfl, a, _, rfl, .inl hS, _, _, rfl, rfl, _, rfl, ifd (fun h => ?_) (fun h => ?_)⟩
      · have hi : t < ns.length := by
          rw [List.length_map] at h
          omega
        refine ⟨_, rfl, _, rfl, a, _, t, .int ns[t], rfl, rfl, hS, atI_nat (by rw [List.getElem?_map, List.getElem?_eq_getElem hi]; rfl), .inl ⟨_, rfl, ?_⟩⟩
        exact ⟨_, rfl, Same.refl H⟩
      · refine ⟨_, rfl, _, _, rfl, rfl, CMulW.of (lt3000s (by decide) (by decide)) (lt3000s (by omega) (by omega)), _, _, rfl, rfl, ?_⟩
        exact ⟨_, rfl, Same.refl H⟩
    · rintro σ' H' ⟨c, rfl, hs⟩
      refine ⟨_, rfl, c, rfl, 10, 53, rfl, rfl, ⟨by decide, by decide +kernel⟩, 10 ^ 53, 6, rfl, rfl, ⟨by decide, by decide +kernel⟩, _, _, rfl, rfl, (by show (0 : Int) < (10 ^ 53) ^ (6 : Int).toNat; decide +kernel), ?_⟩
      have g0 := Int.emod_nonneg (if c < 0 then -c else c) (by decide +kernel : ((10 : Int) ^ 53) ^ (6 : Int).toNat ≠ 0)
      have g1 := Int.emod_lt_of_pos (if c < 0 then -c else c) (by decide +kernel : (0 : Int) < ((10 : Int) ^ 53) ^ (6 : Int).toNat)
      have e290 : ((10 : Int) ^ 53) ^ (6 : Int).toNat = 10 ^ 318 := by decide +kernel
      rw [e290] at g0 g1
      have gb := lt3000 g0 (Int.lt_trans g1 (by decide +kernel))
      refine ⟨_, rfl, _, _, rfl, rfl, (by show (0 : Int) < 2305843009213693907; decide), _, _, rfl, rfl, CMulW.of (lt3000s (by omega) (by omega)) (lt3000s (by decide) (by decide)), _, rfl, _, _, rfl, rfl, CMulW.of (lt3000s (by decide) (by decide)) (lt3000s (by omega) (by omega)), _, _, rfl, rfl, ?_⟩
      have eb : ∀ b : Bool, 0 ≤ (if b = true then (1 : Int) else 0) ∧ (if b = true then (1 : Int) else 0) ≤ 1 := fun b => by cases b <;> decide
      have hb := eb (decide (c < 0))
      refine ⟨_, rfl, _, _, rfl, rfl, .inr ⟨_, rfl, _, _, rfl, rfl, CMulW.of (lt3000s (by decide) (by decide)) (lt3000s (by split <;> decide) (by split <;> decide)), _, _, rfl, rfl, _, _, rfl, rfl, ?_⟩⟩
      refine ⟨_, rfl, 10, 15, rfl, rfl, ⟨by decide, by decide +kernel⟩, _, _, rfl, rfl, _, _, rfl, _, rfl, (by show 3 ≤ sizeLine; decide), fun p hp => ?_⟩
      have e16 : (10 : Int) ^ (15 : Int).toNat = 1000000000000000 := by decide +kernel
      refine q p _ _ (hs.trans (same_upd hp)) (hs.free hp) upd_same ⟨_, _, _, rfl, ?_, ?_, ?_, ?_, by decide, by decide⟩
      · rw [e16]
        split <;> omega
      · rw [e16, e290]
        have : (0 : Int) < 10 ^ 318 := by decide +kernel
        have h1 : ∀ z N : Int, 0 ≤ z → z < N → 0 < N → (if z - 1000000000000000 > 0 then z - 1000000000000000 else 0) < N := fun z N a b c => by split <;> omega
        exact Int.lt_trans (h1 _ _ g0 g1 this) (by decide +kernel)
      · omega
      · omega
end
end Sf

namespace Sf
open PySem PySem.Spec PyProof.Rows L2
/-! the law's own fours: a pair of four integers and a bottom -/
def LF (H : Hp) (v : V) (q : Q5) : Prop := ∃ t e, v = .ref t ∧ H t = some (.tup [.ref e, .int q.d]) ∧ H e = some (.tup (ents q))
theorem LF.same {H H' : Hp} {v : V} {q : Q5} (h : LF H v q) (s : Same H H') : LF H' v q := let ⟨t, e, h0, h1, h2⟩ := h; ⟨t, e, h0, s _ _ h1, s _ _ h2⟩
theorem tup_ne {p : Addr} {n : Nat} {H : Hp} {a : Addr} {xs : List V} (s : Sk p n H) (h : H a = some (.tup xs)) : a ≠ p := fun z => by
  obtain ⟨_, g, _⟩ := s
  rw [z, g] at h
  cases h
theorem LF.keep {p : Addr} {n : Nat} {H H' : Hp} {v : V} {q : Q5} (h : LF H v q) (s : Sk p n H) (k : Keep p H H') : LF H' v q := let ⟨t, e, h0, h1, h2⟩ := h; ⟨t, e, h0, k _ _ h1 (tup_ne s h1), k _ _ h2 (tup_ne s h2)⟩
theorem abs_nat (i : Int) : (if i < 0 then -i else i) = (i.natAbs : Int) := by split <;> omega
/-! Euclid in six hundred turns -/
def fibP : Nat → Nat × Nat
  | 0 => (0, 1)
  | n + 1 => ((fibP n).2, (fibP n).1 + (fibP n).2)
theorem fib599 : 2 ^ 400 ≤ (fibP 599).2 := by decide +kernel
theorem fib_step {n : Nat} {x y : Nat} (h : y ≤ x) (y0 : 0 < y) {b : Nat} (c : (fibP n).2 * x + (fibP n).1 * y ≤ b) : (fibP (n + 1)).2 * y + (fibP (n + 1)).1 * (x % y) ≤ b := by
  show ((fibP n).1 + (fibP n).2) * y + (fibP n).2 * (x % y) ≤ b
  have e : y + x % y ≤ x := by
    have h1 := Nat.div_add_mod x y
    have h2 : 1 ≤ x / y := (Nat.one_le_div_iff y0).mpr h
    have h3 : y * 1 ≤ y * (x / y) := Nat.mul_le_mul_left _ h2
    omega
  have h4 : (fibP n).2 * (y + x % y) ≤ (fibP n).2 * x := Nat.mul_le_mul_left _ e
  rw [Nat.mul_add] at h4
  rw [Nat.add_mul]
  omega
theorem gcd_law (w x y z d : Int) : ((((d.natAbs.gcd w.natAbs).gcd x.natAbs).gcd y.natAbs).gcd z.natAbs) = gcd5 w x y z d := by
  unfold gcd5
  simp only [Nat.gcd_assoc, Nat.gcd_comm, Nat.gcd_left_comm]
end Sf

namespace Sf
open PySem PySem.Spec PyProof.Rows L2
section
variable {P : Program} {w : World} {K : PySem.W.Frag} {mg : Str → Option Value} {base : Heap} {f : Addr} {fd : FuncData}
def spCommon : Sp := fun vs H Q _ => ∃ a b : Int, vs = [.int a, .int b] ∧ a.natAbs < 2 ^ 3000 ∧ b.natAbs < 2 ^ 400 ∧ Q (.int ((a.natAbs.gcd b.natAbs : Nat) : Int)) H
theorem ok_common (F : FnD K "_law_common" "_law_common" s_L_common f fd) (T : Glob mg) : FnOk P w K mg base CX0 1 f fd ["_law_one", "_law_other"] spCommon := by
  refine F.ok sc_L_common (fun vs H Q E h => ?_) (fun cdv A outer s H vs Q E hr h => ?_)
  · obtain ⟨a, b, rfl, _⟩ := h; rfl
  · obtain ⟨a, b, rfl, ha, hb, q⟩ := h
    refine ⟨_, PSs.nox (pss_cons (ps_par (i := 0) (j := 1) (by rfl) sc_L_common.nd rfl rfl (by decide) rfl rfl (pa_cons (pe_callB call_abs (by rfl) T.m_abs (by decide +kernel) (pa_cons (pv 0) pa_nil)) (pa_cons (pe_callB call_abs (by rfl) T.m_abs (by decide +kernel) (pa_cons (pv 1) pa_nil)) pa_nil)) (by rfl))
      (Evl.pss_cut (ps_for PassesOwn.never rfl (pi_range1 (by rfl) T.m_range (pa_cons pe_int pa_nil)) (pg_name (i := 2) sc_L_common.nd rfl (Or.inl rfl)) (pss_cons (ps_if (pt_cmp (pc_eqI (pv 1) pe_int)) (pss_one ps_break) pss_nil)
      (pss_one (ps_par (i := 0) (j := 1) (by rfl) sc_L_common.nd rfl rfl (by decide) rfl rfl (pa_cons (pv 1) (pa_cons (pe_op op_sub (pv 0) (pe_op op_mulW (pe_op op_fdivW (pv 0) (pv 1)) (pv 1))) pa_nil)) (by rfl)))))
      (pss_one (ps_ret (pv 0))))), ?_⟩
    refine ⟨_, rfl, a, rfl, _, rfl, b, rfl, _, _, rfl, ?_⟩
    have ea : (if a < 0 then -a else a) = ((a.natAbs : Nat) : Int) := by split <;> omega
    have eb : (if b < 0 then -b else b) = ((b.natAbs : Nat) : Int) := by split <;> omega
    rw [ea, eb]
    generalize hx : a.natAbs = x0 at *
    generalize hy : b.natAbs = y0 at *
    refine ⟨fun σ' H' => ∃ v : Option V, σ' = [some (.int ((x0.gcd y0 : Nat) : Int)), some (.int 0), v] ∧ H = H', ?_, ?_⟩
    · refine ⟨600, rfl, by decide, by decide, for_range (lo := 0) (n := 600) (fun i σ H' => ∃ (x y : Nat) (v : Option V), σ = [some (.int x), some (.int y), v] ∧ H = H' ∧ x < 2 ^ 3000 ∧ x.gcd y = x0.gcd y0 ∧ y ≤ max y0 x ∧ (i = 0 → y = y0) ∧ (1 ≤ i → y ≤ x ∧ (fibP (i - 1)).2 * x + (fibP (i - 1)).1 * y ≤ y0)) ⟨x0, y0, none, rfl, rfl, ha, rfl, by omega, fun _ => rfl, fun h => by omega⟩ ?_ ?_⟩
      · rintro i σ _ hi ⟨x, y, v, rfl, rfl, bx, eg, ymax, e0, inv⟩
        refine ⟨_, rfl, _, _, rfl, rfl, _, rfl, ifd (fun h => ?_) (fun h => ?_)⟩
        · have y0' : y = 0 := by omega
          subst y0'
          rw [Nat.gcd_zero_right] at eg
          refine ⟨some (.int (0 + (i : Int))), ?_, rfl⟩
          rw [← eg]
          rfl
        · have yp : 0 < y := by omega
          have by0 : y ≤ y0 := by
            by_cases c : i = 0
            · rw [e0 c]
              exact Nat.le_refl _
            · obtain ⟨h1, h2⟩ := inv (by omega)
              have h3 : 1 ≤ (fibP (i - 1)).2 := by
                have : ∀ n, 1 ≤ (fibP n).2 := fun n => by
                  induction n with
                  | zero => exact Nat.le_refl 1
                  | succ n ih => show 1 ≤ (fibP n).1 + (fibP n).2; omega
                exact this _
              have h4 : 1 * x ≤ (fibP (i - 1)).2 * x := Nat.mul_le_mul_right _ h3
              omega
          have yb : ((y : Nat) : Int).natAbs < 2 ^ 3000 := by
            show y < 2 ^ 3000
            exact Nat.lt_of_lt_of_le (Nat.lt_of_le_of_lt by0 hb) (Nat.pow_le_pow_right (by decide) (by decide))
          refine ⟨_, rfl, _, rfl, _, rfl, _, rfl, _, _, rfl, rfl, CDivW.of (by omega) yb, _, rfl, _, _, rfl, rfl, wmul (m := 3000) (n := 3000) (by rw [← Int.natCast_ediv]; exact Nat.lt_of_le_of_lt (Nat.div_le_self _ _) bx) yb (by decide) (by decide) (by decide), _, _, rfl, rfl, _, _, rfl, ?_⟩
          · have em : (x : Int) - (x : Int) / (y : Int) * (y : Int) = ((x % y : Nat) : Int) := by
              have h1 := Int.emod_add_mul_ediv (x : Int) (y : Int)
              rw [Int.mul_comm (y : Int)] at h1
              rw [Int.natCast_emod]
              omega
            refine ⟨y, x % y, some (.int (0 + (i : Int))), ?_, rfl, yb, ?_, ?_, fun h => by omega, fun _ => ⟨Nat.le_of_lt (Nat.mod_lt _ yp), ?_⟩⟩
            · rw [← em]
              rfl
            · rw [← eg, Nat.gcd_comm y (x % y), ← Nat.gcd_rec, Nat.gcd_comm]
            · have := Nat.mod_lt x yp
              omega
            · by_cases c : i = 0
              · subst c
                show (fibP 0).2 * y + (fibP 0).1 * (x % y) ≤ y0
                show 1 * y + 0 * (x % y) ≤ y0
                omega
              · obtain ⟨h1, h2⟩ := inv (by omega)
                have e : i + 1 - 1 = (i - 1) + 1 := by omega
                rw [e]
                exact fib_step h1 yp h2
      · rintro σ _ ⟨x, y, v, rfl, rfl, bx, eg, ymax, e0, inv⟩
        obtain ⟨h1, h2⟩ := inv (by decide)
        have h3 : 2 ^ 400 * x ≤ (fibP 599).2 * x := Nat.mul_le_mul_right _ fib599
        have h5 : (fibP 599).2 * x ≤ y0 := Nat.le_trans (Nat.le_add_right _ _) h2
        have x00 : x = 0 := by
          by_cases c : x = 0
          · exact c
          · have h4 : 2 ^ 400 * 1 ≤ 2 ^ 400 * x := Nat.mul_le_mul_left _ (by omega)
            omega
        subst x00
        have y00 : y = 0 := by omega
        subst y00
        rw [Nat.gcd_zero_right] at eg
        refine ⟨v, ?_, rfl⟩
        rw [← eg]
        rfl
    · rintro σ' _ ⟨v, rfl, rfl⟩
      exact ⟨_, rfl, q⟩
end
end Sf

namespace Sf
open PySem PySem.Spec PyProof.Rows L2
section
variable {P : Program} {w : World} {K : PySem.W.Frag} {mg : Str → Option Value} {base : Heap} {f : Addr} {fd : FuncData}
structure LowestP (vs : List V) (H : Hp) (Q : VK) : Prop where
  ex : ∃ (l : Addr) (q : Q5), vs = [.ref l, .int q.d] ∧ H l = some (.lst (ents q)) ∧ q.d ≠ 0 ∧ q.w.natAbs < 2 ^ 400 ∧ q.x.natAbs < 2 ^ 400 ∧ q.y.natAbs < 2 ^ 400 ∧ q.z.natAbs < 2 ^ 400 ∧ q.d.natAbs < 2 ^ 2900 ∧ ∀ (r : Q5) (v : V) (H' : Hp), Low5 q r → Same H H' → LF H' v r → Q v H'
def spLowest2 : Sp := fun vs H Q _ => LowestP vs H Q
def gcdT (d : Nat) (l : List Int) : Nat := l.foldl (fun g e => g.gcd e.natAbs) d
theorem gcdT_snoc (d : Nat) (l : List Int) (e : Int) : gcdT d (l ++ [e]) = (gcdT d l).gcd e.natAbs := by
  unfold gcdT
  rw [List.foldl_append]
  rfl
theorem gcdT_le {d : Nat} (h : 0 < d) : ∀ l : List Int, gcdT d l ≤ d ∧ 0 < gcdT d l := fun l => by
  unfold gcdT
  induction l generalizing d with
  | nil => exact ⟨Nat.le_refl _, h⟩
  | cons x l ih =>
    have g0 : 0 < d.gcd x.natAbs := Nat.gcd_pos_of_pos_left _ h
    have g1 := Nat.gcd_le_left x.natAbs h
    obtain ⟨h1, h2⟩ := ih g0
    exact ⟨Nat.le_trans h1 g1, h2⟩
theorem ok_lowest (F : FnD K "_law_lowest" "_law_lowest" s_L_lowest f fd) (T : Glob mg) (C_L_common : Cal P w K mg base 1 "_law_common" ["_law_one", "_law_other"] spCommon) : FnOk P w K mg base CX0 2 f fd ["_law_entries", "_law_bottom"] spLowest2 := by
  refine F.ok sc_L_lowest (fun vs H Q E h => ?_) (fun cdv A outer s H vs Q E hr h => ?_)
  · obtain ⟨l, q, rfl, _⟩ := h.ex; rfl
  · obtain ⟨l, p, rfl, hl, d0, bw, bx, by_, bz, bd, q⟩ := h.ex
    refine ⟨_, PSs.nox (pss_cons (ps_set (i := 2) sc_L_lowest.nd rfl (Or.inl rfl) (pe_callB call_abs (by rfl) T.m_abs (by decide +kernel) (pa_cons (pv 1) pa_nil)))
      (pss_cons (ps_for PassesOwn.never rfl (pi_list (pv 0)) (pg_name (i := 3) sc_L_lowest.nd rfl (Or.inl rfl)) (pss_one (ps_set (i := 2) sc_L_lowest.nd rfl (Or.inl rfl) (pe_cal C_L_common (hr.mono (by decide)) (pa_cons (pv 2) (pa_cons (pv 3) pa_nil))))))
      (Evl.pss_cut (ps_set (i := 4) sc_L_lowest.nd rfl (Or.inr rfl) (pe_ifExp (pt_cmp (pc_gt (pv 1) pe_int)) (pv 2) (pe_op op_sub pe_int (pv 2))))
      (pss_one (ps_ret (pe_tup (pa_cons (pe_callTy call_tuple_of (by rfl) T.m_tuple (by decide +kernel) (pa_cons (pe_lc rfl sc_L_lowest.nd (own := [("_law_entry", 3)]) (pi_list (pv 0)) (blkOk_by (N := ["_law_entries", "_law_bottom", "_law_common_here", "_law_entry", "_law_share"]) (sc := defScope s_L_lowest) (by decide +kernel)) (fun _ _ _ _ _ => pg_name (i := 3) sc_L_lowest.nd rfl (Or.inl rfl)) (fun _ _ _ _ _ => pts_nil) (fun _ _ _ _ _ => (pe_op op_fdivZ (pv 3) (pv 4)))) pa_nil)) (pa_cons (pe_op op_fdivZ (pv 1) (pv 4)) pa_nil)))))))), ?_⟩
    have be : ∀ {i : Nat} {z : Int}, (entI p)[i]? = some z → z.natAbs < 2 ^ 400 := fun {i z} h => by
      have hm := List.mem_of_getElem? h
      have c : z = p.w ∨ z = p.x ∨ z = p.y ∨ z = p.z := by simpa [entI] using hm
      rcases c with rfl | rfl | rfl | rfl <;> assumption
    have dp : 0 < p.d.natAbs := by omega
    refine ⟨_, rfl, p.d, rfl, ?_⟩
    refine ⟨_, rfl, l, rfl, ⟨_, SqL.of hl⟩, for_list (K := K) (a := l) (xs := (entI p).map V.int) (fun i σ H' => H = H' ∧ ∃ v, σ = [some (.ref l), some (.int p.d), some (.int ((gcdT p.d.natAbs ((entI p).take i) : Nat) : Int)), v, none]) ⟨rfl, none, by rw [abs_nat]; rfl⟩ (fun i σ H' _ e => by rw [← e.1]; exact SqL.of hl) ?_ ?_⟩
    · rintro i y σ _ hi ⟨rfl, v, rfl⟩
      obtain ⟨z, hz, rfl⟩ := int_of_map' hi
      have g := gcdT_le dp ((entI p).take i)
      refine ⟨_, rfl, _, rfl, ⟨_, z, rfl, Nat.lt_of_le_of_lt g.1 (Nat.lt_of_lt_of_le bd (Nat.pow_le_pow_right (by decide) (by decide))), be hz, ?_⟩⟩
      refine ⟨rfl, some (.int z), ?_⟩
      rw [List.take_add_one, hz]
      show (_ : L2.St) = [some (.ref l), some (.int p.d), some (.int ((gcdT p.d.natAbs ((entI p).take i ++ [z]) : Nat) : Int)), some (.int z), none]
      rw [gcdT_snoc]
      rfl
    · rintro σ _ ⟨rfl, v, rfl⟩
      have eg : gcdT p.d.natAbs ((entI p).take ((entI p).map V.int).length) = gcd5 p.w p.x p.y p.z p.d := by
        rw [← gcd_law]
        rfl
      rw [eg]
      obtain ⟨g0, lw⟩ := low5_of d0
      have gb : gcd5 p.w p.x p.y p.z p.d < 2 ^ 2900 := Nat.lt_of_le_of_lt (Nat.le_of_dvd dp (Nat.gcd_dvd_right _ _)) bd
      generalize hG : gcd5 p.w p.x p.y p.z p.d = G at *
      refine ⟨fun σ' H' => σ' = [some (.ref l), some (.int p.d), some (.int (G : Int)), v, some (.int (if p.d < 0 then -(G : Int) else (G : Int)))] ∧ H = H', ?_, ?_⟩
      · refine ⟨_, rfl, _, _, rfl, rfl, _, rfl, ifd (fun h => ?_) (fun h => ?_)⟩
        · rw [if_neg (by omega : ¬ p.d < 0)]
          exact ⟨_, rfl, rfl, rfl⟩
        · rw [if_pos (by omega : p.d < 0)]
          refine ⟨_, rfl, _, _, rfl, rfl, ?_, rfl⟩
          rw [← Int.zero_sub]
          rfl
      · rintro σ' _ ⟨rfl, rfl⟩
        have c0 : (if p.d < 0 then -(G : Int) else (G : Int)) ≠ 0 := by split <;> omega
        have cb : (if p.d < 0 then -(G : Int) else (G : Int)).natAbs < 2 ^ 8000 := Nat.lt_of_lt_of_le (by split <;> omega : _ < 2 ^ 2900) (Nat.pow_le_pow_right (by decide) (by decide))
        generalize (if p.d < 0 then -(G : Int) else (G : Int)) = c at *
        have Z : ∀ i, CDivZ i c := fun i => CDivZ.of c0 cb
        refine ⟨_, rfl, l, rfl, ⟨_, SqL.of hl⟩, fun D hD => lc_list (K := K) (a := l) (xs := (entI p).map V.int) (fun i H' => Same H H' ∧ H' D = some (.lst (((entI p).take i).map fun n => V.int (n.fdiv c)))) ⟨same_upd hD, upd_same⟩ (fun i H' _ hp => SqL.of (hp.1 _ _ hl)) (fun i v H' hv hp => ?_) (fun H' hp => ?_)⟩
        · obtain ⟨k1, hd⟩ := hp
          obtain ⟨n, hn, rfl⟩ := int_of_map' hv
          refine ⟨rfl, _, rfl, _, rfl, _, _, rfl, rfl, Z _, _, hd, ?_, ?_, ?_⟩
          · rw [List.length_map]
            have := List.length_take_le' i (entI p)
            exact Nat.lt_of_le_of_lt this (by show 4 < sizeLine; decide)
          · intro b o eb
            rw [upd_ne (ne_of_none eb hD)]
            exact k1 _ _ eb
          · rw [upd_same, List.take_add_one, hn, List.map_append]; rfl
        · obtain ⟨k1, hd⟩ := hp
          refine ⟨D, _, rfl, .inl ⟨SqL.of hd, fun e he => ?_⟩⟩
          have et : ((entI p).take ((entI p).map V.int).length).map (fun n => V.int (n.fdiv c)) = ents (scl p c) := rfl
          rw [et]
          have k2 := k1.trans (same_upd (o := .tup (ents (scl p c))) he)
          refine ⟨_, rfl, _, rfl, _, _, rfl, rfl, Z _, (by show 2 ≤ sizeLine; decide), fun t ht => ?_⟩
          exact q (scl p c) (.ref t) _ lw (k2.trans (same_upd ht)) ⟨t, e, rfl, upd_same, by rw [upd_ne (ne_of_none upd_same ht), upd_same]⟩
end
end Sf

namespace Sf
open PySem PySem.Spec PyProof.Rows L2
/-! the product by the law's own table -/
def facT (a b : Int) : Nat → Nat → Int
  | 1, 1 => a
  | 1, 2 => 1
  | 1, 3 => a
  | 2, 1 => -1
  | 2, 2 => b
  | 2, 3 => 0 - b
  | 3, 1 => 0 - a
  | 3, 2 => b
  | 3, 3 => 0 - a * b
  | _, _ => 1
def sptT : Nat → Nat → Nat
  | 1, 1 => 0
  | 1, 2 => 3
  | 1, 3 => 2
  | 2, 1 => 3
  | 2, 2 => 0
  | 2, 3 => 1
  | 3, 1 => 2
  | 3, 2 => 1
  | 3, 3 => 0
  | i, j => i + j
def stepT (a b : Int) (e1 e2 : List Int) (i : Nat) (acc : List Int) (j : Nat) : List Int := acc.set (sptT i j) (acc.getD (sptT i j) 0 + facT a b i j * e1.getD i 0 * e2.getD j 0)
def inT (a b : Int) (e1 e2 : List Int) (i : Nat) (acc : List Int) (n : Nat) : List Int := (List.range n).foldl (stepT a b e1 e2 i) acc
def outT (a b : Int) (e1 e2 : List Int) (n : Nat) : List Int := (List.range n).foldl (fun acc i => inT a b e1 e2 i acc 4) [0, 0, 0, 0]
theorem inT_succ (a b : Int) (e1 e2 : List Int) (i : Nat) (acc : List Int) (n : Nat) : inT a b e1 e2 i acc (n + 1) = stepT a b e1 e2 i (inT a b e1 e2 i acc n) n := by
  unfold inT
  rw [List.range_succ, List.foldl_append]
  rfl
theorem outT_succ (a b : Int) (e1 e2 : List Int) (n : Nat) : outT a b e1 e2 (n + 1) = inT a b e1 e2 n (outT a b e1 e2 n) 4 := by
  unfold outT
  rw [List.range_succ, List.foldl_append]
  rfl
theorem inT_len (a b : Int) (e1 e2 : List Int) (i : Nat) (acc : List Int) : ∀ n, (inT a b e1 e2 i acc n).length = acc.length
  | 0 => rfl
  | n + 1 => by
    rw [inT_succ]
    unfold stepT
    rw [List.length_set]
    exact inT_len a b e1 e2 i acc n
theorem outT_len (a b : Int) (e1 e2 : List Int) : ∀ n, (outT a b e1 e2 n).length = 4
  | 0 => rfl
  | n + 1 => by rw [outT_succ, inT_len]; exact outT_len a b e1 e2 n
theorem outT_prod (a b : Int) (p q : Q5) : outT a b (entI p) (entI q) 4 = entI (prodQ a b p q) := by
  have e : outT a b (entI p) (entI q) 4 = [0 + 1 * p.w * q.w + a * p.x * q.x + b * p.y * q.y + (0 - a * b) * p.z * q.z, 0 + 1 * p.w * q.x + 1 * p.x * q.w + (0 - b) * p.y * q.z + b * p.z * q.y,
      0 + 1 * p.w * q.y + a * p.x * q.z + 1 * p.y * q.w + (0 - a) * p.z * q.x, 0 + 1 * p.w * q.z + 1 * p.x * q.y + -1 * p.y * q.x + 1 * p.z * q.w] := rfl
  rw [e]
  unfold entI prodQ
  dsimp only
  congr 1
  · grind
  · congr 1
    · grind
    · congr 1
      · grind
      · congr 1
        grind
theorem spt4 {i j : Nat} (hi : i < 4) (hj : j < 4) : sptT i j < 4 := by
  have ci : i = 0 ∨ i = 1 ∨ i = 2 ∨ i = 3 := by omega
  have cj : j = 0 ∨ j = 1 ∨ j = 2 ∨ j = 3 := by omega
  rcases ci with rfl | rfl | rfl | rfl <;> rcases cj with rfl | rfl | rfl | rfl <;> decide
theorem fac_lt {a b : Int} (ha : a.natAbs < 2 ^ 10) (hb : b.natAbs < 2 ^ 10) {i j : Nat} (hi : i < 4) (hj : j < 4) : (facT a b i j).natAbs < 2 ^ 21 := by
  have ab : (a * b).natAbs < 2 ^ 20 := wide_lt ha hb
  have ci : i = 0 ∨ i = 1 ∨ i = 2 ∨ i = 3 := by omega
  have cj : j = 0 ∨ j = 1 ∨ j = 2 ∨ j = 3 := by omega
  rcases ci with rfl | rfl | rfl | rfl <;> rcases cj with rfl | rfl | rfl | rfl <;> simp only [facT] <;> omega
def k2 (i j : Int) : List Key := [Sum.inl i, Sum.inl j]
/-- the table's entries: at each key a tuple of the factor and the spot -/
structure TabP (a b : Int) (H : Hp) (kvs : List (List Key × V)) : Prop where
  at_ : ∀ i j : Nat, 0 < i → 0 < j → i < 4 → j < 4 → ∃ v : Addr, valV kvs (k2 i j) = some (.ref v) ∧ H v = some (.tup [.int (facT a b i j), .int (sptT i j)])
theorem TabP.same {a b : Int} {H H' : Hp} {kvs : List (List Key × V)} (h : TabP a b H kvs) (s : Same H H') : TabP a b H' kvs := ⟨fun i j hi hj hi4 hj4 => let ⟨v, e, g⟩ := h.at_ i j hi hj hi4 hj4; ⟨v, e, s _ _ g⟩⟩
theorem ixN4 {n : Nat} (h : n < 4) : ixN 4 (n : Int) = some n := by
  have c : n = 0 ∨ n = 1 ∨ n = 2 ∨ n = 3 := by omega
  rcases c with rfl | rfl | rfl | rfl <;> rfl
end Sf

namespace Sf
open PySem PySem.Spec PyProof.Rows L2
section
variable {P : Program} {w : World} {K : PySem.W.Frag} {mg : Str → Option Value} {base : Heap} {f : Addr} {fd : FuncData}
structure TimesP (vs : List V) (H : Hp) (Q : VK) : Prop where
  ex : ∃ (pr : Addr) (a b : Int) (v1 v2 : V) (p q : Q5) (m n : Nat), vs = [.ref pr, v1, v2] ∧ H pr = some (.tup [.int a, .int b]) ∧ LF H v1 p ∧ LF H v2 q ∧ a.natAbs < 2 ^ 10 ∧ b.natAbs < 2 ^ 10 ∧ (Bd m p ∧ Bd n q ∨ (p.w.natAbs < 2 ^ m ∧ p.x.natAbs < 2 ^ m ∧ p.y.natAbs < 2 ^ m ∧ p.z.natAbs < 2 ^ m ∧ q.w.natAbs < 2 ^ n ∧ q.x.natAbs < 2 ^ n ∧ q.y.natAbs < 2 ^ n ∧ q.z.natAbs < 2 ^ n ∧ p.d.natAbs < 2 ^ 1400 ∧ q.d.natAbs < 2 ^ 1400)) ∧ m + n ≤ 376 ∧ p.d ≠ 0 ∧ q.d ≠ 0 ∧
    ∀ (r : Q5) (v : V) (H' : Hp), Low5 (prodQ a b p q) r → Same H H' → LF H' v r → Q v H'
def spTimes : Sp := fun vs H Q _ => TimesP vs H Q
set_option maxHeartbeats 16000000 in
theorem ok_times (F : FnD K "_law_times" "_law_times" s_L_times f fd) (T : Glob mg) (C_L_lowest : Cal P w K mg base 2 "_law_lowest" ["_law_entries", "_law_bottom"] spLowest2) : FnOk P w K mg base CX0 3 f fd ["_law_pair_here", "_law_one", "_law_other"] spTimes := by
  refine F.ok sc_L_times (fun vs H Q E h => ?_) (fun cdv A outer s H vs Q E hr h => ?_)
  · obtain ⟨pr, a, b, v1, v2, p, q, m, n, rfl, _⟩ := h.ex; rfl
  · obtain ⟨pr, a, b, v1, v2, p, q5, m, n, rfl, hpr, ⟨t1, e1, rfl, h1, u1⟩, ⟨t2, e2, rfl, h2, u2⟩, ba, bb, bds, mn, pd, qd, q⟩ := h.ex
    have hu := hu_of hr
    refine ⟨_, PSs.nox (pss_cons (ps_asg (pv 0) (pg_tup (by rfl) (pgs_cons (pg_name (i := 3) sc_L_times.nd rfl (Or.inl rfl)) (pgs_cons (pg_name (i := 4) sc_L_times.nd rfl (Or.inl rfl)) pgs_nil))))
      (pss_cons (ps_set (i := 5) sc_L_times.nd rfl (Or.inl rfl) (pe_dispT hu (pps_cons (pe_tup (pa_cons pe_int (pa_cons pe_int pa_nil))) (pe_tup (pa_cons (pv 3) (pa_cons pe_int pa_nil))) (pps_cons (pe_tup (pa_cons pe_int (pa_cons pe_int pa_nil))) (pe_tup (pa_cons pe_int (pa_cons pe_int pa_nil))) (pps_cons (pe_tup (pa_cons pe_int (pa_cons pe_int pa_nil))) (pe_tup (pa_cons (pv 3) (pa_cons pe_int pa_nil))) (pps_cons (pe_tup (pa_cons pe_int (pa_cons pe_int pa_nil))) (pe_tup (pa_cons (pe_un un_neg pe_int) (pa_cons pe_int pa_nil))) (pps_cons (pe_tup (pa_cons pe_int (pa_cons pe_int pa_nil))) (pe_tup (pa_cons (pv 4) (pa_cons pe_int pa_nil))) (pps_cons (pe_tup (pa_cons pe_int (pa_cons pe_int pa_nil))) (pe_tup (pa_cons (pe_op op_sub pe_int (pv 4)) (pa_cons pe_int pa_nil))) pps_nil)))))) (by rfl) (by rfl) (fun z => by cases z) (by decide)))
      (pss_cons (ps_for PassesOwn.never rfl (pi_list (pe_lst (pa_cons (pe_tup (pa_cons (pe_tup (pa_cons pe_int (pa_cons pe_int pa_nil))) (pa_cons (pe_tup (pa_cons (pe_op op_sub pe_int (pv 3)) (pa_cons pe_int pa_nil))) pa_nil))) (pa_cons (pe_tup (pa_cons (pe_tup (pa_cons pe_int (pa_cons pe_int pa_nil))) (pa_cons (pe_tup (pa_cons (pv 4) (pa_cons pe_int pa_nil))) pa_nil))) (pa_cons (pe_tup (pa_cons (pe_tup (pa_cons pe_int (pa_cons pe_int pa_nil))) (pa_cons (pe_tup (pa_cons (pe_op op_sub pe_int (pe_op op_mulW (pv 3) (pv 4))) (pa_cons pe_int pa_nil))) pa_nil))) pa_nil))))) (pg_tup (by rfl) (pgs_cons (pg_name (i := 6) sc_L_times.nd rfl (Or.inl rfl)) (pgs_cons (pg_name (i := 7) sc_L_times.nd rfl (Or.inl rfl)) pgs_nil))) (pss_one (ps_dput hu (pv 5) (pv 6) (pv 7) rfl)))
      (pss_cons (ps_set (i := 8) sc_L_times.nd rfl (Or.inl rfl) (pe_lst (pa_cons pe_int (pa_cons pe_int (pa_cons pe_int (pa_cons pe_int pa_nil))))))
      (pss_cons (ps_for PassesOwn.never rfl (pi_enumT (by rfl) T.m_enumerate (pa_cons (pe_ix ix_tup (pv 1) pe_int (fun _ _ => rfl)) pa_nil)) (pg_tup (by rfl) (pgs_cons (pg_name (i := 9) sc_L_times.nd rfl (Or.inl rfl)) (pgs_cons (pg_name (i := 10) sc_L_times.nd rfl (Or.inl rfl)) pgs_nil))) (pss_one (ps_for PassesOwn.never rfl (pi_enumT (by rfl) T.m_enumerate (pa_cons (pe_ix ix_tup (pv 2) pe_int (fun _ _ => rfl)) pa_nil)) (pg_tup (by rfl) (pgs_cons (pg_name (i := 11) sc_L_times.nd rfl (Or.inl rfl)) (pgs_cons (pg_name (i := 12) sc_L_times.nd rfl (Or.inl rfl)) pgs_nil))) (pss_cons (ps_asg (pe_cut (pe_ifExp (PW.pt (pw_and (pt_cmp (pc_gt (pv 9) pe_int)) (pw_and1 (pt_cmp (pc_gt (pv 11) pe_int))))) (pe_dget hu (pv 5) (pe_tup (pa_cons (pv 9) (pa_cons (pv 11) pa_nil))) (fun _ _ => rfl)) (pe_tup (pa_cons pe_int (pa_cons (pe_op op_add (pv 9) (pv 11)) pa_nil))))) (pg_tup (by rfl) (pgs_cons (pg_name (i := 13) sc_L_times.nd rfl (Or.inl rfl)) (pgs_cons (pg_name (i := 14) sc_L_times.nd rfl (Or.inl rfl)) pgs_nil))))
      (pss_one (ps_asg (pe_op op_add (pe_ix ix_list (pv 8) (pv 14) (fun _ _ => rfl)) (pe_op op_mulW (pe_op op_mulW (pv 13) (pv 10)) (pv 12))) (pg_sub (pv 8) (pv 14) set_list)))))))
      (pss_one (ps_ret (pe_cal C_L_lowest (hr.mono (by decide)) (pa_cons (pv 8) (pa_cons (pe_op op_mulW (pe_ix ix_tup (pv 1) pe_int (fun _ _ => rfl)) (pe_ix ix_tup (pv 2) pe_int (fun _ _ => rfl))) pa_nil)))))))))), ?_⟩
    refine ⟨_, rfl, pr, _, rfl, .inl (.inl hpr), rfl, _, _, rfl, _, _, rfl, rfl, ?_⟩
    refine fun d hd => ⟨(by show 2 ≤ sizeLine; decide), fun k1 hk1 => ⟨_, rfl, (by show 2 ≤ sizeLine; decide), fun v1 hv1 => ⟨(by show 2 ≤ sizeLine; decide), fun k2' hk2 => ⟨(by show 2 ≤ sizeLine; decide), fun v2 hv2 => ⟨(by show 2 ≤ sizeLine; decide), fun k3 hk3 => ⟨_, rfl, (by show 2 ≤ sizeLine; decide), fun v3 hv3 => ⟨(by show 2 ≤ sizeLine; decide), fun k4 hk4 => ⟨1, rfl, (by show 2 ≤ sizeLine; decide), fun v4 hv4 => ⟨(by show 2 ≤ sizeLine; decide), fun k5 hk5 => ⟨_, rfl, (by show 2 ≤ sizeLine; decide), fun v5 hv5 => ⟨(by show 2 ≤ sizeLine; decide), fun k6 hk6 => ⟨_, rfl, _, _, rfl, rfl, (by show 2 ≤ sizeLine; decide), fun v6 hv6 => ?_⟩⟩⟩⟩⟩⟩⟩⟩⟩⟩⟩⟩
    have z6 := same_upd (o := .tup [.int (0 - b), .int 1]) hv6
    have y6 := (same_upd (o := .tup [.int 2, .int 3]) hk6).trans z6
    have z5 := (same_upd (o := .tup [.int b, .int 0]) hv5).trans y6
    have y5 := (same_upd (o := .tup [.int 2, .int 2]) hk5).trans z5
    have z4 := (same_upd (o := .tup [.int (-1), .int 3]) hv4).trans y5
    have y4 := (same_upd (o := .tup [.int 2, .int 1]) hk4).trans z4
    have z3 := (same_upd (o := .tup [.int a, .int 2]) hv3).trans y4
    have y3 := (same_upd (o := .tup [.int 1, .int 3]) hk3).trans z3
    have z2 := (same_upd (o := .tup [.int 1, .int 3]) hv2).trans y3
    have y2 := (same_upd (o := .tup [.int 1, .int 2]) hk2).trans z2
    have z1 := (same_upd (o := .tup [.int a, .int 0]) hv1).trans y2
    have y1 := (same_upd (o := .tup [.int 1, .int 1]) hk1).trans z1
    have s0 := (same_upd (o := .dT []) hd).trans y1
    have f0 := y1 _ _ (upd_same (H := H) (a := d) (o := .dT []))
    have c1 := z1 _ _ upd_same
    have w1 := y2 _ _ upd_same
    have c2 := z2 _ _ upd_same
    have w2 := y3 _ _ upd_same
    have c3 := z3 _ _ upd_same
    have w3 := y4 _ _ upd_same
    have c4 := z4 _ _ upd_same
    have w4 := y5 _ _ upd_same
    have c5 := z5 _ _ upd_same
    have w5 := y6 _ _ upd_same
    have c6 := z6 _ _ upd_same
    have w6 := upd_same (H := (upd (upd (upd (upd (upd (upd (upd (upd (upd (upd (upd (upd H d (.dT [])) k1 (.tup [.int 1, .int 1])) v1 (.tup [.int a, .int 0])) k2' (.tup [.int 1, .int 2])) v2 (.tup [.int 1, .int 3])) k3 (.tup [.int 1, .int 3])) v3 (.tup [.int a, .int 2])) k4 (.tup [.int 2, .int 1])) v4 (.tup [.int (-1), .int 3])) k5 (.tup [.int 2, .int 2])) v5 (.tup [.int b, .int 0])) k6 (.tup [.int 2, .int 3]))) (a := v6) (o := .tup [.int (0 - b), .int 1])
    generalize hG : (upd (upd (upd (upd (upd (upd (upd (upd (upd (upd (upd (upd (upd H d (.dT [])) k1 (.tup [.int 1, .int 1])) v1 (.tup [.int a, .int 0])) k2' (.tup [.int 1, .int 2])) v2 (.tup [.int 1, .int 3])) k3 (.tup [.int 1, .int 3])) v3 (.tup [.int a, .int 2])) k4 (.tup [.int 2, .int 1])) v4 (.tup [.int (-1), .int 3])) k5 (.tup [.int 2, .int 2])) v5 (.tup [.int b, .int 0])) k6 (.tup [.int 2, .int 3])) v6 (.tup [.int (0 - b), .int 1])) = G at *
    have nd : ∀ {c : Addr} {xs : List V}, G c = some (.tup xs) → c ≠ d := fun {c xs} h z => by
      rw [z] at h
      have e := f0.symm.trans h
      cases e
    have L9 : ∀ n : Nat, n ≤ 9 → n < sizeLine := fun n h => Nat.lt_of_le_of_lt h (by decide)
    have o1 := nd c1
    have o2 := nd c2
    have o3 := nd c3
    have o4 := nd c4
    have o5 := nd c5
    have o6 := nd c6
    refine ⟨k1, k2 1 1, [], rfl, f0, c1, L9 _ (by decide), k2', k2 1 2, _, rfl, upd_same, by rw [upd_ne o2]; exact c2, L9 1 (by decide), k3, k2 1 3, _, rfl, upd_same, by rw [upd_ne o3, upd_ne o3]; exact c3, L9 2 (by decide),
      k4, k2 2 1, _, rfl, upd_same, by rw [upd_ne o4, upd_ne o4, upd_ne o4]; exact c4, L9 3 (by decide), k5, k2 2 2, _, rfl, upd_same, by rw [upd_ne o5, upd_ne o5, upd_ne o5, upd_ne o5]; exact c5, L9 4 (by decide),
      k6, k2 2 3, _, rfl, upd_same, by rw [upd_ne o6, upd_ne o6, upd_ne o6, upd_ne o6, upd_ne o6]; exact c6, L9 5 (by decide), ?_⟩
    -- the table of six
    have hk6 : ∃ G6 : Hp, (upd (upd (upd (upd (upd (upd G d (.dT (putK [] (k2 1 1) (V.ref v1)))) d (.dT (putK (putK [] (k2 1 1) (V.ref v1)) (k2 1 2) (V.ref v2)))) d (.dT (putK (putK (putK [] (k2 1 1) (V.ref v1)) (k2 1 2) (V.ref v2)) (k2 1 3) (V.ref v3)))) d (.dT (putK (putK (putK (putK [] (k2 1 1) (V.ref v1)) (k2 1 2) (V.ref v2)) (k2 1 3) (V.ref v3)) (k2 2 1) (V.ref v4)))) d (.dT (putK (putK (putK (putK (putK [] (k2 1 1) (V.ref v1)) (k2 1 2) (V.ref v2)) (k2 1 3) (V.ref v3)) (k2 2 1) (V.ref v4)) (k2 2 2) (V.ref v5)))) d (.dT (putK (putK (putK (putK (putK (putK [] (k2 1 1) (V.ref v1)) (k2 1 2) (V.ref v2)) (k2 1 3) (V.ref v3)) (k2 2 1) (V.ref v4)) (k2 2 2) (V.ref v5)) (k2 2 3) (V.ref v6)))) = G6 ∧
        G6 d = some (.dT [(k2 1 1, V.ref v1), (k2 1 2, V.ref v2), (k2 1 3, V.ref v3), (k2 2 1, V.ref v4), (k2 2 2, V.ref v5), (k2 2 3, V.ref v6)]) ∧ ∀ (c : Addr) (o : HO), c ≠ d → G c = some o → G6 c = some o :=
      ⟨_, rfl, by rw [upd_same]; rfl, fun c o n h => by rw [upd_ne n, upd_ne n, upd_ne n, upd_ne n, upd_ne n, upd_ne n]; exact h⟩
    obtain ⟨G6, e6, d6, g6⟩ := hk6
    rw [e6]
    have w1' := g6 _ _ (nd w1) w1
    have w2' := g6 _ _ (nd w2) w2
    have w3' := g6 _ _ (nd w3) w3
    have w4' := g6 _ _ (nd w4) w4
    have w5' := g6 _ _ (nd w5) w5
    have w6' := g6 _ _ (nd w6) w6
    have sH6 : Same H G6 := fun c o e => g6 c o (ne_of_none e hd) (s0 _ _ e)
    have ab : CMulW a b := wmul ba bb (by decide) (by decide) (by decide)
    refine ⟨(by show 2 ≤ sizeLine; decide), fun p1 hp1 => ⟨_, rfl, _, _, rfl, rfl, (by show 2 ≤ sizeLine; decide), fun q1 hq1 => ⟨(by show 2 ≤ sizeLine; decide), fun r1 hr1 => ⟨(by show 2 ≤ sizeLine; decide), fun p2 hp2 => ⟨_, rfl, (by show 2 ≤ sizeLine; decide), fun q2 hq2 => ⟨(by show 2 ≤ sizeLine; decide), fun r2 hr2 => ⟨(by show 2 ≤ sizeLine; decide), fun p3 hp3 => ⟨_, rfl, _, rfl, _, _, rfl, rfl, ab, _, _, rfl, rfl, (by show 2 ≤ sizeLine; decide), fun q3 hq3 => ⟨(by show 2 ≤ sizeLine; decide), fun r3 hr3 => ⟨(by show 3 ≤ sizeLine; decide), fun L hL => ?_⟩⟩⟩⟩⟩⟩⟩⟩⟩⟩
    have x10 := same_upd (o := .lst [.ref r1, .ref r2, .ref r3]) hL
    have x9 := (same_upd (o := .tup [.ref p3, .ref q3]) hr3).trans x10
    have x8 := (same_upd (o := .tup [.int (0 - a * b), .int 0]) hq3).trans x9
    have x7 := (same_upd (o := .tup [.int 3, .int 3]) hp3).trans x8
    have x6 := (same_upd (o := .tup [.ref p2, .ref q2]) hr2).trans x7
    have x5 := (same_upd (o := .tup [.int b, .int 1]) hq2).trans x6
    have x4 := (same_upd (o := .tup [.int 3, .int 2]) hp2).trans x5
    have x3 := (same_upd (o := .tup [.ref p1, .ref q1]) hr1).trans x4
    have x2 := (same_upd (o := .tup [.int (0 - a), .int 2]) hq1).trans x3
    have x1 := (same_upd (o := .tup [.int 3, .int 1]) hp1).trans x2
    have g1 := x2 _ _ upd_same
    have g2 := x3 _ _ upd_same
    have g3 := x4 _ _ upd_same
    have g4 := x5 _ _ upd_same
    have g5 := x6 _ _ upd_same
    have g6' := x7 _ _ upd_same
    have g7 := x8 _ _ upd_same
    have g8 := x9 _ _ upd_same
    have g9 := x10 _ _ upd_same
    have gd := x1 _ _ d6
    have gL := upd_same (H := (upd (upd (upd (upd (upd (upd (upd (upd (upd G6 p1 (.tup [.int 3, .int 1])) q1 (.tup [.int (0 - a), .int 2])) r1 (.tup [.ref p1, .ref q1])) p2 (.tup [.int 3, .int 2])) q2 (.tup [.int b, .int 1])) r2 (.tup [.ref p2, .ref q2])) p3 (.tup [.int 3, .int 3])) q3 (.tup [.int (0 - a * b), .int 0])) r3 (.tup [.ref p3, .ref q3]))) (a := L) (o := .lst [.ref r1, .ref r2, .ref r3])
    generalize (upd (upd (upd (upd (upd (upd (upd (upd (upd (upd G6 p1 (.tup [.int 3, .int 1])) q1 (.tup [.int (0 - a), .int 2])) r1 (.tup [.ref p1, .ref q1])) p2 (.tup [.int 3, .int 2])) q2 (.tup [.int b, .int 1])) r2 (.tup [.ref p2, .ref q2])) p3 (.tup [.int 3, .int 3])) q3 (.tup [.int (0 - a * b), .int 0])) r3 (.tup [.ref p3, .ref q3])) L (.lst [.ref r1, .ref r2, .ref r3])) = G7 at *
    have w1'' := x1 _ _ w1'
    have w2'' := x1 _ _ w2'
    have w3'' := x1 _ _ w3'
    have w4'' := x1 _ _ w4'
    have w5'' := x1 _ _ w5'
    have w6'' := x1 _ _ w6'
    have sH7 := sH6.trans x1
    have nd7 : ∀ {c : Addr} {xs : List V}, G7 c = some (.tup xs) → c ≠ d := fun {c xs} h z => by
      rw [z] at h
      have e := gd.symm.trans h
      cases e
    have ndL : L ≠ d := fun z => by
      rw [z] at gL
      have e := gd.symm.trans gL
      cases e
    let B6 : List (List Key × V) := [(k2 1 1, V.ref v1), (k2 1 2, V.ref v2), (k2 1 3, V.ref v3), (k2 2 1, V.ref v4), (k2 2 2, V.ref v5), (k2 2 3, V.ref v6)]
    let E3 : List (List Key × V) := [(k2 3 1, V.ref q1), (k2 3 2, V.ref q2), (k2 3 3, V.ref q3)]
    refine ⟨L, rfl, ⟨_, SqL.of gL⟩, for_list (K := K) (a := L) (xs := [.ref r1, .ref r2, .ref r3]) (fun i σ H' => ∃ key im, σ = [some (.ref pr), some (.ref t1), some (.ref t2), some (.int a), some (.int b), some (.ref d), key, im, none, none, none, none, none, none, none] ∧ H' d = some (.dT (B6 ++ E3.take i)) ∧ ∀ (c : Addr) (o : HO), c ≠ d → G7 c = some o → H' c = some o) ⟨none, none, rfl, gd, fun _ _ _ h => h⟩ (fun i σ H' _ ⟨_, _, _, _, k⟩ => SqL.of (k _ _ ndL gL)) ?_ ?_⟩
    · rintro i y σ H' hi ⟨key, im, rfl, hD, kp⟩
      have ci : i = 0 ∨ i = 1 ∨ i = 2 := by
        have := (List.getElem?_eq_some_iff.mp hi).1
        simp at this
        omega
      rcases ci with rfl | rfl | rfl
      · cases hi
        refine ⟨r1, _, rfl, .inl (.inl (kp _ _ (nd7 g3) g3)), rfl, _, _, rfl, _, _, rfl, rfl, ?_⟩
        exact ⟨_, rfl, _, rfl, _, rfl, d, _, rfl, DPut.t (k := k2 3 1) hD (kp _ _ (nd7 g1) g1) (L9 6 (by decide)), _, _, rfl, by rw [upd_same]; rfl, fun c o n h => by rw [upd_ne n]; exact kp c o n h⟩
      · cases hi
        refine ⟨r2, _, rfl, .inl (.inl (kp _ _ (nd7 g6') g6')), rfl, _, _, rfl, _, _, rfl, rfl, ?_⟩
        exact ⟨_, rfl, _, rfl, _, rfl, d, _, rfl, DPut.t (k := k2 3 2) hD (kp _ _ (nd7 g4) g4) (L9 7 (by decide)), _, _, rfl, by rw [upd_same]; rfl, fun c o n h => by rw [upd_ne n]; exact kp c o n h⟩
      · cases hi
        refine ⟨r3, _, rfl, .inl (.inl (kp _ _ (nd7 g9) g9)), rfl, _, _, rfl, _, _, rfl, rfl, ?_⟩
        exact ⟨_, rfl, _, rfl, _, rfl, d, _, rfl, DPut.t (k := k2 3 3) hD (kp _ _ (nd7 g7) g7) (L9 8 (by decide)), _, _, rfl, by rw [upd_same]; rfl, fun c o n h => by rw [upd_ne n]; exact kp c o n h⟩
    · rintro σ H8 ⟨key, im, rfl, hD, kp⟩
      have sH8 : Same H H8 := fun c o e => kp c o (ne_of_none e hd) (sH7 _ _ e)
      have tab : TabP a b H8 (B6 ++ E3.take 3) := ⟨fun i j hi hj hi4 hj4 => by
        have ci : i = 1 ∨ i = 2 ∨ i = 3 := by omega
        have cj : j = 1 ∨ j = 2 ∨ j = 3 := by omega
        rcases ci with rfl | rfl | rfl <;> rcases cj with rfl | rfl | rfl
        · exact ⟨v1, rfl, kp _ _ (nd7 w1'') w1''⟩
        · exact ⟨v2, rfl, kp _ _ (nd7 w2'') w2''⟩
        · exact ⟨v3, rfl, kp _ _ (nd7 w3'') w3''⟩
        · exact ⟨v4, rfl, kp _ _ (nd7 w4'') w4''⟩
        · exact ⟨v5, rfl, kp _ _ (nd7 w5'') w5''⟩
        · exact ⟨v6, rfl, kp _ _ (nd7 w6'') w6''⟩
        · exact ⟨q1, rfl, kp _ _ (nd7 g2) g2⟩
        · exact ⟨q2, rfl, kp _ _ (nd7 g5) g5⟩
        · exact ⟨q3, rfl, kp _ _ (nd7 g8) g8⟩⟩
      generalize hkv : (B6 ++ E3.take 3) = kvs at tab
      have hD' : H8 d = some (.dT kvs) := by rw [← hkv]; exact hD
      clear_value B6 E3
      refine ⟨(by show 4 ≤ sizeLine; decide), fun Lf hLf => ?_⟩
      have sLf := same_upd (o := .lst [.int 0, .int 0, .int 0, .int 0]) hLf
      have sH9 := sH8.trans sLf
      have hLf9 := upd_same (H := H8) (a := Lf) (o := .lst [.int 0, .int 0, .int 0, .int 0])
      have hD9 := sLf _ _ hD'
      have tab9 := tab.same sLf
      have old : ∀ {c : Addr} {o : HO}, H c = some o → c ≠ Lf := fun {c o} h => ne_of_none (sH8 _ _ h) hLf
      generalize (upd H8 Lf (.lst [.int 0, .int 0, .int 0, .int 0])) = H9 at *
      have ndLf : d ≠ Lf := fun z => by
        rw [z, hLf] at hD'
        cases hD'
      have nT : ∀ {c : Addr} {xs : List V}, H9 c = some (.tup xs) → c ≠ Lf := fun {c xs} h z => by
        rw [z] at h
        have e := hLf9.symm.trans h
        cases e
      have be1 : ∀ {i : Nat} {z : Int}, (entI p)[i]? = some z → z.natAbs < 2 ^ m := fun {i z} h => by
        have hm := List.mem_of_getElem? h
        have c : z = p.w ∨ z = p.x ∨ z = p.y ∨ z = p.z := by simpa [entI] using hm
        rcases bds with ⟨u, _⟩ | ⟨u1, u2, u3, u4, _⟩
        · rcases c with rfl | rfl | rfl | rfl
          · exact u.1
          · exact u.2.1
          · exact u.2.2.1
          · exact u.2.2.2.1
        · rcases c with rfl | rfl | rfl | rfl <;> assumption
      have be2 : ∀ {i : Nat} {z : Int}, (entI q5)[i]? = some z → z.natAbs < 2 ^ n := fun {i z} h => by
        have hm := List.mem_of_getElem? h
        have c : z = q5.w ∨ z = q5.x ∨ z = q5.y ∨ z = q5.z := by simpa [entI] using hm
        rcases bds with ⟨_, u⟩ | ⟨_, _, _, _, u1, u2, u3, u4, _⟩
        · rcases c with rfl | rfl | rfl | rfl
          · exact u.1
          · exact u.2.1
          · exact u.2.2.1
          · exact u.2.2.2.1
        · rcases c with rfl | rfl | rfl | rfl <;> assumption
      have h19 := sH9 _ _ h1
      have u19 := sH9 _ _ u1
      have h29 := sH9 _ _ h2
      have u29 := sH9 _ _ u2
      refine ⟨_, rfl, t1, _, 0, .ref e1, rfl, rfl, SqT.of h19, rfl, e1, _, rfl, SqT.of u19, ?_⟩
      refine for_it (walk_enumT (xs := (entI p).map V.int) (n := 4) rfl) (fun i σ H' => ∃ x9 x10 x11 x12 x13 x14, σ = [some (.ref pr), some (.ref t1), some (.ref t2), some (.int a), some (.int b), some (.ref d), key, im, some (.ref Lf), x9, x10, x11, x12, x13, x14] ∧ Keep Lf H9 H' ∧ H' Lf = some (.lst ((outT a b (entI p) (entI q5) i).map V.int))) ⟨none, none, none, none, none, none, rfl, Keep.refl _ _, hLf9⟩ (fun i σ H' _ ⟨_, _, _, _, _, _, _, k, _⟩ => SqT.of (k _ _ u19 (nT u19))) ?_ ?_
      · rintro i x σ Ha Hb hi ⟨x9, x10, x11, x12, x13, x14, rfl, ka, hLa⟩ ⟨TT, y1, y2, rfl, hTT, rfl, gy1, gy2⟩
        cases gy1
        obtain ⟨z1, hz1, rfl⟩ := int_of_map' gy2
        have sT := same_upd (o := .tup [.int (i : Nat), .int z1]) hTT
        have kb := ka.trans (Keep.same sT)
        refine ⟨TT, _, rfl, .inl (.inl upd_same), rfl, _, _, rfl, _, _, rfl, rfl, ?_⟩
        refine ⟨_, rfl, t2, _, 0, .ref e2, rfl, rfl, SqT.of (kb _ _ h29 (nT h29)), rfl, e2, _, rfl, SqT.of (kb _ _ u29 (nT u29)), ?_⟩
        refine for_it (walk_enumT (xs := (entI q5).map V.int) (n := 4) rfl) (fun j σ H' => ∃ x11 x12 x13 x14, σ = [some (.ref pr), some (.ref t1), some (.ref t2), some (.int a), some (.int b), some (.ref d), key, im, some (.ref Lf), some (.int (i : Nat)), some (.int z1), x11, x12, x13, x14] ∧ Keep Lf H9 H' ∧ H' Lf = some (.lst ((inT a b (entI p) (entI q5) i (outT a b (entI p) (entI q5) i) j).map V.int))) ⟨x11, x12, x13, x14, rfl, kb, sT _ _ hLa⟩ (fun j σ H' _ ⟨_, _, _, _, _, k, _⟩ => SqT.of (k _ _ u29 (nT u29))) ?_ ?_
        · rintro j x σ Hc Hd hj ⟨x11, x12, x13, x14, rfl, kc, hLc⟩ ⟨T2, y1, y2, rfl, hT2, rfl, gy1, gy2'⟩
          cases gy1
          obtain ⟨z2, hz2, rfl⟩ := int_of_map' gy2'
          have sT2 := same_upd (o := .tup [.int (j : Nat), .int z2]) hT2
          have kd := kc.trans (Keep.same sT2)
          have hLd := sT2 _ _ hLc
          refine ⟨T2, _, rfl, .inl (.inl upd_same), rfl, _, _, rfl, _, _, rfl, rfl, ?_⟩
          generalize (upd Hc T2 (.tup [.int (j : Nat), .int z2])) = He at *
          refine ⟨fun v H' => ∃ tt, v = .ref tt ∧ H' tt = some (.tup [.int (facT a b i j), .int (sptT i j)]) ∧ Same He H', ?_, ?_⟩
          · have plain : (¬ (0 < i) ∨ ¬ (0 < j)) → facT a b i j = 1 ∧ ((sptT i j : Nat) : Int) = (i : Int) + (j : Int) := fun h => by
              have ci : i = 0 ∨ i = 1 ∨ i = 2 ∨ i = 3 := by omega
              have cj : j = 0 ∨ j = 1 ∨ j = 2 ∨ j = 3 := by omega
              rcases ci with rfl | rfl | rfl | rfl <;> rcases cj with rfl | rfl | rfl | rfl <;> first | exact ⟨rfl, rfl⟩ | omega
            have other : (¬ (0 < i) ∨ ¬ (0 < j)) → ∀ c, He c = none → (∃ tt, V.ref c = .ref tt ∧ (upd He c (.tup [.int 1, .int ((i : Int) + (j : Int))])) tt = some (.tup [.int (facT a b i j), .int (sptT i j)]) ∧ Same He (upd He c (.tup [.int 1, .int ((i : Int) + (j : Int))]))) := fun h c hc => by
              obtain ⟨e1, e2⟩ := plain h
              exact ⟨c, rfl, by rw [upd_same, e1, e2], same_upd hc⟩
            refine ⟨_, rfl, _, _, rfl, rfl, _, rfl, ifd (fun hi0 => ?_) (fun hi0 => ?_)⟩
            · refine ⟨_, rfl, _, _, rfl, rfl, _, rfl, ifd (fun hj0 => ?_) (fun hj0 => ?_)⟩
              · have i0 : 0 < i := by omega
                have j0 : 0 < j := by omega
                obtain ⟨v, hv, hvt⟩ := tab9.at_ i j i0 j0 hi hj
                refine ⟨_, rfl, _, rfl, _, rfl, (by show 2 ≤ sizeLine; decide), fun kk hkk => ?_⟩
                have sk := same_upd (o := .tup [.int (i : Nat), .int (j : Nat)]) hkk
                have hdk := sk _ _ (kd _ _ hD9 ndLf)
                refine ⟨d, .ref v, rfl, ?_, v, rfl, sk _ _ (kd _ _ hvt (nT hvt)), sk⟩
                have g := DGet.t (k := k2 i j) hdk (by rw [upd_same]; rfl : (upd He kk (.tup [.int (i : Nat), .int (j : Nat)])) kk = some (.tup ((k2 i j).map kV)))
                rw [hv] at g
                exact g
              · refine ⟨_, rfl, _, rfl, _, _, rfl, rfl, (by show 2 ≤ sizeLine; decide), fun c hc => ?_⟩
                exact other (.inr (by omega)) c hc
            · refine ⟨_, rfl, _, rfl, _, _, rfl, rfl, (by show 2 ≤ sizeLine; decide), fun c hc => ?_⟩
              exact other (.inl (by omega)) c hc
          · rintro v Hf ⟨tt, rfl, htt, sf⟩
            have kf := kd.trans (Keep.same sf)
            have hLf' := sf _ _ hLd
            have lenA : (inT a b (entI p) (entI q5) i (outT a b (entI p) (entI q5) i) j).length = 4 := by rw [inT_len, outT_len]
            have sp4 := spt4 hi hj
            generalize hAc : inT a b (entI p) (entI q5) i (outT a b (entI p) (entI q5) i) j = acc at *
            have hix : ixN (acc.map V.int).length ((sptT i j : Nat) : Int) = some (sptT i j) := by
              rw [List.length_map, lenA]
              exact ixN4 sp4
            have hget : (acc.map V.int)[sptT i j]? = some (.int (acc.getD (sptT i j) 0)) := by
              rw [List.getElem?_map, List.getD_eq_getElem?_getD, List.getElem?_eq_getElem (by omega)]
              rfl
            have fl := fac_lt ba bb hi hj
            refine ⟨tt, _, rfl, .inl (.inl htt), rfl, _, _, rfl, _, _, rfl, rfl, ?_⟩
            refine ⟨_, rfl, _, rfl, Lf, _, (sptT i j : Nat), .int (acc.getD (sptT i j) 0), rfl, rfl, SqL.of hLf', atI_nat hget, _, rfl, _, rfl, _, _, rfl, rfl, wmul fl (lt_mono (be1 hz1) (by omega : m ≤ 400)) (by decide) (by decide) (by decide), _, rfl, _, _, rfl, rfl, wmul (wide_lt fl (lt_mono (be1 hz1) (by omega : m ≤ 400))) (lt_mono (be2 hz2) (by omega : n ≤ 400)) (by decide) (by decide) (by decide), _, _, rfl, rfl, ?_⟩
            refine ⟨_, rfl, _, rfl, Lf, _, (sptT i j : Nat), sptT i j, rfl, rfl, hLf', hix, ?_⟩
            refine ⟨_, _, _, _, rfl, kf.trans Keep.upd, ?_⟩
            rw [upd_same, inT_succ, hAc]
            unfold stepT
            rw [List.map_set]
            have d1 : (entI p).getD i 0 = z1 := by rw [List.getD_eq_getElem?_getD, hz1]; rfl
            have d2 : (entI q5).getD j 0 = z2 := by rw [List.getD_eq_getElem?_getD, hz2]; rfl
            rw [d1, d2]
        · rintro σ Hc ⟨x11, x12, x13, x14, rfl, kc, hLc⟩
          exact ⟨_, _, _, _, _, _, rfl, kc, by rw [outT_succ]; exact hLc⟩
      · rintro σ Ha ⟨x9, x10, x11, x12, x13, x14, rfl, ka, hLa⟩
        rw [outT_prod] at hLa
        have h1a := ka _ _ h19 (nT h19)
        have h2a := ka _ _ h29 (nT h29)
        have bd1 : p.d.natAbs < 2 ^ 1400 := bds.elim (fun u => lt_mono u.1.2.2.2.2 (by omega)) fun u => u.2.2.2.2.2.2.2.2.1
        have bd2 : q5.d.natAbs < 2 ^ 1400 := bds.elim (fun u => lt_mono u.2.2.2.2.2 (by omega)) fun u => u.2.2.2.2.2.2.2.2.2
        refine ⟨_, rfl, _, rfl, t1, _, 1, .int p.d, rfl, rfl, SqT.of h1a, rfl, _, rfl, t2, _, 1, .int q5.d, rfl, rfl, SqT.of h2a, rfl, _, _, rfl, rfl, wmul bd1 bd2 (by decide) (by decide) (by decide), ?_⟩
        have pb : Bd 400 ⟨(prodQ a b p q5).w, (prodQ a b p q5).x, (prodQ a b p q5).y, (prodQ a b p q5).z, 1⟩ := by
          have b1 : Bd m ⟨p.w, p.x, p.y, p.z, 1⟩ ∨ m = 0 := by
            by_cases c : m = 0
            · exact .inr c
            · exact .inl ⟨be1 (i := 0) rfl, be1 (i := 1) rfl, be1 (i := 2) rfl, be1 (i := 3) rfl, Nat.one_lt_two_pow c⟩
          have b2 : Bd n ⟨q5.w, q5.x, q5.y, q5.z, 1⟩ ∨ n = 0 := by
            by_cases c : n = 0
            · exact .inr c
            · exact .inl ⟨be2 (i := 0) rfl, be2 (i := 1) rfl, be2 (i := 2) rfl, be2 (i := 3) rfl, Nat.one_lt_two_pow c⟩
          have b1' : Bd (m + 1) ⟨p.w, p.x, p.y, p.z, 1⟩ := ⟨lt_mono (be1 (i := 0) rfl) (by omega), lt_mono (be1 (i := 1) rfl) (by omega), lt_mono (be1 (i := 2) rfl) (by omega), lt_mono (be1 (i := 3) rfl) (by omega), Nat.one_lt_two_pow (by omega)⟩
          have b2' : Bd (n + 1) ⟨q5.w, q5.x, q5.y, q5.z, 1⟩ := ⟨lt_mono (be2 (i := 0) rfl) (by omega), lt_mono (be2 (i := 1) rfl) (by omega), lt_mono (be2 (i := 2) rfl) (by omega), lt_mono (be2 (i := 3) rfl) (by omega), Nat.one_lt_two_pow (by omega)⟩
          have g := bd_mono (prodQ_bd ba bb b1' b2') (by omega : m + 1 + (n + 1) + 2 * 10 + 2 ≤ 400)
          exact ⟨g.1, g.2.1, g.2.2.1, g.2.2.2.1, Nat.one_lt_two_pow (by decide)⟩
        refine ⟨Lf, prodQ a b p q5, rfl, hLa, Int.mul_ne_zero pd qd, pb.1, pb.2.1, pb.2.2.1, pb.2.2.2.1, lt_mono (wide_lt bd1 bd2) (by decide), fun r v H' hr s' hv => ?_⟩
        refine q r v H' hr (fun c o e => s' _ _ (ka _ _ (sH9 _ _ e) (old e))) hv
end
end Sf

namespace Sf
open PySem PySem.Spec PyProof.Rows L2
/-! list(zip(t, u)), t and u tuples of one length: the pairs are held by the new list -/
section
variable {prog : Program} {w : World} {A : Around} {E : Value → Shared → Prop} {s : Shared}
theorem zT_no_len : typeLookup (.type "zip") "__len__" = pure none := am_miss_of_fast (by decide +kernel)
theorem zT_no_hint : typeLookup (.type "zip") "__length_hint__" = pure none := am_miss_of_fast (by decide +kernel)
/-- the zip z stands before its k-th pair -/
def ZSt (S : Addr) (h : Heap) (z TI TO i1 i2 l1 l2 : Addr) (xs ys : Array Value) (k : Nat) : Prop :=
  IsPair h TI (.ref i1) (.ref i2) ∧ h.IsTupleIter i1 l1 k ∧ h.IsTupleIter i2 l2 k ∧ h.IsTuple l1 xs ∧ h.IsTuple l2 ys ∧
    ((IsZip h z TI TO .none ∧ ∃ a b, IsPair h TO a b) ∨ ∃ T f oT, IsZipHeld h z TI TO T f ∧ h.get? T = some oT ∧ S < T)
/-- all of the zip stands before S -/
structure ZB (S z TI TO i1 i2 l1 l2 : Addr) : Prop where
  D : ZipApart z TI TO i1 i2 l1 l2
  z : z < S
  TI : TI < S
  TO : TO < S
  i1 : i1 < S
  i2 : i2 < S
  l1 : l1 < S
  l2 : l2 < S
theorem ZSt.keep {S : Addr} {h h' : Heap} {z TI TO i1 i2 l1 l2 : Addr} {xs ys : Array Value} {k : Nat} (B : ZB S z TI TO i1 i2 l1 l2) (st : ZSt S h z TI TO i1 i2 l1 l2 xs ys k)
    (hk : ∀ b o, b ≠ S → h.get? b = some o → h'.get? b = some o) : ZSt S h' z TI TO i1 i2 l1 l2 xs ys k := by
  obtain ⟨hTI, h1, h2, hl1, hl2, hz⟩ := st
  have n : ∀ {b : Addr}, b < S → b ≠ S := fun h => Nat.ne_of_lt h
  refine ⟨hk _ _ (n B.TI) hTI, h1.at fun o e => hk _ o (n B.i1) e, h2.at fun o e => hk _ o (n B.i2) e, hl1.at fun o e => hk _ o (n B.l1) e, hl2.at fun o e => hk _ o (n B.l2) e, ?_⟩
  rcases hz with ⟨hz, a, b, hTO⟩ | ⟨T, f, oT, hz, hT, r⟩
  · exact .inl ⟨hk _ _ (n B.z) hz, a, b, hk _ _ (n B.TO) hTO⟩
  · exact .inr ⟨T, f, oT, hk _ _ (n B.z) hz, hk _ _ (Nat.ne_of_gt r) hT, r⟩
theorem zheld_item {z TI TO T i1 i2 l1 l2 : Addr} {f : Bool} {oT : Obj} {k : Nat} {xs ys : Array Value} {x y : Value} {Q : Option Value → Shared → Prop} (D : ZipApart z TI TO i1 i2 l1 l2) (hz : IsZipHeld s.heap z TI TO T f) (hT : s.heap.get? T = some oT) (hTI : IsPair s.heap TI (.ref i1) (.ref i2))
    (h1 : s.heap.IsTupleIter i1 l1 k) (h2 : s.heap.IsTupleIter i2 l2 k) (hl1 : s.heap.IsTuple l1 xs) (hl2 : s.heap.IsTuple l2 ys) (hx : xs[k]? = some x) (hy : ys[k]? = some y)
    (q : ∀ h', IsZipHeld h' z TI TO T true → h'.IsTupleIter i1 l1 (k + 1) → h'.IsTupleIter i2 l2 (k + 1) → IsPair h' s.heap.objs.size x y → h'.objs.size = s.heap.objs.size + 1 → (∀ c o, c ≠ z → c ≠ i1 → c ≠ i2 → s.heap.get? c = some o → h'.get? c = some o) → Q (some (.ref s.heap.objs.size)) { s with heap := h' }) :
    wpAny (model prog w) A (pyNext (.ref z)) Q E s := by
  have ty : s.TypeIs (.ref z) "zip" := ⟨_, hz, rfl⟩
  unfold pyNext
  refine wpAny_bind (wpAny_attempt (wpAny_callSpecial?_slot (name := Str.ofString "__next__") ty F.slot_zip_next (wpAny_call_entry F.slot_zip_next ty F.entry_zip_next ?_ (F.args_zip_next_1 _))))
  show wpAny _ _ (field (.ref z) 2 >>= _) _ _ _
  refine wpAny_bind (wpAny_field hz rfl (x := .bool false) rfl ?_)
  show wpAny _ _ (field (.ref z) 3 >>= _) _ _ _
  refine wpAny_bind (wpAny_field hz rfl (x := .ref TI) rfl (wpAny_bind (wpAny_seqItems hTI rfl ?_)) |> fun t => t)
  show wpAny _ _ (Builtin.SmallTypes.ownedTupleIsFree (.ref z) >>= _) _ _ _
  refine wpAny_bind (wpAny_tupleHeld_zip hz hT fun ha za sa => ?_)
  simp only [Bool.false_eq_true, if_false]
  refine wpAny_bind ?_
  rw [← Array.forIn_toList]
  simp only [List.forIn_cons, List.forIn_nil]
  refine wpAny_bind (wpAny_bind (wpAny_holding ?_))
  show wpAny _ _ (Builtin.SmallTypes.nextOf (.ref i1) >>= _) _ _ _
  refine wpAny_bind (wpAny_nextOf_tuple_item (s := { s with heap := ha }) (h1.extBut sa.extBut D.i1z) (hl1.extBut sa.extBut D.l1z) hx fun hb j1 sb => wpAny_pure (wpAny_pure ?_))
  refine wpAny_bind (wpAny_bind (wpAny_holding ?_))
  show wpAny _ _ (Builtin.SmallTypes.nextOf (.ref i2) >>= _) _ _ _
  refine wpAny_bind (wpAny_nextOf_tuple_item (s := { s with heap := hb }) ((h2.extBut sa.extBut D.i2z).extBut sb.extBut D.i12.symm) ((hl2.extBut sa.extBut D.l2z).extBut sb.extBut D.l2i1) hy fun hc j2 sc => wpAny_pure (wpAny_pure (wpAny_pure ?_)))
  show wpAny _ _ (newTuple [x, y] >>= _) _ _ _
  refine wpAny_bind (wpAny_newTuple (wpAny_pure ⟨_, rfl, wpAny_pure ?_⟩))
  have size : hc.objs.size = s.heap.objs.size := by rw [sc.1, sb.1, sa.1]
  have up : ∀ c o, c ≠ z → c ≠ i1 → c ≠ i2 → s.heap.get? c = some o → (hc.push { cls := .type "tuple", data := .seq #[x, y] }).get? c = some o := fun c o n0 n1 n2 e => Heap.get?_push_of_some _ (sc.extBut _ _ n2 (sb.extBut _ _ n1 (sa.extBut _ _ n0 e)))
  have zc : IsZipHeld (hc.push { cls := .type "tuple", data := .seq #[x, y] }) z TI TO T true := Heap.get?_push_of_some _ (sc.extBut _ _ D.i2z.symm (sb.extBut _ _ D.i1z.symm za))
  have pc : IsPair (hc.push { cls := .type "tuple", data := .seq #[x, y] }) hc.objs.size x y := Heap.get?_push_size _ rfl
  have nc : (hc.push { cls := .type "tuple", data := .seq #[x, y] }).objs.size = hc.objs.size + 1 := Heap.size_push ..
  have r := q (hc.push { cls := .type "tuple", data := .seq #[x, y] }) zc ((j1.extBut sc.extBut D.i12).at fun o e => Heap.get?_push_of_some _ e) (j2.at fun o e => Heap.get?_push_of_some _ e) (size ▸ pc) (by rw [nc, size]) up
  show Q (some (.ref hc.objs.size)) _
  rw [size]
  exact r
theorem zheld_end {z TI TO T i1 i2 l1 l2 : Addr} {f : Bool} {oT : Obj} {k : Nat} {xs ys : Array Value} {Q : Option Value → Shared → Prop} (hh : A.handled = none) (D : ZipApart z TI TO i1 i2 l1 l2) (hz : IsZipHeld s.heap z TI TO T f) (hT : s.heap.get? T = some oT) (hTI : IsPair s.heap TI (.ref i1) (.ref i2))
    (h1 : s.heap.IsTupleIter i1 l1 k) (hl1 : s.heap.IsTuple l1 xs) (hx : xs[k]? = none)
    (q : ∀ h', (∀ c o, c ≠ z → c ≠ i1 → c ≠ i2 → s.heap.get? c = some o → h'.get? c = some o) → Q none { s with heap := h' }) : wpAny (model prog w) A (pyNext (.ref z)) Q E s := by
  have ty : s.TypeIs (.ref z) "zip" := ⟨_, hz, rfl⟩
  unfold pyNext
  refine wpAny_bind (wpAny_attempt (wpAny_callSpecial?_slot (name := Str.ofString "__next__") ty F.slot_zip_next (wpAny_call_entry F.slot_zip_next ty F.entry_zip_next ?_ (F.args_zip_next_1 _))))
  show wpAny _ _ (field (.ref z) 2 >>= _) _ _ _
  refine wpAny_bind (wpAny_field hz rfl (x := .bool false) rfl ?_)
  show wpAny _ _ (field (.ref z) 3 >>= _) _ _ _
  refine wpAny_bind (wpAny_field hz rfl (x := .ref TI) rfl (wpAny_bind (wpAny_seqItems hTI rfl ?_)) |> fun t => t)
  show wpAny _ _ (Builtin.SmallTypes.ownedTupleIsFree (.ref z) >>= _) _ _ _
  refine wpAny_bind (wpAny_tupleHeld_zip hz hT fun ha za sa => ?_)
  simp only [Bool.false_eq_true, if_false]
  refine wpAny_bind ?_
  rw [← Array.forIn_toList]
  simp only [List.forIn_cons, List.forIn_nil]
  refine wpAny_bind (wpAny_bind (wpAny_holding ?_))
  show wpAny _ _ (Builtin.SmallTypes.nextOf (.ref i1) >>= _) _ _ _
  refine wpAny_bind (wpAny_nextOf_tuple_end (s := { s with heap := ha }) hh (h1.extBut sa.extBut D.i1z) (hl1.extBut sa.extBut D.l1z) hx fun hb e sb he => ?_)
  obtain ⟨o, ho, hc⟩ := he
  refine wpAny_bind (wpAny_isInstance (T := "StopIteration") (b := true) ⟨o, ho, hc⟩ isSubtype_stop ?_)
  exact wpAny_pure (q _ fun c o n0 n1 _ u => sb _ _ n1 (sa.extBut _ _ n0 u))
theorem znext {S z TI TO i1 i2 l1 l2 : Addr} {k : Nat} {xs ys : Array Value} {x y : Value} {Q : Option Value → Shared → Prop} (B : ZB S z TI TO i1 i2 l1 l2) (hS : S < s.heap.objs.size) (st : ZSt S s.heap z TI TO i1 i2 l1 l2 xs ys k) (hx : xs[k]? = some x) (hy : ys[k]? = some y)
    (q : ∀ h', ZSt S h' z TI TO i1 i2 l1 l2 xs ys (k + 1) → IsPair h' s.heap.objs.size x y → h'.objs.size = s.heap.objs.size + 1 → (∀ c o, c ≠ z → c ≠ TO → c ≠ i1 → c ≠ i2 → s.heap.get? c = some o → h'.get? c = some o) → Q (some (.ref s.heap.objs.size)) { s with heap := h' }) : wpAny (model prog w) A (pyNext (.ref z)) Q E s := by
  have D := B.D
  obtain ⟨hTI, h1, h2, hl1, hl2, hz⟩ := st
  rcases hz with ⟨hz, a, b, hTO⟩ | ⟨T, f, oT, hz, hT, r⟩
  · refine RZ.pyNext_zipT_item D hz hTI hTO h1 h2 hl1 hl2 hx hy fun h' a1 a2 a3 a4 a5 a6 hk => q h' ⟨hk _ _ D.TIz D.TITO D.TIi1 D.TIi2 hTI, a3, a4, hl1.at fun o e => hk _ o D.l1z D.l1TO D.l1i1 D.l1i2 e, hl2.at fun o e => hk _ o D.l2z D.l2TO D.l2i1 D.l2i2 e, ?_⟩ a5 a6 hk
    exact .inr ⟨s.heap.objs.size, false, _, a1, a5, hS⟩
  · have n : ∀ {b : Addr}, b < S → T ≠ b := fun h => Nat.ne_of_gt (Nat.lt_trans h r)
    refine zheld_item D hz hT hTI h1 h2 hl1 hl2 hx hy fun h' a1 a3 a4 a5 a6 hk => q h' ⟨hk _ _ D.TIz D.TIi1 D.TIi2 hTI, a3, a4, hl1.at fun o e => hk _ o D.l1z D.l1i1 D.l1i2 e, hl2.at fun o e => hk _ o D.l2z D.l2i1 D.l2i2 e, ?_⟩ a5 a6 fun c o n0 _ n1 n2 e => hk c o n0 n1 n2 e
    exact .inr ⟨T, true, oT, a1, hk _ _ (n B.z) (n B.i1) (n B.i2) hT, r⟩
theorem zdone {S z TI TO i1 i2 l1 l2 : Addr} {k : Nat} {xs ys : Array Value} {Q : Option Value → Shared → Prop} (hh : A.handled = none) (D : ZipApart z TI TO i1 i2 l1 l2) (st : ZSt S s.heap z TI TO i1 i2 l1 l2 xs ys k) (hx : xs[k]? = none)
    (q : ∀ h', (∀ c o, c ≠ z → c ≠ TO → c ≠ i1 → c ≠ i2 → s.heap.get? c = some o → h'.get? c = some o) → Q none { s with heap := h' }) : wpAny (model prog w) A (pyNext (.ref z)) Q E s := by
  obtain ⟨hTI, h1, h2, hl1, hl2, hz⟩ := st
  rcases hz with ⟨hz, a, b, hTO⟩ | ⟨T, f, oT, hz, hT, r⟩
  · exact RZ.pyNext_zipT_end hh D hz hTI hTO h1 h2 hl1 hl2 (.inl hx) fun h' hk => q h' hk
  · exact zheld_end (ys := ys) hh D hz hT hTI h1 hl1 hx fun h' hk => q h' fun c o n0 _ n1 n2 e => hk c o n0 n1 n2 e
theorem nltS (S i : Nat) : S < S + 1 + i := by omega
theorem nneS {S b : Nat} (j : Nat) (h : b < S) : S + 1 + j ≠ b := by omega
theorem nneSS (S j : Nat) : S + 1 + j ≠ S := by omega
/-- the new list and its pairs, k of them -/
structure ZF (h0 h : Heap) (S z TO i1 i2 : Addr) (xs ys : Array Value) (k : Nat) : Prop where
  lst : ∃ c, h.get? S = some { cls := .type "list", dict := none, data := .seq ((List.range k).map fun j => Value.ref (S + 1 + j)).toArray c, slots := #[] }
  prs : ∀ j, j < k → ∃ x y, xs[j]? = some x ∧ ys[j]? = some y ∧ IsPair h (S + 1 + j) x y
  keep : ∀ c o, c ≠ z → c ≠ TO → c ≠ i1 → c ≠ i2 → c ≠ S → h0.get? c = some o → h.get? c = some o
end
section
variable {prog : Program} {w : World} {A : Around} {R : Result → Shared → Prop}
theorem z_loop {S z TI TO i1 i2 l1 l2 : Addr} {xs ys : Array Value} {n : Nat} {h0 : Heap} {res : Value} (hh : A.handled = none) (B : ZB S z TI TO i1 i2 l1 l2) (hn : n ≤ sizeLine) (hx : xs.size = n) (hy : ys.size = n) :
    ∀ (k i : Nat) (s : Shared), n - i = k → i ≤ n → ZSt S s.heap z TI TO i1 i2 l1 l2 xs ys i → s.heap.objs.size = S + 1 + i → ZF h0 s.heap S z TO i1 i2 xs ys i →
      (∀ h' t', ZF h0 h' S z TO i1 i2 xs ys n → R (.ok (.ret res)) { s with heap := h', toks := t' }) →
      codeAny (model prog w) A (.builtin "list.extend.loop" ⟨[.ref S, .ref z, res], []⟩) R s := by
  have nS : ∀ {b : Addr}, b < S → S ≠ b := fun h => Nat.ne_of_gt h
  intro k
  induction k with
  | zero =>
    intro i s hk hi st sz zf hR
    have hin : i = n := by omega
    subst hin
    refine codeAny_builtin F.entry_extend_loop ?_
    rw [Around.under_plainId F.plain_extend_loop _]
    show wpAny _ A.in1 (pyNext (.ref z) >>= _) _ _ s
    refine wpAny_bind (zdone hh B.D st (Array.getElem?_eq_none (Nat.le_of_eq hx)) fun h' hk => ?_)
    refine wpAny_pure (hR h' s.toks ⟨?_, fun j hj => ?_, fun c o a b d e f u => hk c o a b d e (zf.keep c o a b d e f u)⟩)
    · obtain ⟨c, e⟩ := zf.lst
      exact ⟨c, hk _ _ (nS B.z) (nS B.TO) (nS B.i1) (nS B.i2) e⟩
    · obtain ⟨x, y, e1, e2, e3⟩ := zf.prs j hj
      have n : ∀ {b : Addr}, b < S → S + 1 + j ≠ b := fun h => nneS j h
      exact ⟨x, y, e1, e2, hk _ _ (n B.z) (n B.TO) (n B.i1) (n B.i2) e3⟩
  | succ k ih =>
    intro i s hk hi st sz zf hR
    have hlt : i < n := by omega
    refine codeAny_builtin F.entry_extend_loop ?_
    rw [Around.under_plainId F.plain_extend_loop _]
    show wpAny _ A.in1 (pyNext (.ref z) >>= _) _ _ s
    have lx : i < xs.size := by omega
    have ly : i < ys.size := by omega
    refine wpAny_bind (znext B (sz ▸ nltS S i) st (Array.getElem?_eq_getElem lx) (Array.getElem?_eq_getElem ly) fun h' st' hp hsz hk' => ?_)
    obtain ⟨c, eS⟩ := zf.lst
    have hS' := hk' _ _ (nS B.z) (nS B.TO) (nS B.i1) (nS B.i2) eS
    show wpAny _ A.in1 (updateSeq S (·.push (Value.ref s.heap.objs.size)) >>= _) _ _ _
    refine wpAny_bind ?_
    have oth : ∀ b o, b ≠ S → h'.get? b = some o → (h'.update S (Obj.mapSeq (·.push (Value.ref s.heap.objs.size)))).get? b = some o := fun b o hb e => (Heap.get?_update_other _ _ (Ne.symm hb)).trans e
    refine wpAny_updateSeq hS' rfl (wpAny_pure ⟨plainId_quiet F.plain_extend_loop _, ih (i + 1) _ (by omega) hlt (st'.keep B oth) ?_ ⟨?_, fun j hj => ?_, fun c o a b d e f u => oth _ _ f (hk' c o a b d e (zf.keep c o a b d e f u))⟩ fun h2 t2 z2 => hR h2 t2 z2⟩) (by simp; omega) (by simp; omega)
    · show (h'.update S _).objs.size = _
      rw [Heap.size_update, hsz, sz]
      rfl
    · obtain ⟨c', ec⟩ : ∃ c', (h'.update S (Obj.mapSeq (·.push (Value.ref s.heap.objs.size)))).get? S = some { cls := .type "list", dict := none, data := .seq (((List.range i).map fun j => Value.ref (S + 1 + j)).toArray.push (Value.ref s.heap.objs.size)) c', slots := #[] } := ⟨_, Heap.get?_update_self _ hS' rfl⟩
      have ea : ((List.range i).map fun j => Value.ref (S + 1 + j)).toArray.push (Value.ref s.heap.objs.size) = ((List.range (i + 1)).map fun j => Value.ref (S + 1 + j)).toArray := by
        rw [List.range_succ, List.map_append, sz]
        simp
      exact ⟨c', by rw [← ea]; exact ec⟩
    · by_cases hj' : j < i
      · obtain ⟨x, y, e1, e2, e3⟩ := zf.prs j hj'
        have n : ∀ {b : Addr}, b < S → S + 1 + j ≠ b := fun h => nneS j h
        exact ⟨x, y, e1, e2, oth _ _ (nneSS S j) (hk' _ _ (n B.z) (n B.TO) (n B.i1) (n B.i2) e3)⟩
      · have : j = i := by omega
        subst this
        refine ⟨_, _, Array.getElem?_eq_getElem lx, Array.getElem?_eq_getElem ly, oth _ _ (nneSS S j) ?_⟩
        rw [← sz]
        exact hp
theorem z_extend {S z TI TO i1 i2 l1 l2 : Addr} {xs ys : Array Value} {n c₀ : Nat} {h0 : Heap} {res : Value} {s : Shared} (hh : A.handled = none) (B : ZB S z TI TO i1 i2 l1 l2) (hn : n ≤ sizeLine) (hx : xs.size = n) (hy : ys.size = n)
    (hz : IsZip s.heap z TI TO .none) (st : ZSt S s.heap z TI TO i1 i2 l1 l2 xs ys 0) (sz : s.heap.objs.size = S + 1)
    (hS : s.heap.get? S = some { cls := .type "list", data := .seq #[] c₀ }) (keep : ∀ c o, c ≠ S → h0.get? c = some o → s.heap.get? c = some o)
    (hR : ∀ h' t', ZF h0 h' S z TO i1 i2 xs ys n → R (.ok (.ret res)) { s with heap := h', toks := t' }) :
    wpAny (model prog w) A.in1 (Builtin.List.listExtendWith (.ref S) (.ref z) res)
      (fun fin s' => match fin with | .done f => R (.ok f) s' | .again c' => c'.quiet = true ∧ codeAny (model prog w) A c' R s') (fun e s' => R (.error e) s') s := by
  have hSz : S ≠ z := Nat.ne_of_gt B.z
  have ty : s.TypeIs (.ref z) "zip" := ⟨_, hz, rfl⟩
  unfold Builtin.List.listExtendWith
  refine wpAny_bind (wpAny_typeOf ty ?_)
  have h1 : Builtin.List.listSameRef (.ref S) (.ref z) = false := by simp [Builtin.List.listSameRef, hSz]
  have h2 : (Value.type "zip" == Value.type "list") = false := by decide
  have h3 : (Value.type "zip" == Value.type "tuple") = false := by decide
  simp only [h1, h2, h3, Bool.or_false, Bool.false_eq_true, if_false]
  refine wpAny_bind (wpAny_pyIter_zip hz ?_)
  refine wpAny_bind (wpAny_holding ?_)
  unfold Builtin.List.listLengthHint
  refine wpAny_bind (wpAny_specialOf ty zT_no_len ?_)
  show wpAny _ A.in1 (specialOf (Value.ref z) (Str.ofString "__length_hint__") >>= _) _ _ _
  refine wpAny_bind (wpAny_specialOf ty zT_no_hint ?_)
  refine wpAny_pure ?_
  show wpAny _ A.in1 (rule "list.extend.makes-room" >>= fun _ => Builtin.List.listTouch (.ref S) >>= fun _ =>
    again (.builtin "list.extend.loop" ⟨[.ref S, .ref z, res], []⟩)) _ _ _
  refine wpAny_bind (wpAny_rule ?_)
  refine wpAny_bind ?_
  show wpAny _ A.in1 (updateSeq S (·.push .none) >>= fun _ => updateSeq S (·.pop)) _ _ _
  refine wpAny_bind (wpAny_updateSeq hS rfl ?_)
  have hS₂ := Heap.get?_update_self (Obj.mapSeq (·.push Value.none)) hS rfl
  refine wpAny_updateSeq (hz := by seq_fits) hS₂ rfl ?_
  have hS₃ := Heap.get?_update_self (Obj.mapSeq (·.pop)) hS₂ rfl
  have oth : ∀ b o, b ≠ S → s.heap.get? b = some o → ((s.heap.update S (Obj.mapSeq (·.push Value.none))).update S (Obj.mapSeq (·.pop))).get? b = some o :=
    fun b o hb e => (Heap.get?_update_other _ _ (Ne.symm hb)).trans ((Heap.get?_update_other _ _ (Ne.symm hb)).trans e)
  refine wpAny_pure ⟨plainId_quiet F.plain_extend_loop _, z_loop hh B hn hx hy n 0 _ rfl (Nat.zero_le _) (st.keep B oth) ?_ ⟨⟨_, hS₃⟩, fun j hj => absurd hj (Nat.not_lt_zero _), fun c o _ _ _ _ f u => oth _ _ f (keep c o f u)⟩ fun h' t' zf => hR h' t' zf⟩
  show ((s.heap.update S _).update S _).objs.size = _
  rw [Heap.size_update, Heap.size_update, sz]
end
section
variable {prog : Program} {w : World} {A : Around} {E : Value → Shared → Prop} {s : Shared}
theorem call_list_zip {z TI TO i1 i2 l1 l2 : Addr} {xs ys : Array Value} {n : Nat} {Q : Value → Shared → Prop} (hh : A.handled = none) (B : ZB s.heap.objs.size z TI TO i1 i2 l1 l2) (hn : n ≤ sizeLine) (hx : xs.size = n) (hy : ys.size = n)
    (hz : IsZip s.heap z TI TO .none) (st : ZSt s.heap.objs.size s.heap z TI TO i1 i2 l1 l2 xs ys 0)
    (hQ : ∀ h' t', ZF s.heap h' s.heap.objs.size z TO i1 i2 xs ys n → Q (.ref s.heap.objs.size) { s with heap := h', toks := t' }) :
    wpAny (model prog w) A (call (.type "list") [.ref z]) Q E s := by
  refine callType_codes (Q₁ := fun obj s₁ => obj = .ref s.heap.objs.size ∧ s₁ = { s with heap := s.heap.push { cls := .type "list", data := .seq #[] } }) F.called_list (F.typeCall_list_1 _) F.entry_list_init
    (code_list_new _ ⟨rfl, rfl⟩) fun obj s₁ h₁ => ?_
  obtain ⟨rfl, rfl⟩ := h₁
  have hS : (s.heap.push { cls := .type "list", data := .seq #[] }).get? s.heap.objs.size = some { cls := .type "list", data := .seq #[] } := Heap.get?_push_size _ rfl
  have up : ∀ b o, s.heap.get? b = some o → (s.heap.push { cls := .type "list", data := .seq #[] }).get? b = some o := fun b o e => Heap.get?_push_of_some _ e
  refine ⟨⟨_, hS, rfl⟩, F.args_list_init_2 _ _, ?_⟩
  show wpAny _ A.in1.in1 (do let old ← Builtin.List.listItems (.ref s.heap.objs.size); Builtin.List.listUpdate (.ref s.heap.objs.size) (fun _ => #[]); letGo old.toList.reverse; Builtin.List.listExtendWith (.ref s.heap.objs.size) (.ref z) .none) _ _ _
  refine wpAny_bind ?_
  unfold Builtin.List.listItems
  refine wpAny_bind (wpAny_seqItems hS rfl (wpAny_pure ?_))
  show wpAny _ A.in1.in1 (updateSeq s.heap.objs.size (fun _ => #[]) >>= fun _ => letGo (#[] : Array Value).toList.reverse >>= fun _ => Builtin.List.listExtendWith (.ref s.heap.objs.size) (.ref z) .none) _ _ _
  refine wpAny_bind (wpAny_updateSeq hS rfl ?_)
  have hS₂ := Heap.get?_update_self (Obj.mapSeq (fun _ => (#[] : Array Value))) hS rfl
  have oth : ∀ b o, b ≠ s.heap.objs.size → s.heap.get? b = some o → ((s.heap.push { cls := .type "list", data := .seq #[] }).update s.heap.objs.size (Obj.mapSeq (fun _ => (#[] : Array Value)))).get? b = some o :=
    fun b o hb e => (Heap.get?_update_other _ _ (Ne.symm hb)).trans (up b o e)
  refine wpAny_bind (wpAny_letGo ?_)
  refine z_extend (h0 := s.heap) (A := A.in1) hh B hn hx hy (oth _ _ (Nat.ne_of_lt B.z) hz) (st.keep B oth) ?_ hS₂ oth fun h' t' zf => ?_
  · show ((s.heap.push _).update _ _).objs.size = _
    rw [Heap.size_update, Heap.size_push]
  · exact ⟨rfl, hQ h' t' zf⟩
end
section
variable {X : Cx} {pins : List (Addr × Obj)} {σ : L2.St} {H H' : Hp} {s : Shared} {h' : Heap}
/-- several new objects laid and tracked at once -/
theorem inv_laidAll {t' : Nat} (I : Inv X pins σ H s) (k : ∀ b u, s.heap.get? b = some u → h'.get? b = some u) (same : ∀ b, b < s.heap.objs.size → H' b = H b)
    (new : ∀ b o, s.heap.objs.size ≤ b → H' b = some o → ObjOk X.prog X.w H' h' b o) : Inv X pins σ H' { s with heap := h', toks := t' } := by
  have sm : ∀ b o, H b = some o → H' b = some o := fun b o e => (same b (I.hok.lt e)).trans e
  refine I.un { keep := fun b o e _ _ _ => k b o e, slot := fun b o e _ _ _ => ⟨o.slots, k b o e⟩, free := fun b o e n _ => (same b (Heap.lt_size e)).trans n, there := fun b o e _ => ⟨o, k b o e⟩, tups := fun b xs e => sm b _ e, frzs := fun b o u e => sm b _ e, tbls := fun b ps e => ⟨#[], by rw [Array.append_empty]; exact sm b _ e⟩ } fun b o e => ?_
  by_cases hb : b < s.heap.objs.size
  · exact (I.hok b o ((same b hb).symm.trans e)).stay (fun c u _ q => k c u q) (fun c q => sm c _ q) fun c xs q => sm c _ q
  · exact new b o (Nat.le_of_not_lt hb) e
def tListZip (K : PySem.W.Frag) (ta : TA) : TE := fun σ H Q => ta σ H fun vs H1 => ∃ (a b : Addr) (xs ys : List V), vs = [.ref a, .ref b] ∧ SqT K H1 a xs ∧ SqT K H1 b ys ∧ xs.length = ys.length ∧
  ∀ (S : Addr) (Ts : List Addr) (H' : Hp), Same H1 H' → H1 S = none → H' S = some (.lst (Ts.map V.ref)) → Ts.length = xs.length →
    (∀ (j : Nat) (T : Addr), Ts[j]? = some T → H1 T = none ∧ ∃ x y, xs[j]? = some x ∧ ys[j]? = some y ∧ H' T = some (.tup [x, y])) → Q (.ref S) H'
theorem vals_refs : ∀ (l : List Addr), Vals (l.map V.ref) (l.map Value.ref)
  | [] => .nil
  | a :: l => .cons rfl (vals_refs l)
theorem pe_listZip {e e2 : Expr} {ta : TA} {p p2 q pos : Pos} (hg : Gl X "list") (hm : X.mg "list" = none) (hg2 : Gl X "zip") (hm2 : X.mg "zip" = none) (ha : PA X [e, e2] ta) (hc : X.calm = true := by rfl)
    (hs : starEach [e, e2] X.env = (false, eval e X.env) :: starEach [e2] X.env := by rfl) (hpl : (backTo q (starEach [e2] X.env)).any (·.1) = false := by rfl)
    (na : starEach [.Call (.Name "zip" p2) [e, e2] [] q] X.env = (false, eval (.Call (.Name "zip" p2) [e, e2] [] q) X.env) :: starEach [] X.env := by rfl) :
    PE X (.Call (.Name "list" p) [.Call (.Name "zip" p2) [e, e2] [] q] [] pos) (tListZip X.K ta) := by
  refine ⟨fun pins s σ H Q I h => ?_⟩
  refine Call_ (ld_blt I hg hm PyProof.Rows.boot_list ?_)
  refine PyProof.Rows.callWith_type1 (PyProof.Rows.args_cons ?_ na) na rfl
  refine Call_ (ld_blt I hg2 hm2 PyProof.Rows.boot_zip (PyProof.Rows.callWith_type1 (thn (ha.run q pins s σ H _ I h) fun us s1 ⟨vs, H1, I1, r1, q1⟩ => ?_) hs hpl))
  obtain ⟨a, b, xs, ys, ex, hqx, hqy, hl, q1⟩ := q1
  subst ex
  cases r1 with
  | cons r rr =>
    cases rr with
    | cons r' rr =>
      cases rr
      cases r
      cases r'
      obtain ⟨its, rv, p1, zx⟩ := I1.tuple hqx
      obtain ⟨its2, rv2, p2', zy⟩ := I1.tuple hqy
      obtain ⟨o1, ho1, _⟩ := id p1
      obtain ⟨o2, ho2, _⟩ := id p2'
      have l1 := rv.length
      have l2 := rv2.length
      refine RZ.call_zipT (show s1.heap.IsTuple a its.toArray from p1) (show s1.heap.IsTuple b its2.toArray from p2') fun h' hz hTI hTO h1 h2 hsz hk => PyProof.Rows.args_nil ?_
      have la : a < s1.heap.objs.size := Heap.lt_size ho1
      have lb : b < s1.heap.objs.size := Heap.lt_size ho2
      have I2 : Inv X pins σ H1 { s1 with heap := h' } := I1.kept (t' := s1.toks) hk
      have lt5 : ∀ j, j < 5 → s1.heap.objs.size + j < h'.objs.size := fun j hj => by rw [hsz]; exact Nat.add_lt_add_left hj _
      have B : ZB h'.objs.size (s1.heap.objs.size + 4) (s1.heap.objs.size + 2) (s1.heap.objs.size + 3) s1.heap.objs.size (s1.heap.objs.size + 1) a b :=
        ⟨PySem.W.ktu_apart s1.heap.objs.size a b la lb, lt5 4 (by decide), lt5 2 (by decide), lt5 3 (by decide), lt5 0 (by decide), lt5 1 (by decide), Nat.lt_trans la (lt5 0 (by decide)), Nat.lt_trans lb (lt5 0 (by decide))⟩
      have ht1 : h'.IsTuple a its.toArray := (show s1.heap.IsTuple a its.toArray from p1).at fun o q => hk _ o q
      have ht2 : h'.IsTuple b its2.toArray := (show s1.heap.IsTuple b its2.toArray from p2').at fun o q => hk _ o q
      refine call_list_zip (s := { s1 with heap := h' }) (n := xs.length) (I1.ok.hd hc) B zx (by simpa using l1.symm) (by simpa using (hl.trans l2).symm) hz ⟨hTI, h1, h2, ht1, ht2, .inl ⟨hz, _, _, hTO⟩⟩ fun hf t' zf => ?_
      obtain ⟨c, eS⟩ := zf.lst
      have kk : ∀ c o, s1.heap.get? c = some o → hf.get? c = some o := fun c o u => by
        have lc : c < s1.heap.objs.size := Heap.lt_size u
        have n : ∀ j, c ≠ s1.heap.objs.size + j := fun j => Nat.ne_of_lt (Nat.lt_of_lt_of_le lc (Nat.le_add_right _ _))
        exact zf.keep c o (n 4) (n 3) (n 0) (n 1) (Nat.ne_of_lt (Nat.lt_trans lc (lt5 0 (by decide)))) (hk c o u)
      let S := h'.objs.size
      have leS : s1.heap.objs.size ≤ S := Nat.le_of_lt (lt5 0 (by decide))
      let H' : Hp := fun b => if b < S then H1 b else if b = S then some (.lst (((List.range xs.length).map fun j => S + 1 + j).map V.ref)) else
        if b - S - 1 < xs.length then some (.tup [xs.getD (b - S - 1) .non, ys.getD (b - S - 1) .non]) else none
      have eqS : H' S = some (.lst (((List.range xs.length).map fun j => S + 1 + j).map V.ref)) := by
        show (if S < S then _ else _) = _
        rw [if_neg (Nat.lt_irrefl S), if_pos rfl]
      have eqT : ∀ j, j < xs.length → H' (S + 1 + j) = some (.tup [xs.getD j .non, ys.getD j .non]) := fun j hj => by
        show (if S + 1 + j < S then _ else _) = _
        rw [if_neg (Nat.not_lt_of_lt (nltS S j)), if_neg (nneSS S j)]
        have e : S + 1 + j - S - 1 = j := by omega
        rw [e, if_pos hj]
      have fr : ∀ b, S ≤ b → H1 b = none := fun b hb => I1.hok.fresh (Nat.le_trans leS hb)
      have sm : ∀ b, b < S → H' b = H1 b := fun b hb => if_pos hb
      have I3 : Inv X pins σ H' { s1 with heap := hf, toks := t' } := by
        refine inv_laidAll I1 kk (fun b hb => sm b (Nat.lt_of_lt_of_le hb leS)) fun b o hb e => ?_
        by_cases hS : b < S
        · rw [sm b hS, I1.hok.fresh hb] at e
          cases e
        · by_cases hS2 : b = S
          · subst hS2
            rw [eqS] at e
            cases e
            refine ⟨by simpa using zx, _, c, vals_refs _, ?_⟩
            rw [eS, List.map_map]
            rfl
          · have e2 : b = S + 1 + (b - S - 1) := by omega
            by_cases hj : b - S - 1 < xs.length
            · generalize b - S - 1 = j at e2 hj
              subst e2
              rw [eqT j hj] at e
              cases e
              obtain ⟨x, y, ex, ey, ep⟩ := zf.prs j hj
              refine ⟨by show 2 ≤ sizeLine; decide, [x, y], .cons ?_ (.cons ?_ .nil), ⟨_, ep, rfl, _, rfl⟩⟩
              · obtain ⟨u, hu, ru⟩ := rv.get (i := j) (List.getElem?_eq_getElem hj)
                have : u = x := Option.some.inj (hu.symm.trans (by simpa using ex))
                subst this
                rw [List.getD_eq_getElem?_getD, List.getElem?_eq_getElem hj]
                exact ru
              · have hj2 : j < ys.length := hl ▸ hj
                obtain ⟨u, hu, ru⟩ := rv2.get (i := j) (List.getElem?_eq_getElem hj2)
                have : u = y := Option.some.inj (hu.symm.trans (by simpa using ey))
                subst this
                rw [List.getD_eq_getElem?_getD, List.getElem?_eq_getElem hj2]
                exact ru
            · have : H' b = none := by
                show (if b < S then _ else _) = _
                rw [if_neg hS, if_neg hS2, if_neg hj]
              rw [this] at e
              cases e
      refine ⟨.ref S, H', I3, rfl, q1 S ((List.range xs.length).map fun j => S + 1 + j) H' (fun b o e => ?_) (fr S (Nat.le_refl _)) eqS (by simp) fun j T hT => ?_⟩
      · have : b < S := Nat.lt_of_lt_of_le (I1.hok.lt e) leS
        rw [sm b this]
        exact e
      · rw [List.getElem?_map] at hT
        obtain ⟨i, hi, rfl⟩ := Option.map_eq_some_iff.mp hT
        obtain ⟨hlt, hi2⟩ := List.getElem?_eq_some_iff.mp hi
        have hj : j < xs.length := by simpa using hlt
        have : i = j := by rw [← hi2]; exact List.getElem_range hlt
        subst this
        refine ⟨fr _ (Nat.le_of_lt (nltS S i)), xs.getD i .non, ys.getD i .non, ?_, ?_, eqT i hj⟩
        · rw [List.getD_eq_getElem?_getD, List.getElem?_eq_getElem hj]
          rfl
        · have hj2 : i < ys.length := hl ▸ hj
          rw [List.getD_eq_getElem?_getD, List.getElem?_eq_getElem hj2]
          rfl
end
end Sf

namespace Sf
open PySem PySem.Spec PyProof.Rows L2
section
variable {P : Program} {w : World} {K : PySem.W.Frag} {mg : Str → Option Value} {base : Heap} {f : Addr} {fd : FuncData}
structure PlusP (vs : List V) (H : Hp) (Q : VK) : Prop where
  ex : ∃ (v1 v2 : V) (p q : Q5) (m n : Nat), vs = [v1, v2] ∧ LF H v1 p ∧ LF H v2 q ∧ Bd m p ∧ Bd n q ∧ m + n ≤ 390 ∧ p.d ≠ 0 ∧ q.d ≠ 0 ∧
    ∀ (r : Q5) (v : V) (H' : Hp), Low5 (addQ 0 0 p q) r → Same H H' → LF H' v r → Q v H'
def spPlus : Sp := fun vs H Q _ => PlusP vs H Q
theorem ok_plus (F : FnD K "_law_plus" "_law_plus" s_L_plus f fd) (T : Glob mg) (C_L_lowest : Cal P w K mg base 2 "_law_lowest" ["_law_entries", "_law_bottom"] spLowest2) : FnOk P w K mg base CX0 3 f fd ["_law_one", "_law_other"] spPlus := by
  refine F.ok sc_L_plus (fun vs H Q E h => ?_) (fun cdv A outer s H vs Q E hr h => ?_)
  · obtain ⟨v1, v2, p, q, m, n, rfl, _⟩ := h.ex; rfl
  · obtain ⟨v1, v2, p, q5, m, n, rfl, ⟨t1, e1, rfl, h1, u1⟩, ⟨t2, e2, rfl, h2, u2⟩, b1, b2, mn, pd, qd, q⟩ := h.ex
    have hu := hu_of hr
    refine ⟨_, PSs.nox (pss_cons (ps_set (i := 2) sc_L_plus.nd rfl (Or.inl rfl) (pe_listZip (by rfl) T.m_list (by rfl) T.m_zip (pa_cons (pe_ix ix_tup (pv 0) pe_int (fun _ _ => rfl)) (pa_cons (pe_ix ix_tup (pv 1) pe_int (fun _ _ => rfl)) pa_nil))))
      (pss_one (ps_ret (pe_cal C_L_lowest (hr.mono (by decide)) (pa_cons (pe_lc rfl sc_L_plus.nd (own := [("_law_first", 3), ("_law_second", 4)]) (pi_list (pv 2)) (blkOk_by (N := ["_law_one", "_law_other", "_law_rows", "_law_first", "_law_second"]) (sc := defScope s_L_plus) (by decide +kernel)) (fun _ _ _ _ _ => pg_tupK (K := K) (n := 2) rfl (by rfl) (pgs_cons (pg_name (i := 3) sc_L_plus.nd rfl (Or.inl rfl)) (pgs_cons (pg_name (i := 4) sc_L_plus.nd rfl (Or.inl rfl)) pgs_nil))) (fun _ _ _ _ _ => pts_nil) (fun _ _ _ _ _ => (pe_op op_add (pe_op op_mulW (pv 3) (pe_ix (r := rIxT K) ix_tup (pv 1) pe_int (fun _ _ => rfl))) (pe_op op_mulW (pv 4) (pe_ix (r := rIxT K) ix_tup (pv 0) pe_int (fun _ _ => rfl)))))) (pa_cons (pe_op op_mulW (pe_ix ix_tup (pv 0) pe_int (fun _ _ => rfl)) (pe_ix ix_tup (pv 1) pe_int (fun _ _ => rfl))) pa_nil)))))), ?_⟩
    refine ⟨_, rfl, t1, _, 0, .ref e1, rfl, rfl, SqT.of h1, rfl, _, rfl, t2, _, 0, .ref e2, rfl, rfl, SqT.of h2, rfl, e1, e2, ents p, ents q5, rfl, SqT.of u1, SqT.of u2, rfl, fun S Ts H1 s1 hS0 hS hl hT => ?_⟩
    let z : Q5 := addQ 0 0 p q5
    refine ⟨_, rfl, S, rfl, ⟨_, SqL.of hS⟩, fun D hD => lc_list (K := K) (a := S) (xs := Ts.map V.ref) (fun i H' => Same H1 H' ∧ H' D = some (.lst (((entI z).take i).map V.int))) ⟨same_upd hD, upd_same⟩ (fun i H' _ hp => SqL.of (hp.1 _ _ hS)) (fun i v H' hv hp => ?_) (fun H' hp => ?_)⟩
    · obtain ⟨k1, hd⟩ := hp
      rw [List.getElem?_map] at hv
      obtain ⟨T0, hT0, rfl⟩ := Option.map_eq_some_iff.mp hv
      obtain ⟨_, x, y, hx, hy, ht⟩ := hT i T0 hT0
      obtain ⟨x, hx', rfl⟩ := int_of_map' (show ((entI p).map V.int)[i]? = some x from hx)
      obtain ⟨y, hy', rfl⟩ := int_of_map' (show ((entI q5).map V.int)[i]? = some y from hy)
      have hz : (entI z)[i]? = some (x * q5.d + y * p.d) ∧ x.natAbs < 2 ^ m ∧ y.natAbs < 2 ^ n := by
        have l4 : i < 4 := (List.getElem?_eq_some_iff.mp hx').1
        have ci : i = 0 ∨ i = 1 ∨ i = 2 ∨ i = 3 := by omega
        rcases ci with rfl | rfl | rfl | rfl <;> cases hx' <;> cases hy' <;> first | exact ⟨rfl, b1.1, b2.1⟩ | exact ⟨rfl, b1.2.1, b2.2.1⟩ | exact ⟨rfl, b1.2.2.1, b2.2.2.1⟩ | exact ⟨rfl, b1.2.2.2.1, b2.2.2.2.1⟩
      obtain ⟨hz, bx, by_⟩ := hz
      have L : ∀ {k : Nat} {i : Int}, k ≤ 390 → i.natAbs < 2 ^ k → i.natAbs < 2 ^ 3000 := fun h b => lt_mono b (by omega)
      have hl3 : Same H H' := s1.trans k1
      refine ⟨T0, _, rfl, SqT.of (k1 _ _ ht), rfl, _, _, rfl, _, _, rfl, rfl, ?_⟩
      refine ⟨rfl, _, rfl, _, rfl, t2, _, 1, _, rfl, rfl, SqT.of (hl3 _ _ h2), rfl, _, _, rfl, rfl, CMulW.of (L (by omega) bx) (L (by omega) b2.2.2.2.2), _, rfl, _, rfl, t1, _, 1, _, rfl, rfl, SqT.of (hl3 _ _ h1), rfl, _, _, rfl, rfl, CMulW.of (L (by omega) by_) (L (by omega) b1.2.2.2.2), _, _, rfl, rfl, _, hd, ?_, ?_, ?_⟩
      · rw [List.length_map]
        have := List.length_take_le' i (entI z)
        exact Nat.lt_of_le_of_lt this (by show 4 < sizeLine; decide)
      · intro b o eb
        rw [upd_ne (ne_of_none eb hD)]
        exact k1 _ _ eb
      · rw [upd_same, List.take_add_one, hz, List.map_append]; rfl
    · obtain ⟨k1, hd⟩ := hp
      have hl3 : Same H H' := s1.trans k1
      have L : ∀ {k : Nat} {i : Int}, k ≤ 390 → i.natAbs < 2 ^ k → i.natAbs < 2 ^ 3000 := fun h b => lt_mono b (by omega)
      have e4 : (Ts.map V.ref).length = 4 := by rw [List.length_map, hl]; rfl
      rw [e4] at hd
      have W : ∀ {u v : Int}, u.natAbs < 2 ^ m → v.natAbs < 2 ^ n → (u * q5.d + v * p.d).natAbs < 2 ^ 400 := fun {u v} hu hv => by
        have h1 : (u * q5.d).natAbs < 2 ^ (m + n) := wide_lt hu b2.2.2.2.2
        have h2 : (v * p.d).natAbs < 2 ^ (n + m) := wide_lt hv b1.2.2.2.2
        rw [Nat.add_comm] at h2
        exact lt_mono (add_lt2 h1 h2) (by omega)
      have bd : z.d.natAbs < 2 ^ 2900 := lt_mono (wide_lt b1.2.2.2.2 b2.2.2.2.2) (by omega)
      refine ⟨_, rfl, t1, _, 1, _, rfl, rfl, SqT.of (hl3 _ _ h1), rfl, _, rfl, t2, _, 1, _, rfl, rfl, SqT.of (hl3 _ _ h2), rfl, _, _, rfl, rfl, CMulW.of (L (by omega) b1.2.2.2.2) (L (by omega) b2.2.2.2.2), ⟨D, z, rfl, hd, Int.mul_ne_zero pd qd, W b1.1 b2.1, W b1.2.1 b2.2.1, W b1.2.2.1 b2.2.2.1, W b1.2.2.2.1 b2.2.2.2.1, bd, fun r v H2 hlow s2 hf => q r v H2 hlow (hl3.trans s2) hf⟩⟩
end
end Sf

namespace Sf
open PySem PySem.Spec PyProof.Rows L2
section
variable {P : Program} {w : World} {K : PySem.W.Frag} {mg : Str → Option Value} {base : Heap} {f : Addr} {fd : FuncData}
structure LScaledP (vs : List V) (H : Hp) (Q : VK) : Prop where
  ex : ∃ (v1 : V) (t b : Int) (p : Q5) (m n : Nat), vs = [v1, .int t, .int b] ∧ LF H v1 p ∧ Bd m p ∧ t.natAbs < 2 ^ n ∧ b.natAbs < 2 ^ 500 ∧ m + n ≤ 390 ∧ p.d ≠ 0 ∧ b ≠ 0 ∧
    ∀ (r : Q5) (v : V) (H' : Hp), Low5 (sclQ t b p) r → Same H H' → LF H' v r → Q v H'
def spLScaled : Sp := fun vs H Q _ => LScaledP vs H Q
theorem ok_l_scaled (F : FnD K "_law_scaled" "_law_scaled" s_L_scaled f fd) (T : Glob mg) (C_L_lowest : Cal P w K mg base 2 "_law_lowest" ["_law_entries", "_law_bottom"] spLowest2) : FnOk P w K mg base CX0 3 f fd ["_law_one", "_law_top", "_law_bottom"] spLScaled := by
  refine F.ok sc_L_scaled (fun vs H Q E h => ?_) (fun cdv A outer s H vs Q E hr h => ?_)
  · obtain ⟨v1, t, b, p, m, n, rfl, _⟩ := h.ex; rfl
  · obtain ⟨v1, t, b, p, m, n, rfl, ⟨t1, e1, rfl, h1, u1⟩, b1, bt, bb, mn, pd, b0, q⟩ := h.ex
    have hu := hu_of hr
    refine ⟨_, PSs.nox (pss_one (ps_ret (pe_cal C_L_lowest (hr.mono (by decide)) (pa_cons (pe_lc rfl sc_L_scaled.nd (own := [("_law_entry", 3)]) (pi_tup (pe_ix ix_tup (pv 0) pe_int (fun _ _ => rfl))) (blkOk_by (N := ["_law_one", "_law_top", "_law_bottom", "_law_entry"]) (sc := defScope s_L_scaled) (by decide +kernel)) (fun _ _ _ _ _ => pg_name (i := 3) sc_L_scaled.nd rfl (Or.inl rfl)) (fun _ _ _ _ _ => pts_nil) (fun _ _ _ _ _ => (pe_op op_mulW (pv 1) (pv 3)))) (pa_cons (pe_op op_mulW (pv 2) (pe_ix ix_tup (pv 0) pe_int (fun _ _ => rfl))) pa_nil))))), ?_⟩
    let z : Q5 := sclQ t b p
    have L : ∀ {k : Nat} {i : Int}, k ≤ 390 → i.natAbs < 2 ^ k → i.natAbs < 2 ^ 3000 := fun h b => lt_mono b (by omega)
    refine ⟨_, rfl, t1, _, 0, .ref e1, rfl, rfl, SqT.of h1, rfl, e1, rfl, ⟨_, SqT.of u1⟩, fun D hD => lc_tup (K := K) (a := e1) (xs := (entI p).map V.int) (fun i H' => Same H H' ∧ H' D = some (.lst (((entI z).take i).map V.int))) ⟨same_upd hD, upd_same⟩ (fun i H' _ hp => SqT.of (hp.1 _ _ u1)) (fun i v H' hv hp => ?_) (fun H' hp => ?_)⟩
    · obtain ⟨k1, hd⟩ := hp
      obtain ⟨x, hx', rfl⟩ := int_of_map' hv
      have hz : (entI z)[i]? = some (t * x) ∧ x.natAbs < 2 ^ m := by
        have l4 : i < 4 := (List.getElem?_eq_some_iff.mp hx').1
        have ci : i = 0 ∨ i = 1 ∨ i = 2 ∨ i = 3 := by omega
        rw [Int.mul_comm]
        rcases ci with rfl | rfl | rfl | rfl <;> cases hx' <;> first | exact ⟨rfl, b1.1⟩ | exact ⟨rfl, b1.2.1⟩ | exact ⟨rfl, b1.2.2.1⟩ | exact ⟨rfl, b1.2.2.2.1⟩
      obtain ⟨hz, bx⟩ := hz
      refine ⟨rfl, _, rfl, _, rfl, _, _, rfl, rfl, CMulW.of (L (by omega) bt) (L (by omega) bx), _, hd, ?_, ?_, ?_⟩
      · rw [List.length_map]
        have := List.length_take_le' i (entI z)
        exact Nat.lt_of_le_of_lt this (by show 4 < sizeLine; decide)
      · intro b o eb
        rw [upd_ne (ne_of_none eb hD)]
        exact k1 _ _ eb
      · rw [upd_same, List.take_add_one, hz, List.map_append]; rfl
    · obtain ⟨k1, hd⟩ := hp
      have W : ∀ {u : Int}, u.natAbs < 2 ^ m → (u * t).natAbs < 2 ^ 400 := fun {u} hu => lt_mono (wide_lt hu bt) (by omega)
      have bd : (b * p.d).natAbs < 2 ^ 2900 := lt_mono (wide_lt bb b1.2.2.2.2) (by omega)
      have zd : z.d = b * p.d := Int.mul_comm ..
      refine ⟨_, rfl, _, rfl, t1, _, 1, _, rfl, rfl, SqT.of (k1 _ _ h1), rfl, _, _, rfl, rfl, CMulW.of (lt_mono bb (by decide)) (L (by omega) b1.2.2.2.2), ⟨D, z, by rw [zd]; rfl, hd, Int.mul_ne_zero pd b0, W b1.1, W b1.2.1, W b1.2.2.1, W b1.2.2.2.1, by rw [zd]; exact bd, fun r v H2 hlow s2 hf => q r v H2 hlow (k1.trans s2) hf⟩⟩
def spLMate : Sp := fun vs H Q _ => ∃ (v1 : V) (p : Q5), vs = [v1] ∧ LF H v1 p ∧ ∀ (v : V) (H' : Hp), Same H H' → LF H' v (mateQ p) → Q v H'
theorem ok_l_mate (F : FnD K "_law_mate" "_law_mate" s_L_mate f fd) (T : Glob mg) : FnOk P w K mg base CX0 1 f fd ["_law_one"] spLMate := by
  refine F.ok sc_L_mate (fun vs H Q E h => ?_) (fun cdv A outer s H vs Q E hr h => ?_)
  · obtain ⟨v1, p, rfl, _⟩ := h; rfl
  · obtain ⟨v1, p, rfl, ⟨t1, e1, rfl, h1, u1⟩, q⟩ := h
    have hu := hu_of hr
    refine ⟨_, PSs.nox (pss_one (ps_ret (pe_tup (pa_cons (pe_op op_catT (pe_tup (pa_cons (pe_ix ix_tup (pe_ix ix_tup (pv 0) pe_int (fun _ _ => rfl)) pe_int (fun _ _ => rfl)) pa_nil)) (pe_callTy call_tuple_of (by rfl) T.m_tuple (by decide +kernel) (pa_cons (pe_lc rfl sc_L_mate.nd (own := [("_law_entry", 1)]) (pi_tup (pe_slice sl_tup (pe_ix ix_tup (pv 0) pe_int (fun _ _ => rfl)) (po_some pe_int) po_none)) (blkOk_by (N := ["_law_one", "_law_entry"]) (sc := defScope s_L_mate) (by decide +kernel)) (fun _ _ _ _ _ => pg_name (i := 1) sc_L_mate.nd rfl (Or.inl rfl)) (fun _ _ _ _ _ => pts_nil) (fun _ _ _ _ _ => (pe_op op_sub pe_int (pv 1)))) pa_nil))) (pa_cons (pe_ix ix_tup (pv 0) pe_int (fun _ _ => rfl)) pa_nil))))), ?_⟩
    refine ⟨_, rfl, t1, _, 0, .ref e1, rfl, rfl, SqT.of h1, rfl, e1, _, 0, .int p.w, rfl, rfl, SqT.of u1, rfl, (by show 1 ≤ sizeLine; decide), fun c hc => ?_⟩
    have k0 := same_upd (o := .tup [.int p.w]) hc
    have hc1 := upd_same (H := H) (a := c) (o := .tup [.int p.w])
    generalize (upd H c (.tup [.int p.w])) = H1 at *
    refine ⟨_, rfl, t1, _, 0, .ref e1, rfl, rfl, SqT.of (k0 _ _ h1), rfl, 1, rfl, e1, ents p, rfl, SqT.of (k0 _ _ u1), (by show ¬ ((1 : Nat) = 0 ∧ _); omega), fun sl hsl => ?_⟩
    have k1 := same_upd (o := .tup (([p.x, p.y, p.z] : List Int).map V.int)) hsl
    have hs1 := upd_same (H := H1) (a := sl) (o := .tup (([p.x, p.y, p.z] : List Int).map V.int))
    have ec : cutV (ents p) (some 1) none = ([p.x, p.y, p.z] : List Int).map V.int := rfl
    rw [ec]
    generalize (upd H1 sl (.tup (([p.x, p.y, p.z] : List Int).map V.int))) = H2 at *
    refine ⟨sl, rfl, ⟨_, SqT.of hs1⟩, fun D hD => lc_tup (K := K) (a := sl) (xs := ([p.x, p.y, p.z] : List Int).map V.int) (fun i H' => Same H2 H' ∧ H' D = some (.lst ((([p.x, p.y, p.z] : List Int).take i).map fun n => V.int (0 - n)))) ⟨same_upd hD, upd_same⟩ (fun i H' _ hp => SqT.of (hp.1 _ _ hs1)) (fun i v H' hv hp => ?_) (fun H' hp => ?_)⟩
    · obtain ⟨k2, hd⟩ := hp
      obtain ⟨x, hx', rfl⟩ := int_of_map' hv
      refine ⟨rfl, _, rfl, _, _, rfl, rfl, _, hd, ?_, ?_, ?_⟩
      · rw [List.length_map]
        have := List.length_take_le' i ([p.x, p.y, p.z] : List Int)
        exact Nat.lt_of_le_of_lt this (by show 3 < sizeLine; decide)
      · intro b o eb
        rw [upd_ne (ne_of_none eb hD)]
        exact k2 _ _ eb
      · rw [upd_same, List.take_add_one, hx', List.map_append]; rfl
    · obtain ⟨k2, hd⟩ := hp
      refine ⟨D, _, rfl, .inl ⟨SqL.of hd, fun tt htt => ?_⟩⟩
      have e3 : ((([p.x, p.y, p.z] : List Int).take (([p.x, p.y, p.z] : List Int).map V.int).length).map fun n => V.int (0 - n)) = [.int (0 - p.x), .int (0 - p.y), .int (0 - p.z)] := rfl
      rw [e3]
      have k3 := same_upd (o := .tup [.int (0 - p.x), .int (0 - p.y), .int (0 - p.z)]) htt
      have ht1 := upd_same (H := H') (a := tt) (o := .tup [.int (0 - p.x), .int (0 - p.y), .int (0 - p.z)])
      generalize (upd H' tt (.tup [.int (0 - p.x), .int (0 - p.y), .int (0 - p.z)])) = H3 at *
      have kk := (k1.trans k2).trans k3
      refine ⟨c, tt, _, _, rfl, rfl, SqT.of (kk _ _ hc1), SqT.of ht1, by simp, (by show 4 ≤ sizeLine; decide), by nofun, fun _ e he => ?_⟩
      have k4 := same_upd (o := .tup ([.int p.w] ++ [.int (0 - p.x), .int (0 - p.y), .int (0 - p.z)])) he
      have ho := (k0.trans kk).trans k4
      refine ⟨_, rfl, t1, _, 1, _, rfl, rfl, SqT.of (ho _ _ h1), rfl, (by show 2 ≤ sizeLine; decide), fun tq htq => q _ _ (ho.trans (same_upd htq)) ⟨tq, e, rfl, upd_same, ?_⟩⟩
      rw [upd_ne (ne_of_none upd_same htq), upd_same]
      show some (HO.tup [.int p.w, .int (0 - p.x), .int (0 - p.y), .int (0 - p.z)]) = some (HO.tup [.int p.w, .int (-p.x), .int (-p.y), .int (-p.z)])
      rw [Int.zero_sub, Int.zero_sub, Int.zero_sub]
end
end Sf

namespace Sf
open PySem PySem.Spec PyProof.Rows L2
/-- bounds of a four: its integers, its bottom -/
def EB (m e : Nat) (q : Q5) : Prop := q.w.natAbs < 2 ^ m ∧ q.x.natAbs < 2 ^ m ∧ q.y.natAbs < 2 ^ m ∧ q.z.natAbs < 2 ^ m ∧ q.d.natAbs < 2 ^ e
theorem EB.bd {m e k : Nat} {q : Q5} (h : EB m e q) (h1 : m ≤ k) (h2 : e ≤ k) : Bd k q := ⟨lt_mono h.1 h1, lt_mono h.2.1 h1, lt_mono h.2.2.1 h1, lt_mono h.2.2.2.1 h1, lt_mono h.2.2.2.2 h2⟩
theorem EB.mono {m e m' e' : Nat} {q : Q5} (h : EB m e q) (h1 : m ≤ m') (h2 : e ≤ e') : EB m' e' q := ⟨lt_mono h.1 h1, lt_mono h.2.1 h1, lt_mono h.2.2.1 h1, lt_mono h.2.2.2.1 h1, lt_mono h.2.2.2.2 h2⟩
theorem low5_le {p r : Q5} (hp : p.d ≠ 0) (h : Low5 p r) : r.w.natAbs ≤ p.w.natAbs ∧ r.x.natAbs ≤ p.x.natAbs ∧ r.y.natAbs ≤ p.y.natAbs ∧ r.z.natAbs ≤ p.z.natAbs ∧ r.d.natAbs ≤ p.d.natAbs := by
  obtain ⟨h0, h1, h2, h3, h4, h5⟩ := h
  have dv : r.d.natAbs ∣ p.d.natAbs := by
    have e : ∀ {s t : Int}, s * r.d = t * p.d → r.d.natAbs ∣ t.natAbs * p.d.natAbs := fun {s t} e => by
      rw [← Int.natAbs_mul, ← e, Int.natAbs_mul]
      exact Nat.dvd_mul_left _ _
    have g : r.d.natAbs ∣ (gcd5 r.w r.x r.y r.z r.d) * p.d.natAbs := by
      unfold gcd5
      rw [← Nat.gcd_mul_right, ← Nat.gcd_mul_right, ← Nat.gcd_mul_right, ← Nat.gcd_mul_right]
      exact Nat.dvd_gcd (Nat.dvd_gcd (Nat.dvd_gcd (Nat.dvd_gcd (e h1) (e h2)) (e h3)) (e h4)) (Nat.dvd_mul_right _ _)
    rw [h5, Nat.one_mul] at g
    exact g
  have le : r.d.natAbs ≤ p.d.natAbs := Nat.le_of_dvd (by omega) dv
  have small : ∀ {s t : Int}, s * r.d = t * p.d → t.natAbs ≤ s.natAbs := fun {s t} e => by
    have e2 : s.natAbs * r.d.natAbs = t.natAbs * p.d.natAbs := by rw [← Int.natAbs_mul, ← Int.natAbs_mul, e]
    have h6 : t.natAbs * r.d.natAbs ≤ s.natAbs * r.d.natAbs := by
      rw [e2]
      exact Nat.mul_le_mul_left _ le
    exact Nat.le_of_mul_le_mul_right h6 (by omega)
  exact ⟨small h1, small h2, small h3, small h4, le⟩
theorem low5_eb {m e : Nat} {p r : Q5} (hp : p.d ≠ 0) (h : Low5 p r) (b : EB m e p) : EB m e r := by
  obtain ⟨h1, h2, h3, h4, h5⟩ := low5_le hp h
  exact ⟨Nat.lt_of_le_of_lt h1 b.1, Nat.lt_of_le_of_lt h2 b.2.1, Nat.lt_of_le_of_lt h3 b.2.2.1, Nat.lt_of_le_of_lt h4 b.2.2.2.1, Nat.lt_of_le_of_lt h5 b.2.2.2.2⟩
theorem prodQ_eb {a b : Int} {p q : Q5} {m n k e g : Nat} (ha : a.natAbs < 2 ^ k) (hb : b.natAbs < 2 ^ k) (hp : EB m e p) (hq : EB n g q) : EB (m + n + 2 * k + 2) (e + g) (prodQ a b p q) := by
  have h := prodQ_bd (m := m) (n := n) ha hb (p := { p with d := 0 }) (q := { q with d := 0 }) ⟨hp.1, hp.2.1, hp.2.2.1, hp.2.2.2.1, Nat.two_pow_pos _⟩ ⟨hq.1, hq.2.1, hq.2.2.1, hq.2.2.2.1, Nat.two_pow_pos _⟩
  exact ⟨h.1, h.2.1, h.2.2.1, h.2.2.2.1, wide_lt hp.2.2.2.2 hq.2.2.2.2⟩
section
variable {P : Program} {w : World} {K : PySem.W.Frag} {mg : Str → Option Value} {base : Heap} {f : Addr} {fd : FuncData}
structure NumberP (vs : List V) (H : Hp) (Q : VK) : Prop where
  ex : ∃ (p : Addr) (n : Nat), vs = [.ref p] ∧ Sk p n H ∧ n ≤ 900000 ∧ ∀ (z : Int) (H' : Hp), z ≠ 0 → z.natAbs ≤ 1000 → Keep p H H' → Sk p (n + 3) H' → Q (.int z) H'
def spNumber : Sp := fun vs H Q _ => NumberP vs H Q
theorem ok_number (F : FnD K "_law_number" "_law_number" s_L_number f fd) (T : Glob mg) (C_L_one_of : Cal P w K mg base 2 "_law_one_of" ["_law_bowl_here", "_law_items"] (spOneOf K)) (C_L_scoop : Cal P w K mg base 1 "_law_scoop" ["_law_bowl_here", "_law_total"] spTake) : FnOk P w K mg base CX0 3 f fd ["_law_bowl_here"] spNumber := by
  refine F.ok sc_L_number (fun vs H Q E h => ?_) (fun cdv A outer s H vs Q E hr h => ?_)
  · obtain ⟨p, n, rfl, _⟩ := h.ex; rfl
  · obtain ⟨p, n, rfl, hs, hn, q⟩ := h.ex
    refine ⟨_, PSs.nox (pss_cons (ps_set (i := 1) sc_L_number.nd rfl (Or.inl rfl) (pe_cal C_L_one_of (hr.mono (by decide)) (pa_cons (pv 0) (pa_cons (pe_lst (pa_cons pe_int (pa_cons pe_int (pa_cons pe_int (pa_cons pe_int (pa_cons pe_int (pa_cons pe_int pa_nil))))))) pa_nil))))
      (pss_cons (ps_set (i := 2) sc_L_number.nd rfl (Or.inl rfl) (pe_op op_add pe_int (pe_cal C_L_scoop (hr.mono (by decide)) (pa_cons (pv 0) (pa_cons (pv 1) pa_nil)))))
      (pss_one (ps_ret (pe_ifExp (pt_cmp (pc_eqI (pe_cal C_L_scoop (hr.mono (by decide)) (pa_cons (pv 0) (pa_cons pe_int pa_nil))) pe_int)) (pv 2) (pe_op op_sub pe_int (pv 2))))))), ?_⟩
    refine ⟨_, rfl, (by show 6 ≤ sizeLine; decide), fun b hb => one_of_new hs (by omega) hb (by show 1 ≤ 6; decide) (by show 6 ≤ 1000000; decide) fun x H1 hv k1 s1 => ?_⟩
    obtain ⟨u, rfl, u0, u1⟩ : ∃ u : Int, x = .int u ∧ 1 ≤ u ∧ u ≤ 1000 := by
      have c : x = .int 3 ∨ x = .int 12 ∨ x = .int 60 ∨ x = .int 1000 := by simpa using hv
      rcases c with e | e | e | e <;> exact ⟨_, e, by omega, by omega⟩
    have k1 : Keep p H H1 := k1
    refine ⟨_, rfl, _, rfl, take_of s1 (by omega) u0 (Int.lt_trans (by omega : u < 1000001) (by decide +kernel)) fun t H2 t0 t1 k2 s2 _ => ?_⟩
    refine ⟨_, _, rfl, rfl, ?_⟩
    refine ⟨_, rfl, take_of s2 (by omega) (by decide) (by decide +kernel) fun r H3 r0 r1 k3 s3 _ => ?_⟩
    refine ⟨_, _, rfl, rfl, _, rfl, ifd (fun h => ?_) (fun h => ?_)⟩
    · exact ⟨_, rfl, q _ _ (by omega) (by omega) ((k1.trans k2).trans k3) s3⟩
    · exact ⟨_, rfl, _, _, rfl, rfl, q _ _ (by omega) (by omega) ((k1.trans k2).trans k3) s3⟩
structure DrawnP (vs : List V) (H : Hp) (Q : VK) : Prop where
  ex : ∃ (p : Addr) (n : Nat), vs = [.ref p] ∧ Sk p n H ∧ n ≤ 900000 ∧ ∀ (r : Q5) (v : V) (H' : Hp), Nrm r → EB 41 3 r → Keep p H H' → Sk p (n + 7) H' → LF H' v r → Q v H'
def spDrawn : Sp := fun vs H Q _ => DrawnP vs H Q
theorem ok_drawn (F : FnD K "_law_drawn" "_law_drawn" s_L_drawn f fd) (T : Glob mg) (C_L_one_of : Cal P w K mg base 2 "_law_one_of" ["_law_bowl_here", "_law_items"] (spOneOf K)) (C_L_scoop : Cal P w K mg base 1 "_law_scoop" ["_law_bowl_here", "_law_total"] spTake)
    (C_L_lowest : Cal P w K mg base 2 "_law_lowest" ["_law_entries", "_law_bottom"] spLowest2) : FnOk P w K mg base CX0 3 f fd ["_law_bowl_here"] spDrawn := by
  refine F.ok sc_L_drawn (fun vs H Q E h => ?_) (fun cdv A outer s H vs Q E hr h => ?_)
  · obtain ⟨p, n, rfl, _⟩ := h.ex; rfl
  · obtain ⟨p, n, rfl, hs, hn, q⟩ := h.ex
    refine ⟨_, PSs.nox (pss_cons (ps_set (i := 1) sc_L_drawn.nd rfl (Or.inr rfl) (pe_cal C_L_one_of (hr.mono (by decide)) (pa_cons (pv 0) (pa_cons (pe_lst (pa_cons pe_int (pa_cons pe_int (pa_cons pe_int (pa_cons pe_int (pa_cons (pe_op op_powW pe_int pe_int) pa_nil)))))) pa_nil))))
      (pss_cons (ps_setLc (i := 2) rfl sc_L_drawn.nd rfl rfl (sw_true rfl rfl rfl (by decide +kernel)) (own := [("_law_turn", 3)]) (pi_range1 (by rfl) T.m_range (pa_cons pe_int pa_nil)) (blkOk_by (N := ["_law_bowl_here", "_law_size", "_law_entries", "_law_turn"]) (sc := defScope s_L_drawn) (by decide +kernel)) (fun _ _ _ _ _ => pg_name (i := 3) sc_L_drawn.nd rfl (Or.inl rfl)) (fun _ _ _ _ _ => pts_nil) (fun _ _ _ _ _ => (pe_op op_sub (pe_cal C_L_scoop (hr.mono (by decide)) (pa_cons (pv 0) (pa_cons (pe_op op_add (pe_op op_mulW pe_int (pv 1)) pe_int) pa_nil))) (pv 1))))
      (pss_one (ps_ret (pe_cal C_L_lowest (hr.mono (by decide)) (pa_cons (pv 2) (pa_cons (pe_op op_add pe_int (pe_cal C_L_scoop (hr.mono (by decide)) (pa_cons (pv 0) (pa_cons (pe_cal C_L_one_of (hr.mono (by decide)) (pa_cons (pv 0) (pa_cons (pe_lst (pa_cons pe_int (pa_cons pe_int (pa_cons pe_int (pa_cons pe_int pa_nil))))) pa_nil))) pa_nil)))) pa_nil))))))), ?_⟩
    refine ⟨_, rfl, 10, 12, rfl, rfl, ⟨by decide, by decide +kernel⟩, (by show 5 ≤ sizeLine; decide), fun b hb => one_of_new hs (by omega) hb (by show 1 ≤ 5; decide) (by show 5 ≤ 1000000; decide) fun x H1 hv k1 s1 => ?_⟩
    obtain ⟨u, rfl, u0, u1⟩ : ∃ u : Int, x = .int u ∧ 1 ≤ u ∧ u ≤ 1000000000000 := by
      have c : x = .int 2 ∨ x = .int 4 ∨ x = .int 20 ∨ x = .int (10 ^ (12 : Int).toNat) := by simpa using hv
      rcases c with e | e | e | e
      · exact ⟨_, e, by omega, by omega⟩
      · exact ⟨_, e, by omega, by omega⟩
      · exact ⟨_, e, by omega, by omega⟩
      · exact ⟨_, e, by decide +kernel, by decide +kernel⟩
    refine ⟨4, rfl, by decide, by decide, fun D hD => lc_range (lo := 0) (n := 4) (fun i H' => ∃ l : List Int, l.length = i ∧ (∀ z ∈ l, z.natAbs < 2 ^ 41) ∧ Keep p H1 H' ∧ Sk p (n + 1 + i) H' ∧ D ≠ p ∧ H' D = some (.lst (l.map V.int))) ⟨[], rfl, by simp, Keep.new hD, s1.same (same_upd hD), (s1.ne hD).symm, upd_same⟩ (fun i H' hi hP => ?_) (fun H' hP => ?_)⟩
    · obtain ⟨l, hl, hb, k2, s2, nD, hd⟩ := hP
      refine ⟨rfl, _, rfl, _, rfl, _, _, rfl, rfl, CMulW.of (lt3000s (by decide) (by decide)) (lt3000s (by omega) (by omega)), _, _, rfl, rfl, take_of s2 (by omega) (by omega) (Int.lt_trans (by omega : 2 * u + 1 < 10000000000000) (by decide +kernel)) fun t H3 t0 t1 k3 s3 _ => ?_⟩
      refine ⟨_, rfl, _, _, rfl, rfl, _, k3 _ _ hd nD, ?_, l ++ [t - u], ?_, ?_, ?_, ?_, nD, ?_⟩
      · rw [List.length_map, hl]
        exact Nat.lt_of_lt_of_le (by omega : i < 1000000) (by decide)
      · rw [List.length_append, hl]; rfl
      · intro z hz
        rcases List.mem_append.mp hz with h | h
        · exact hb z h
        · have e : z = t - u := by simpa using h
          subst e
          exact Nat.lt_of_le_of_lt (by omega : (t - u).natAbs ≤ 1000000000000) (by decide +kernel)
      · intro c o e nc
        have e3 := k3 _ _ (k2 _ _ e nc) nc
        by_cases hc : c = D
        · subst hc
          rw [hD] at e
          cases e
        · rw [upd_ne hc]; exact e3
      · obtain ⟨xs, a, o⟩ := s3
        exact ⟨xs, by rw [upd_ne nD.symm]; exact a, o⟩
      · rw [upd_same, List.map_append]; rfl
    · obtain ⟨l, hl, hb, k2, s2, nD, hd⟩ := hP
      obtain ⟨w0, x0, y0, z0, rfl⟩ : ∃ a b c d : Int, l = [a, b, c, d] := by
        match l, hl with
        | [a, b, c, d], _ => exact ⟨a, b, c, d, rfl⟩
      refine ⟨_, rfl, _, rfl, _, rfl, (by show 4 ≤ sizeLine; decide), fun b2 hb2 => one_of_new s2 (by omega) hb2 (by show 1 ≤ 4; decide) (by show 4 ≤ 1000000; decide) fun y H4 hv2 k4 s4 => ?_⟩
      obtain ⟨v, rfl, v0, v1⟩ : ∃ v : Int, y = .int v ∧ 1 ≤ v ∧ v ≤ 6 := by
        have c : y = .int 1 ∨ y = .int 2 ∨ y = .int 6 := by simpa using hv2
        rcases c with e | e | e <;> exact ⟨_, e, by omega, by omega⟩
      refine take_of s4 (by omega) v0 (Int.lt_trans (by omega : v < 1000001) (by decide +kernel)) fun t H5 t0 t1 k5 s5 _ => ?_
      refine ⟨_, _, rfl, rfl, ?_⟩
      have L : ∀ z ∈ ([w0, x0, y0, z0] : List Int), z.natAbs < 2 ^ 400 := fun z hz => lt_mono (hb z hz) (by decide)
      have d1 : (1 + t).natAbs < 2 ^ 3 := by omega
      have b0 : EB 41 3 ⟨w0, x0, y0, z0, 1 + t⟩ := ⟨hb w0 (by simp), hb x0 (by simp), hb y0 (by simp), hb z0 (by simp), d1⟩
      have dn : (1 + t) ≠ 0 := by omega
      refine ⟨D, ⟨w0, x0, y0, z0, 1 + t⟩, rfl, k5 _ _ (k4 _ _ hd nD) nD, dn, L w0 (by simp), L x0 (by simp), L y0 (by simp), L z0 (by simp), lt_mono d1 (by decide), fun r v H6 hlow s6 hf => ?_⟩
      exact q r v H6 hlow.nrm (low5_eb dn hlow b0) ((((k1.trans k2).trans k4).trans k5).trans (Keep.same s6)) ((s5.same s6).mono (by omega)) hf
end
end Sf

namespace Sf
open PySem PySem.Spec PyProof.Rows L2
section
variable {P : Program} {w : World} {K : PySem.W.Frag} {mg : Str → Option Value} {base : Heap} {f : Addr} {fd : FuncData} {CR CA CF : Addr}
structure LPairP (vs : List V) (H : Hp) (Q : VK) : Prop where
  ex : ∃ (p : Addr) (n : Nat), vs = [.ref p] ∧ Sk p n H ∧ n ≤ 800000 ∧ ∀ (a b : Int) (t : Addr) (H' : Hp), a ≠ 0 → b ≠ 0 → a.natAbs ≤ 1000 → b.natAbs ≤ 1000 → Keep p H H' → Sk p (n + 7) H' → H' t = some (.tup [.int a, .int b]) → Q (.ref t) H'
def spLPair : Sp := fun vs H Q _ => LPairP vs H Q
theorem ok_l_pair (F : FnD K "_law_pair" "_law_pair" s_L_pair f fd) (T : Glob mg) (C_L_one_of : Cal P w K mg base 2 "_law_one_of" ["_law_bowl_here", "_law_items"] (spOneOf K)) (C_L_scoop : Cal P w K mg base 1 "_law_scoop" ["_law_bowl_here", "_law_total"] spTake) (C_L_number : Cal P w K mg base 3 "_law_number" ["_law_bowl_here"] spNumber) : FnOk P w K mg base CX0 4 f fd ["_law_bowl_here"] spLPair := by
  refine F.ok sc_L_pair (fun vs H Q E h => ?_) (fun cdv A outer s H vs Q E hr h => ?_)
  · obtain ⟨p, n, rfl, _⟩ := h.ex; rfl
  · obtain ⟨p, n, rfl, hs, hn, q⟩ := h.ex
    refine ⟨_, PSs.nox (pss_cons (ps_set (i := 1) sc_L_pair.nd rfl (Or.inl rfl) (pe_lst (pa_cons (pe_tup (pa_cons (pe_un un_neg pe_int) (pa_cons (pe_un un_neg pe_int) pa_nil))) (pa_cons (pe_tup (pa_cons (pe_un un_neg pe_int) (pa_cons (pe_un un_neg pe_int) pa_nil))) (pa_cons (pe_tup (pa_cons pe_int (pa_cons pe_int pa_nil))) (pa_cons (pe_tup (pa_cons pe_int (pa_cons pe_int pa_nil))) (pa_cons (pe_tup (pa_cons (pe_un un_neg pe_int) (pa_cons pe_int pa_nil))) (pa_cons (pe_tup (pa_cons (pe_un un_neg pe_int) (pa_cons (pe_un un_neg pe_int) pa_nil))) (pa_cons (pe_tup (pa_cons (pe_un un_neg pe_int) (pa_cons (pe_un un_neg pe_int) pa_nil))) (pa_cons (pe_tup (pa_cons pe_int (pa_cons (pe_un un_neg pe_int) pa_nil))) (pa_cons (pe_tup (pa_cons (pe_un un_neg pe_int) (pa_cons (pe_un un_neg pe_int) pa_nil))) (pa_cons (pe_tup (pa_cons pe_int (pa_cons (pe_un un_neg pe_int) pa_nil))) pa_nil))))))))))))
      (pss_one (ps_ret (pe_ifExp (pt_cmp (pc_eqI (pe_cal C_L_scoop (hr.mono (by decide)) (pa_cons (pv 0) (pa_cons pe_int pa_nil))) pe_int)) (pe_cal C_L_one_of (hr.mono (by decide)) (pa_cons (pv 0) (pa_cons (pv 1) pa_nil))) (pe_tup (pa_cons (pe_cal C_L_number (hr.mono (by decide)) (pa_cons (pv 0) pa_nil)) (pa_cons (pe_cal C_L_number (hr.mono (by decide)) (pa_cons (pv 0) pa_nil)) pa_nil))))))), ?_⟩

    refine ⟨_, rfl, _, rfl, (by show 2 ≤ sizeLine; decide), fun t0 h0 => ⟨_, rfl, _, rfl, (by show 2 ≤ sizeLine; decide), fun t1 h1 => ⟨(by show 2 ≤ sizeLine; decide), fun t2 h2 => ⟨(by show 2 ≤ sizeLine; decide), fun t3 h3 => ⟨_, rfl, (by show 2 ≤ sizeLine; decide), fun t4 h4 => ⟨_, rfl, _, rfl, (by show 2 ≤ sizeLine; decide), fun t5 h5 => ⟨_, rfl, _, rfl, (by show 2 ≤ sizeLine; decide), fun t6 h6 => ⟨_, rfl, (by show 2 ≤ sizeLine; decide), fun t7 h7 => ⟨_, rfl, _, rfl, (by show 2 ≤ sizeLine; decide), fun t8 h8 => ⟨_, rfl, (by show 2 ≤ sizeLine; decide), fun t9 h9 => ⟨(by show 10 ≤ sizeLine; decide), fun L hL => ?_⟩⟩⟩⟩⟩⟩⟩⟩⟩⟩⟩
    have z9 := same_upd (o := .tup [.int 6, .int (-15)]) h9
    have z8 := (same_upd (o := .tup [.int (-3), .int (-10)]) h8).trans z9
    have z7 := (same_upd (o := .tup [.int 5, .int (-1)]) h7).trans z8
    have z6 := (same_upd (o := .tup [.int (-1), .int (-7)]) h6).trans z7
    have z5 := (same_upd (o := .tup [.int (-2), .int (-5)]) h5).trans z6
    have z4 := (same_upd (o := .tup [.int (-1), .int 3]) h4).trans z5
    have z3 := (same_upd (o := .tup [.int 2, .int 5]) h3).trans z4
    have z2 := (same_upd (o := .tup [.int 1, .int 1]) h2).trans z3
    have z1 := (same_upd (o := .tup [.int (-1), .int (-11)]) h1).trans z2
    have z0 := (same_upd (o := .tup [.int (-1), .int (-1)]) h0).trans z1
    have g0 := z1 _ _ upd_same
    have g1 := z2 _ _ upd_same
    have g2 := z3 _ _ upd_same
    have g3 := z4 _ _ upd_same
    have g4 := z5 _ _ upd_same
    have g5 := z6 _ _ upd_same
    have g6 := z7 _ _ upd_same
    have g7 := z8 _ _ upd_same
    have g8 := z9 _ _ upd_same
    have g9 := upd_same (H := (upd (upd (upd (upd (upd (upd (upd (upd (upd H t0 (.tup [.int (-1), .int (-1)])) t1 (.tup [.int (-1), .int (-11)])) t2 (.tup [.int 1, .int 1])) t3 (.tup [.int 2, .int 5])) t4 (.tup [.int (-1), .int 3])) t5 (.tup [.int (-2), .int (-5)])) t6 (.tup [.int (-1), .int (-7)])) t7 (.tup [.int 5, .int (-1)])) t8 (.tup [.int (-3), .int (-10)]))) (a := t9) (o := .tup [.int 6, .int (-15)])
    generalize (upd (upd (upd (upd (upd (upd (upd (upd (upd (upd H t0 (.tup [.int (-1), .int (-1)])) t1 (.tup [.int (-1), .int (-11)])) t2 (.tup [.int 1, .int 1])) t3 (.tup [.int 2, .int 5])) t4 (.tup [.int (-1), .int 3])) t5 (.tup [.int (-2), .int (-5)])) t6 (.tup [.int (-1), .int (-7)])) t7 (.tup [.int 5, .int (-1)])) t8 (.tup [.int (-3), .int (-10)])) t9 (.tup [.int 6, .int (-15)])) = G at *
    have zL := z0.trans (same_upd (o := .lst [.ref t0, .ref t1, .ref t2, .ref t3, .ref t4, .ref t5, .ref t6, .ref t7, .ref t8, .ref t9]) hL)
    have gL := upd_same (H := G) (a := L) (o := .lst [.ref t0, .ref t1, .ref t2, .ref t3, .ref t4, .ref t5, .ref t6, .ref t7, .ref t8, .ref t9])
    have up : ∀ {c : Addr} {o : HO}, G c = some o → (upd G L (.lst [.ref t0, .ref t1, .ref t2, .ref t3, .ref t4, .ref t5, .ref t6, .ref t7, .ref t8, .ref t9])) c = some o := fun e => same_upd hL _ _ e
    generalize (upd G L (.lst [.ref t0, .ref t1, .ref t2, .ref t3, .ref t4, .ref t5, .ref t6, .ref t7, .ref t8, .ref t9])) = G2 at *
    have sG := hs.same zL
    refine ⟨_, rfl, take_of sG (by omega) (by decide) (by decide +kernel) fun r H1 r0 r1 k1 s1 fr1 => ?_⟩
    refine ⟨_, _, rfl, rfl, _, rfl, ifd (fun h => ?_) (fun h => ?_)⟩
    · have nL : L ≠ p := fun z => by
        obtain ⟨_, a, _⟩ := hs.same z0
        rw [z, a] at hL
        cases hL
      obtain ⟨xs, ax, ao⟩ := s1
      have pts : ∀ {c : Addr} {ys : List V}, G c = some (.tup ys) → H1 c = some (.tup ys) := fun {c ys} e => k1 _ _ (up e) (tup_ne sG (up e))
      refine ⟨_, rfl, _, rfl, ⟨p, L, xs, _, n + 1, rfl, ax, ao, by omega, nL, SqL.of (k1 _ _ gL nL), by show 1 ≤ 10; decide, by show 10 ≤ 1000000; decide, fun v ys hv hy => ?_⟩⟩
      have fin : ∀ {a b : Int} {t : Addr}, v = .ref t → a ≠ 0 → b ≠ 0 → a.natAbs ≤ 1000 → b.natAbs ≤ 1000 → G t = some (.tup [.int a, .int b]) → Q v (upd H1 p (.lst ys)) := fun {a b t} ev a0 b0 a1 b1 e => by
        subst ev
        refine q a b t _ a0 b0 a1 b1 (((Keep.same zL).trans k1).trans Keep.upd) ⟨ys, upd_same, hy.mono (by omega)⟩ ?_
        rw [upd_ne (tup_ne ⟨xs, ax, ao⟩ (pts e))]
        exact pts e
      have c : v = .ref t0 ∨ v = .ref t1 ∨ v = .ref t2 ∨ v = .ref t3 ∨ v = .ref t4 ∨ v = .ref t5 ∨ v = .ref t6 ∨ v = .ref t7 ∨ v = .ref t8 ∨ v = .ref t9 := by simpa using hv
      rcases c with c | c | c | c | c | c | c | c | c | c
      · exact fin c (by decide) (by decide) (by decide) (by decide) g0
      · exact fin c (by decide) (by decide) (by decide) (by decide) g1
      · exact fin c (by decide) (by decide) (by decide) (by decide) g2
      · exact fin c (by decide) (by decide) (by decide) (by decide) g3
      · exact fin c (by decide) (by decide) (by decide) (by decide) g4
      · exact fin c (by decide) (by decide) (by decide) (by decide) g5
      · exact fin c (by decide) (by decide) (by decide) (by decide) g6
      · exact fin c (by decide) (by decide) (by decide) (by decide) g7
      · exact fin c (by decide) (by decide) (by decide) (by decide) g8
      · exact fin c (by decide) (by decide) (by decide) (by decide) g9
    · refine ⟨_, rfl, p, n + 1, rfl, s1, by omega, fun a H2 a0 a1 k2 s2 => ⟨_, rfl, p, n + 4, rfl, s2, by omega, fun b H3 b0 b1 k3 s3 => ⟨(by show 2 ≤ sizeLine; decide), fun t ht => ?_⟩⟩⟩
      exact q a b t _ a0 b0 a1 b1 ((((Keep.same zL).trans k1).trans (k2.trans k3)).trans (Keep.new ht)) (s3.same (same_upd ht)) upd_same
end
end Sf

namespace Sf
open PySem PySem.Spec PyProof.Rows L2
theorem add_bd {a b : Int} {p q : Q5} {n : Nat} (hp : Bd n p) (hq : Bd n q) : Bd (n + n + 1) (addQ a b p q) := by
  have L : ∀ {i j : Int}, i.natAbs < 2 ^ n → j.natAbs < 2 ^ n → (i * j).natAbs < 2 ^ (n + n) := fun h1 h2 => wide_lt h1 h2
  exact ⟨add_lt2 (L hp.1 hq.2.2.2.2) (L hq.1 hp.2.2.2.2), add_lt2 (L hp.2.1 hq.2.2.2.2) (L hq.2.1 hp.2.2.2.2), add_lt2 (L hp.2.2.1 hq.2.2.2.2) (L hq.2.2.1 hp.2.2.2.2), add_lt2 (L hp.2.2.2.1 hq.2.2.2.2) (L hq.2.2.2.1 hp.2.2.2.2), lt_mono (L hp.2.2.2.2 hq.2.2.2.2) (by omega)⟩
theorem sub_bd {a b : Int} {p q : Q5} {n : Nat} (hp : Bd n p) (hq : Bd n q) : Bd (n + n + 1) (subQ a b p q) := by
  have L : ∀ {i j : Int}, i.natAbs < 2 ^ n → j.natAbs < 2 ^ n → (i * j).natAbs < 2 ^ (n + n) := fun h1 h2 => wide_lt h1 h2
  exact ⟨sub_lt2 (L hp.1 hq.2.2.2.2) (L hq.1 hp.2.2.2.2), sub_lt2 (L hp.2.1 hq.2.2.2.2) (L hq.2.1 hp.2.2.2.2), sub_lt2 (L hp.2.2.1 hq.2.2.2.2) (L hq.2.2.1 hp.2.2.2.2), sub_lt2 (L hp.2.2.2.1 hq.2.2.2.2) (L hq.2.2.2.1 hp.2.2.2.2), lt_mono (L hp.2.2.2.2 hq.2.2.2.2) (by omega)⟩
theorem neg_bd {p : Q5} {n : Nat} (h : Bd n p) : Bd n (negQ p) ∧ Bd n (mateQ p) := by
  have N : ∀ {i : Int}, i.natAbs < 2 ^ n → (-i).natAbs < 2 ^ n := fun h => by rw [Int.natAbs_neg]; exact h
  exact ⟨⟨N h.1, N h.2.1, N h.2.2.1, N h.2.2.2.1, h.2.2.2.2⟩, ⟨h.1, N h.2.1, N h.2.2.1, N h.2.2.2.1, h.2.2.2.2⟩⟩
theorem mate_eb {p : Q5} {m e : Nat} (h : EB m e p) : EB m e (mateQ p) := by
  have N : ∀ {i : Int}, i.natAbs < 2 ^ m → (-i).natAbs < 2 ^ m := fun h => by rw [Int.natAbs_neg]; exact h
  exact ⟨h.1, N h.2.1, N h.2.2.1, N h.2.2.2.1, h.2.2.2.2⟩
theorem mate_nrm {p : Q5} (h : Nrm p) : Nrm (mateQ p) := by
  refine ⟨h.1, ?_⟩
  have e := h.2
  unfold gcd5 mateQ at *
  dsimp only
  rw [Int.natAbs_neg, Int.natAbs_neg, Int.natAbs_neg]
  exact e
theorem cr_sub {a b : Int} {p q u : Q5} (h : Cross (sclQ (-1) 1 q) u) : Cross (subQ a b p q) (addQ 0 0 p u) := by
  obtain ⟨h1, h2, h3, h4⟩ := h
  unfold sclQ at *
  unfold subQ addQ
  dsimp only at *
  refine ⟨?_, ?_, ?_, ?_⟩ <;> dsimp only <;> grind
theorem cr_neg {p : Q5} : Cross (negQ p) (sclQ (-1) 1 p) := by
  unfold negQ sclQ
  refine ⟨?_, ?_, ?_, ?_⟩ <;> dsimp only <;> grind
theorem cr_scl {p : Q5} {t b t' b' : Int} (h : t * b' = t' * b) : Cross (sclQ t' b' p) (sclQ t b p) := by
  unfold sclQ
  refine ⟨?_, ?_, ?_, ?_⟩ <;> dsimp only <;> grind
theorem norm_q (a b : Int) (p : Q5) : prodQ a b p (mateQ p) = ⟨normT a b p, 0, 0, 0, p.d * p.d⟩ := by
  unfold prodQ mateQ normT
  refine q5_ext ?_ ?_ ?_ ?_ ?_ <;> dsimp only <;> grind
theorem cr_inv {a b : Int} {p r : Q5} (h : r.w * (p.d * p.d) = normT a b p * r.d) : Cross (invQ a b p) (sclQ r.d r.w (mateQ p)) := by
  unfold invQ sclQ mateQ
  generalize normT a b p = N at *
  refine ⟨?_, ?_, ?_, ?_⟩ <;> dsimp only <;> grind
theorem lowT_q {t b t' b' : Int} (h : LowT t b t' b') : Low5 ⟨t, 0, 0, 0, b⟩ ⟨t', 0, 0, 0, b'⟩ := by
  obtain ⟨h0, h1, h2⟩ := h
  refine ⟨h0, h1, ?_, ?_, ?_, ?_⟩
  · show (0 : Int) * b' = 0 * b; rw [Int.zero_mul, Int.zero_mul]
  · show (0 : Int) * b' = 0 * b; rw [Int.zero_mul, Int.zero_mul]
  · show (0 : Int) * b' = 0 * b; rw [Int.zero_mul, Int.zero_mul]
  · show gcd5 t' 0 0 0 b' = 1
    unfold gcd5
    simp [h2]
theorem lowT_uni {t b t1 b1 s c t2 b2 : Int} (h : LowT t b t1 b1) (g : LowT s c t2 b2) (e : t * c = s * b) (b0 : b ≠ 0) (c0 : c ≠ 0) : t1 = t2 ∧ b1 = b2 := by
  have z : (0 : Int) * c = 0 * b := by rw [Int.zero_mul, Int.zero_mul]
  have u := low5_uni (lowT_q h) (lowT_q g) ⟨e, z, z, z⟩ b0 c0
  exact ⟨congrArg Q5.w u, congrArg Q5.d u⟩
/-! what stands still by a draw -/
theorem keep_at {p c : Addr} {n : Nat} {H H' : Hp} {o : HO} (s : Sk p n H) (k : Keep p H H') (h : H c = some o) (ho : ∀ xs, o ≠ .lst xs) : H' c = some o := k _ _ h fun z => by
  obtain ⟨xs, g, _⟩ := s
  rw [z, g] at h
  exact ho xs (Option.some.inj h).symm
section
variable {CR CA CF : Addr} {p : Addr} {n : Nat} {H H' : Hp}
theorem RatioAt.keep {x : Addr} {t b : Int} (h : RatioAt CR H x t b) (s : Sk p n H) (k : Keep p H H') : RatioAt CR H' x t b := let ⟨dx, e⟩ := h; ⟨dx, keep_at s k e (fun _ => HO.noConfusion)⟩
theorem AlgAt.keep {x : Addr} {a b : Int} (h : AlgAt CA H x a b) (s : Sk p n H) (k : Keep p H H') : AlgAt CA H' x a b := by
  obtain ⟨dx, pl, l, h1, h2, h3⟩ := h.ex
  exact ⟨dx, pl, l, keep_at s k h1 (fun _ => HO.noConfusion), keep_at s k h2 (fun _ => HO.noConfusion), h3⟩
theorem FourAt.keep {x al : Addr} {a b : Int} {q : Q5} (h : FourAt CF CR H x al a b q) (s : Sk p n H) (k : Keep p H H') : FourAt CF CR H' x al a b q := by
  obtain ⟨dx, e, tr, nm, t1, t2, n1, n2, h1, h2, h3, h4, h5, h6⟩ := h.ex
  exact ⟨⟨dx, e, tr, nm, t1, t2, n1, n2, keep_at s k h1 (fun _ => HO.noConfusion), keep_at s k h2 (fun _ => HO.noConfusion), h3.keep s k, h4, h5.keep s k, h6⟩, h.pos, h.low⟩
/-- what a turn of the law stands on -/
structure Env (CF CR CA t al x1 x2 : Addr) (a b : Int) (v1 v2 : V) (P1 P2 : Q5) (H : Hp) : Prop where
  pr : H t = some (.tup [.int a, .int b])
  A : AlgAt CA H al a b
  f1 : FourAt CF CR H x1 al a b P1
  f2 : FourAt CF CR H x2 al a b P2
  l1 : LF H v1 P1
  l2 : LF H v2 P2
theorem Env.same {t al x1 x2 : Addr} {a b : Int} {v1 v2 : V} {P1 P2 : Q5} (h : Env CF CR CA t al x1 x2 a b v1 v2 P1 P2 H) (s : Same H H') : Env CF CR CA t al x1 x2 a b v1 v2 P1 P2 H' := ⟨s _ _ h.pr, h.A.same s, h.f1.same s, h.f2.same s, h.l1.same s, h.l2.same s⟩
theorem Env.keep {t al x1 x2 : Addr} {a b : Int} {v1 v2 : V} {P1 P2 : Q5} (h : Env CF CR CA t al x1 x2 a b v1 v2 P1 P2 H) (s : Sk p n H) (k : Keep p H H') : Env CF CR CA t al x1 x2 a b v1 v2 P1 P2 H' := ⟨keep_at s k h.pr (fun _ => HO.noConfusion), h.A.keep s k, h.f1.keep s k, h.f2.keep s k, h.l1.keep s k, h.l2.keep s k⟩
end
end Sf

namespace Sf
open PySem PySem.Spec PyProof.Rows L2
/-! fours by what they are worth -/
theorem cross_prod1 {a b : Int} {p r q : Q5} (h : Cross p r) : Cross (prodQ a b q p) (prodQ a b q r) := by
  obtain ⟨h1, h2, h3, h4⟩ := h
  unfold prodQ
  refine ⟨?_, ?_, ?_, ?_⟩ <;> dsimp only <;> grind
theorem cross_add {a b : Int} {p q r s : Q5} (h : Cross p r) (g : Cross q s) : Cross (addQ a b p q) (addQ a b r s) := by
  obtain ⟨h1, h2, h3, h4⟩ := h
  obtain ⟨g1, g2, g3, g4⟩ := g
  unfold addQ
  refine ⟨?_, ?_, ?_, ?_⟩ <;> dsimp only
  · clear h2 h3 h4 g2 g3 g4; grind
  · clear h1 h3 h4 g1 g3 g4; grind
  · clear h1 h2 h4 g1 g2 g4; grind
  · clear h1 h2 h3 g1 g2 g3; grind
theorem cross_mate {p r : Q5} (h : Cross p r) : Cross (mateQ p) (mateQ r) := by
  obtain ⟨h1, h2, h3, h4⟩ := h
  unfold mateQ
  refine ⟨?_, ?_, ?_, ?_⟩ <;> dsimp only <;> grind
theorem cross_neg {p r : Q5} (h : Cross p r) : Cross (negQ p) (negQ r) := by
  obtain ⟨h1, h2, h3, h4⟩ := h
  unfold negQ
  refine ⟨?_, ?_, ?_, ?_⟩ <;> dsimp only <;> grind
theorem cross_sub {a b : Int} {p q r s : Q5} (h : Cross p r) (g : Cross q s) : Cross (subQ a b p q) (subQ a b r s) := by
  rw [← add_neg, ← add_neg]
  exact cross_add h (cross_neg g)
/-- x is a four worth e -/
structure Wo (CF CR : Addr) (H : Hp) (x al : Addr) (a b : Int) (e : Q5) (n : Nat) : Prop where
  ex : ∃ r, FourAt CF CR H x al a b r ∧ Low5 e r ∧ Bd n r
  d0 : e.d ≠ 0
section
variable {CR CA CF : Addr} {H H' : Hp} {al : Addr} {a b : Int}
theorem Wo.same {x : Addr} {e : Q5} {n : Nat} (h : Wo CF CR H x al a b e n) (s : Same H H') : Wo CF CR H' x al a b e n := let ⟨r, h1, h2, h3⟩ := h.ex; ⟨⟨r, h1.same s, h2, h3⟩, h.d0⟩
theorem Wo.ins {x : Addr} {e : Q5} {n : Nat} (h : Wo CF CR H x al a b e n) : Ins H x CF := let ⟨_, h1, _⟩ := h.ex; h1.ins
/-- an operation of two fours -/
theorem wo_op {g : Int → Int → Q5 → Q5 → Q5} {x y : Addr} {e f : Q5} {m n k : Nat} {R : VK} (hA : AlgAt CA H al a b) (hx : Wo CF CR H x al a b e m) (hy : Wo CF CR H y al a b f n) (hm : m ≤ 1400) (hn : n ≤ 1400) (hk : k ≤ 3000)
    (hg : ∀ p q : Q5, Bd m p → Bd n q → Bd k (g a b p q)) (hd : ∀ p q : Q5, (g a b p q).d = p.d * q.d) (hc : ∀ p q r s : Q5, p.d ≠ 0 → q.d ≠ 0 → r.d ≠ 0 → s.d ≠ 0 → Cross p r → Cross q s → Cross (g a b p q) (g a b r s))
    (q : ∀ (z : Addr) (H' : Hp), Same H H' → Wo CF CR H' z al a b (g a b e f) k → R (.ref z) H') : rOwn CF (spFourOp CF CR CA g) E0 (.ref x) (.ref y) H R := by
  obtain ⟨p, fx, lp, bp⟩ := hx.ex
  obtain ⟨p', fy, lq, bq⟩ := hy.ex
  have p0 : p.d ≠ 0 := by have := lp.1; omega
  have q0 : p'.d ≠ 0 := by have := lq.1; omega
  have d0 : (g a b p p').d ≠ 0 := by rw [hd]; exact Int.mul_ne_zero p0 q0
  have d1 : (g a b e f).d ≠ 0 := by rw [hd]; exact Int.mul_ne_zero hx.d0 hy.d0
  refine ⟨x, y, rfl, rfl, fx.ins, fy.ins, ⟨x, y, al, al, a, b, p, p', rfl, fx, fy, hA, hA, bd_mono bp hm, bd_mono bq hn, fun s hs => bd_mono (low5_bd d0 hs (hg _ _ bp bq)) hk, fun s z H' hs hz e1 hF => ?_⟩⟩
  exact q z H' e1 ⟨⟨s, hF, low5_mk hs.nrm ((hc _ _ _ _ hx.d0 hy.d0 p0 q0 lp.cross lq.cross).trans hs.cross d0), low5_bd d0 hs (hg _ _ bp bq)⟩, d1⟩
theorem wo_mul {x y : Addr} {e f : Q5} {m n : Nat} {R : VK} (ha : a.natAbs < 2 ^ 20) (hb : b.natAbs < 2 ^ 20) (hA : AlgAt CA H al a b) (hx : Wo CF CR H x al a b e m) (hy : Wo CF CR H y al a b f n) (hm : m ≤ 1400) (hn : n ≤ 1400)
    (q : ∀ (z : Addr) (H' : Hp), Same H H' → Wo CF CR H' z al a b (prodQ a b e f) (m + n + 42) → R (.ref z) H') : rOwn CF (spFourOp CF CR CA prodQ) E0 (.ref x) (.ref y) H R :=
  wo_op (k := m + n + 42) hA hx hy hm hn (by omega) (fun p q hp hq => bd_mono (prodQ_bd ha hb hp hq) (by omega)) (fun _ _ => rfl)
    (fun p q r s _ q0 r0 _ h g => (cross_prod h).trans (cross_prod1 g) (Int.mul_ne_zero r0 q0)) q
theorem wo_add {x y : Addr} {e f : Q5} {m : Nat} {R : VK} (hA : AlgAt CA H al a b) (hx : Wo CF CR H x al a b e m) (hy : Wo CF CR H y al a b f m) (hm : m ≤ 1400)
    (q : ∀ (z : Addr) (H' : Hp), Same H H' → Wo CF CR H' z al a b (addQ a b e f) (m + m + 1) → R (.ref z) H') : rOwn CF (spFourOp CF CR CA addQ) E0 (.ref x) (.ref y) H R :=
  wo_op (k := m + m + 1) hA hx hy hm hm (by omega) (fun p q hp hq => add_bd hp hq) (fun _ _ => rfl) (fun p q r s _ _ _ _ h g => cross_add h g) q
theorem wo_sub {x y : Addr} {e f : Q5} {m : Nat} {R : VK} (hA : AlgAt CA H al a b) (hx : Wo CF CR H x al a b e m) (hy : Wo CF CR H y al a b f m) (hm : m ≤ 1400)
    (q : ∀ (z : Addr) (H' : Hp), Same H H' → Wo CF CR H' z al a b (subQ a b e f) (m + m + 1) → R (.ref z) H') : rOwn CF (spFourOp CF CR CA subQ) E0 (.ref x) (.ref y) H R :=
  wo_op (k := m + m + 1) hA hx hy hm hm (by omega) (fun p q hp hq => sub_bd hp hq) (fun _ _ => rfl) (fun p q r s _ _ _ _ h g => cross_sub h g) q
theorem Wo.mono {x : Addr} {e : Q5} {m n : Nat} (h : Wo CF CR H x al a b e m) (l : m ≤ n) : Wo CF CR H x al a b e n := let ⟨r, h1, h2, h3⟩ := h.ex; ⟨⟨r, h1, h2, bd_mono h3 l⟩, h.d0⟩
/-- fours worth alike are equal -/
theorem wo_eq {x y : Addr} {e f : Q5} {m n : Nat} {Q : VK} (hA : AlgAt CA H al a b) (hx : Wo CF CR H x al a b e m) (hy : Wo CF CR H y al a b f n) (hc : Cross e f) (q : Q (.bl true) H) : spFourEq CF CR CA [.ref x, .ref y] H Q E0 := by
  obtain ⟨r, h1, h2, _⟩ := hx.ex
  obtain ⟨s, g1, g2, _⟩ := hy.ex
  exact ⟨x, y, al, al, a, b, a, b, r, s, rfl, h1, g1, hA, hA, true, ⟨fun _ => ⟨⟨rfl, rfl⟩, low5_uni h2 g2 hc hx.d0 hy.d0⟩, fun _ => rfl⟩, q⟩
end
end Sf

namespace Sf
open PySem PySem.Spec PyProof.Rows L2
/-! ratios by what they are worth; the parts of a four; more of what is reckoned -/
theorem low5_refl {r : Q5} (n : Nrm r) : Low5 r r := low5_mk n (Cross.refl r)
theorem lowT_tr {t b t' b' u v : Int} (h : LowT t' b' u v) (e : t * b' = t' * b) (b0 : b' ≠ 0) : LowT t b u v := ⟨h.1, cr1 e h.2.1 b0, h.2.2⟩
theorem lowT_zero {t b t' b' : Int} (h : LowT t b t' b') (b0 : b ≠ 0) : (t' = 0 ∧ b' = 1) ↔ t = 0 := by
  obtain ⟨h0, h1, h2⟩ := h
  constructor
  · rintro ⟨rfl, rfl⟩
    rw [Int.zero_mul, Int.mul_one] at h1
    exact h1
  · rintro rfl
    rw [Int.zero_mul] at h1
    have z : t' = 0 := (Int.mul_eq_zero.mp h1.symm).resolve_right b0
    subst z
    refine ⟨rfl, ?_⟩
    simp at h2
    omega
/-- x is a ratio worth t / b -/
structure Rw (CR : Addr) (H : Hp) (x : Addr) (t b : Int) : Prop where
  ex : ∃ t' b', RatioAt CR H x t' b' ∧ LowT t b t' b'
  b0 : b ≠ 0
section
variable {CR CA CF : Addr} {H H' : Hp} {al : Addr} {a b : Int}
theorem Rw.same {x : Addr} {t b : Int} (h : Rw CR H x t b) (s : Same H H') : Rw CR H' x t b := let ⟨t', b', h1, h2⟩ := h.ex; ⟨⟨t', b', h1.same s, h2⟩, h.b0⟩
theorem Rw.ins {x : Addr} {t b : Int} (h : Rw CR H x t b) : Ins H x CR := let ⟨_, _, h1, _⟩ := h.ex; h1.ins
theorem Rw.keep {x p : Addr} {n : Nat} {t b : Int} (h : Rw CR H x t b) (s : Sk p n H) (k : Keep p H H') : Rw CR H' x t b := let ⟨t', b', h1, h2⟩ := h.ex; ⟨⟨t', b', h1.keep s k, h2⟩, h.b0⟩
theorem rw_op {x y : Addr} {t b s c : Int} {R : VK} {g k : Int → Int → Int → Int → Int} (hx : Rw CR H x t b) (hy : Rw CR H y s c) (b1 : t.natAbs < 2 ^ 3000) (b2 : b.natAbs < 2 ^ 3000) (b3 : s.natAbs < 2 ^ 3000) (b4 : c.natAbs < 2 ^ 3000)
    (k0 : ∀ p q p' q', q ≠ 0 → q' ≠ 0 → k p q p' q' ≠ 0) (hg : ∀ t' b' s' c', t * b' = t' * b → s * c' = s' * c → g t b s c * k t' b' s' c' = g t' b' s' c' * k t b s c)
    (q : ∀ (z : Addr) (H' : Hp), Same H H' → Rw CR H' z (g t b s c) (k t b s c) → R (.ref z) H') : rOwn CR (spRatOp CR g k) E0 (.ref x) (.ref y) H R := by
  obtain ⟨t', b', r1, l1⟩ := hx.ex
  obtain ⟨s', c', r2, l2⟩ := hy.ex
  obtain ⟨u1, u2⟩ := lowT_bd hx.b0 l1
  obtain ⟨u3, u4⟩ := lowT_bd hy.b0 l2
  have z1 : b' ≠ 0 := by have := l1.1; omega
  have z2 : c' ≠ 0 := by have := l2.1; omega
  exact ⟨x, y, rfl, rfl, hx.ins, hy.ins, ⟨x, .ref y, t', b', s', c', rfl, r1, .rat r2, Nat.lt_of_le_of_lt u1 b1, Nat.lt_of_le_of_lt u2 b2, Nat.lt_of_le_of_lt u3 b3, Nat.lt_of_le_of_lt u4 b4, k0 _ _ _ _ z1 z2,
    fun u v z H' hl hz e hR => q z H' e ⟨⟨u, v, hR, lowT_tr hl (hg _ _ _ _ l1.2.1 l2.2.1) (k0 _ _ _ _ z1 z2)⟩, k0 _ _ _ _ hx.b0 hy.b0⟩⟩⟩
theorem rw_mul {x y : Addr} {t b s c : Int} {R : VK} (hx : Rw CR H x t b) (hy : Rw CR H y s c) (b1 : t.natAbs < 2 ^ 3000) (b2 : b.natAbs < 2 ^ 3000) (b3 : s.natAbs < 2 ^ 3000) (b4 : c.natAbs < 2 ^ 3000)
    (q : ∀ (z : Addr) (H' : Hp), Same H H' → Rw CR H' z (t * s) (b * c) → R (.ref z) H') : rOwn CR (spRatOp CR (fun t b t2 b2 => t * t2) (fun _ b _ b2 => b * b2)) E0 (.ref x) (.ref y) H R :=
  rw_op hx hy b1 b2 b3 b4 (fun _ _ _ _ h1 h2 => Int.mul_ne_zero h1 h2) (fun t' b' s' c' e1 e2 => by grind) q
theorem rw_add {x y : Addr} {t b s c : Int} {R : VK} (hx : Rw CR H x t b) (hy : Rw CR H y s c) (b1 : t.natAbs < 2 ^ 3000) (b2 : b.natAbs < 2 ^ 3000) (b3 : s.natAbs < 2 ^ 3000) (b4 : c.natAbs < 2 ^ 3000)
    (q : ∀ (z : Addr) (H' : Hp), Same H H' → Rw CR H' z (t * c + s * b) (b * c) → R (.ref z) H') : rOwn CR (spRatOp CR (fun t b t2 b2 => t * b2 + t2 * b) (fun _ b _ b2 => b * b2)) E0 (.ref x) (.ref y) H R :=
  rw_op hx hy b1 b2 b3 b4 (fun _ _ _ _ h1 h2 => Int.mul_ne_zero h1 h2) (fun t' b' s' c' e1 e2 => by grind) q
theorem rw_sub {x y : Addr} {t b s c : Int} {R : VK} (hx : Rw CR H x t b) (hy : Rw CR H y s c) (b1 : t.natAbs < 2 ^ 3000) (b2 : b.natAbs < 2 ^ 3000) (b3 : s.natAbs < 2 ^ 3000) (b4 : c.natAbs < 2 ^ 3000)
    (q : ∀ (z : Addr) (H' : Hp), Same H H' → Rw CR H' z (t * c - s * b) (b * c) → R (.ref z) H') : rOwn CR (spRatOp CR (fun t b t2 b2 => t * b2 - t2 * b) (fun _ b _ b2 => b * b2)) E0 (.ref x) (.ref y) H R :=
  rw_op hx hy b1 b2 b3 b4 (fun _ _ _ _ h1 h2 => Int.mul_ne_zero h1 h2) (fun t' b' s' c' e1 e2 => by grind) q
/-- ratios worth the same are equal -/
theorem rw_uni {x y : Addr} {t b s c : Int} (hx : Rw CR H x t b) (hy : Rw CR H y s c) (k : Prop) [Decidable k] (hk : k ↔ t * c = s * b) {Q : VK} (q : Q (.bl (decide k)) H) : RatEqP CR [.ref x, .ref y] H Q := by
  obtain ⟨t', b', r1, l1⟩ := hx.ex
  obtain ⟨s', c', r2, l2⟩ := hy.ex
  refine ⟨x, .ref y, t', b', s', c', rfl, r1, .rat r2, fun r hr => ?_⟩
  have e : r = decide k := by
    rw [Bool.eq_iff_iff, hr, decide_eq_true_iff, hk]
    constructor
    · rintro ⟨rfl, rfl⟩
      have z : b' ≠ 0 := by have := l1.1; omega
      exact cr1 l1.2.1 l2.2.1.symm z
    · intro e
      exact lowT_uni l1 l2 e hx.b0 hy.b0
  rw [e]
  exact q
theorem rw_eq {x y : Addr} {t b s c : Int} {R : VK} (hx : Rw CR H x t b) (hy : Rw CR H y s c) (e : t * c = s * b) (q : R (.bl true) H) : rOwn CR (spRatEq CR) E0 (.ref x) (.ref y) H R :=
  ⟨x, y, rfl, rfl, hx.ins, hy.ins, rw_uni hx hy True (by simp [e]) (by simpa using q)⟩
theorem rw_ne {x y : Addr} {t b s c : Int} {R : VK} (hx : Rw CR H x t b) (hy : Rw CR H y s c) (e : t * c = s * b) (q : R (.bl false) H) : rOwnNe CR (spRatEq CR) E0 (.ref x) (.ref y) H R :=
  ⟨x, y, rfl, rfl, hx.ins, hy.ins, rw_uni hx hy True (by simp [e]) ⟨true, by simp, q⟩⟩
theorem rw_int {x : Addr} {t b i : Int} (hx : Rw CR H x t b) (hi : i.natAbs < 10 ^ 60) (k : Prop) [Decidable k] (hk : k ↔ t = i * b) {Q : VK} (q : Q (.bl (decide k)) H) : RatEqP CR [.ref x, .int i] H Q := by
  obtain ⟨t', b', r1, l1⟩ := hx.ex
  refine ⟨x, .int i, t', b', i, 1, rfl, r1, .int hi, fun r hr => ?_⟩
  have li : LowT i 1 i 1 := ⟨by decide, rfl, by simp⟩
  have e : r = decide k := by
    rw [Bool.eq_iff_iff, hr, decide_eq_true_iff, hk]
    constructor
    · rintro ⟨rfl, rfl⟩
      have := l1.2.1
      rw [Int.mul_one] at this
      exact this
    · intro e
      exact lowT_uni l1 li (by rw [Int.mul_one]; exact e) hx.b0 (by decide)
  rw [e]
  exact q
/-- the fields of a four -/
theorem Wo.fld {x : Addr} {e : Q5} {n : Nat} (h : Wo CF CR H x al a b e n) : ∃ (dx e1 tr nm : Addr) (r : Q5), H x = some (.ins CF dx [("algebra", .ref al), ("entries", .ref e1), ("bottom", .int r.d), ("trace", .ref tr), ("norm", .ref nm), ("is_ratio", .bl (decide (r.x = 0 ∧ r.y = 0 ∧ r.z = 0)))]) ∧
    H e1 = some (.tup (ents r)) ∧ Low5 e r ∧ Bd n r ∧ Rw CR H tr (2 * e.w) e.d ∧ Rw CR H nm (normT a b e) (e.d * e.d) := by
  obtain ⟨r, hF, hl, hb⟩ := h.ex
  obtain ⟨dx, e1, tr, nm, t1, t2, n1, n2, h1, h2, h3, h4, h5, h6⟩ := hF.ex
  have r0 : r.d ≠ 0 := by have := hl.1; omega
  obtain ⟨c1, c2, c3, c4⟩ := hl.cross
  refine ⟨dx, e1, tr, nm, r, h1, h2, hl, hb, ⟨⟨t1, t2, h3, lowT_tr h4 ?_ r0⟩, h.d0⟩, ⟨⟨n1, n2, h5, lowT_tr h6 ?_ (Int.mul_ne_zero r0 r0)⟩, Int.mul_ne_zero h.d0 h.d0⟩⟩
  · grind
  · unfold normT
    have sq : ∀ {s t : Int}, s * r.d = t * e.d → s * s * (r.d * r.d) = t * t * (e.d * e.d) := fun {s t} h => by
      have : s * s * (r.d * r.d) = (s * r.d) * (s * r.d) := by grind
      rw [this, h]
      grind
    have q1 := sq c1
    have q2 := sq c2
    have q3 := sq c3
    have q4 := sq c4
    clear c1 c2 c3 c4 hl h6 h4
    grind
theorem Wo.of {x : Addr} {r : Q5} {n : Nat} (h : FourAt CF CR H x al a b r) (hb : Bd n r) : Wo CF CR H x al a b r n := ⟨⟨r, h, low5_refl h.nrm, hb⟩, by have := h.pos; omega⟩
theorem Wo.keep {x p : Addr} {e : Q5} {m n : Nat} (h : Wo CF CR H x al a b e n) (s : Sk p m H) (k : Keep p H H') : Wo CF CR H' x al a b e n := let ⟨r, h1, h2, h3⟩ := h.ex; ⟨⟨r, h1.keep s k, h2, h3⟩, h.d0⟩
theorem wo_mate {x : Addr} {e : Q5} {n : Nat} {Q : VK} (hA : AlgAt CA H al a b) (hx : Wo CF CR H x al a b e n) (hn : n ≤ 3000) (q : ∀ (z : Addr) (H' : Hp), Same H H' → Wo CF CR H' z al a b (mateQ e) n → Q (.ref z) H') : Four1P CF CR CA mateQ [.ref x] H Q := by
  obtain ⟨r, hF, hl, hb⟩ := hx.ex
  have r0 : r.d ≠ 0 := by have := hl.1; omega
  exact ⟨x, al, a, b, r, rfl, hF, hA, bd_mono hb hn, fun s hs => bd_mono (low5_bd (p := mateQ r) r0 hs (neg_bd hb).2) hn, fun s z H' hs hz e1 hF' => q z H' e1 ⟨⟨s, hF', low5_mk hs.nrm ((cross_mate hl.cross).trans hs.cross r0), low5_bd (p := mateQ r) r0 hs (neg_bd hb).2⟩, hx.d0⟩⟩
theorem wo_neg {x : Addr} {e : Q5} {n : Nat} {Q : VK} (hA : AlgAt CA H al a b) (hx : Wo CF CR H x al a b e n) (hn : n ≤ 3000) (q : ∀ (z : Addr) (H' : Hp), Same H H' → Wo CF CR H' z al a b (negQ e) n → Q (.ref z) H') : Four1P CF CR CA negQ [.ref x] H Q := by
  obtain ⟨r, hF, hl, hb⟩ := hx.ex
  have r0 : r.d ≠ 0 := by have := hl.1; omega
  exact ⟨x, al, a, b, r, rfl, hF, hA, bd_mono hb hn, fun s hs => bd_mono (low5_bd (p := negQ r) r0 hs (neg_bd hb).1) hn, fun s z H' hs hz e1 hF' => q z H' e1 ⟨⟨s, hF', low5_mk hs.nrm ((cross_neg hl.cross).trans hs.cross r0), low5_bd (p := negQ r) r0 hs (neg_bd hb).1⟩, hx.d0⟩⟩
theorem cross_scl {p r : Q5} {t u t' u' : Int} (h : Cross p r) (e : t * u' = t' * u) : Cross (sclQ t u p) (sclQ t' u' r) := by
  obtain ⟨h1, h2, h3, h4⟩ := h
  unfold sclQ
  refine ⟨?_, ?_, ?_, ?_⟩ <;> dsimp only
  · clear h2 h3 h4; grind
  · clear h1 h3 h4; grind
  · clear h1 h2 h4; grind
  · clear h1 h2 h3; grind
theorem sclQ_bd {t u : Int} {p : Q5} {m k : Nat} (hp : Bd m p) (ht : t.natAbs < 2 ^ k) (hu : u.natAbs < 2 ^ k) : Bd (m + k) (sclQ t u p) :=
  ⟨wide_lt hp.1 ht, wide_lt hp.2.1 ht, wide_lt hp.2.2.1 ht, wide_lt hp.2.2.2.1 ht, wide_lt hp.2.2.2.2 hu⟩
/-- a four times a ratio -/
theorem wo_scaled {x y : Addr} {e : Q5} {t u : Int} {n k : Nat} {Q : VK} (hA : AlgAt CA H al a b) (hx : Wo CF CR H x al a b e n) (hy : Rw CR H y t u) (u0 : t.natAbs < 2 ^ k) (u1 : u.natAbs < 2 ^ k) (hn : n ≤ 1400) (hk : k ≤ 1400)
    (q : ∀ (z : Addr) (H' : Hp), Same H H' → Wo CF CR H' z al a b (sclQ t u e) (n + k) → Q (.ref z) H') : ScaledP CF CR CA [.ref x, .ref y] H Q := by
  obtain ⟨r, hF, hl, hb⟩ := hx.ex
  obtain ⟨t', u', r1, l1⟩ := hy.ex
  have r0 : r.d ≠ 0 := by have := hl.1; omega
  obtain ⟨v1, v2⟩ := lowT_bd hy.b0 l1
  have w0 : u' ≠ 0 := by have := l1.1; omega
  have t1 := Nat.lt_of_le_of_lt v1 u0
  have t2 := Nat.lt_of_le_of_lt v2 u1
  have d0 : (sclQ t' u' r).d ≠ 0 := Int.mul_ne_zero r0 w0
  refine ⟨x, al, a, b, t', u', .ref y, r, rfl, hF, hA, .rat r1, w0, lt_mono t1 hk, lt_mono t2 hk, bd_mono hb hn, fun s z H' hs hz e1 hF' => q z H' e1 ⟨⟨s, hF', low5_mk hs.nrm ((cross_scl hl.cross l1.2.1).trans hs.cross d0), low5_bd d0 hs (sclQ_bd hb t1 t2)⟩, Int.mul_ne_zero hx.d0 hy.b0⟩⟩
theorem wo_feq {x y : Addr} {e f : Q5} {m n : Nat} {Q : VK} (hA : AlgAt CA H al a b) (hx : Wo CF CR H x al a b e m) (hy : Wo CF CR H y al a b f n) (k : Prop) [Decidable k] (hk : k ↔ Cross e f) (q : Q (.bl (decide k)) H) : spFourEq CF CR CA [.ref x, .ref y] H Q E0 := by
  obtain ⟨r, h1, h2, _⟩ := hx.ex
  obtain ⟨s, g1, g2, _⟩ := hy.ex
  refine ⟨x, y, al, al, a, b, a, b, r, s, rfl, h1, g1, hA, hA, decide k, ?_, q⟩
  rw [decide_eq_true_iff, hk]
  refine ⟨fun h => ⟨⟨rfl, rfl⟩, low5_uni h2 g2 h hx.d0 hy.d0⟩, fun h => ?_⟩
  have e1 := h.2
  subst e1
  exact h2.cross.trans g2.cross.symm (by have := h2.1; omega)
theorem four_eq {x y : Addr} {e f : Q5} {m n : Nat} {R : VK} (hA : AlgAt CA H al a b) (hx : Wo CF CR H x al a b e m) (hy : Wo CF CR H y al a b f n) (hc : Cross e f) (q : R (.bl true) H) : rOwn CF (spFourEq CF CR CA) E0 (.ref x) (.ref y) H R :=
  ⟨x, y, rfl, rfl, hx.ins, hy.ins, wo_feq hA hx hy True (by simp [hc]) (by simpa using q)⟩
theorem four_ne {x y : Addr} {e f : Q5} {m n : Nat} {R : VK} (hA : AlgAt CA H al a b) (hx : Wo CF CR H x al a b e m) (hy : Wo CF CR H y al a b f n) (hc : Cross e f) (q : R (.bl false) H) : rOwnNe CF (spFourEq CF CR CA) E0 (.ref x) (.ref y) H R :=
  ⟨x, y, rfl, rfl, hx.ins, hy.ins, wo_feq hA hx hy True (by simp [hc]) ⟨true, by simp, q⟩⟩
theorem cross_inv {p r : Q5} (h : Cross p r) (p0 : p.d ≠ 0) (r0 : r.d ≠ 0) : Cross (invQ a b p) (invQ a b r) := by
  obtain ⟨h1, h2, h3, h4⟩ := h
  have N : normT a b p * (r.d * r.d) = normT a b r * (p.d * p.d) := by
    unfold normT
    have sq : ∀ {s t : Int}, s * r.d = t * p.d → s * s * (r.d * r.d) = t * t * (p.d * p.d) := fun {s t} h => by
      have : s * s * (r.d * r.d) = (s * r.d) * (s * r.d) := by grind
      rw [this, h]
      grind
    have q1 := sq h1
    have q2 := sq h2
    have q3 := sq h3
    have q4 := sq h4
    clear h1 h2 h3 h4
    grind
  unfold invQ
  generalize normT a b p = n at *
  generalize normT a b r = m at *
  have pr : p.d * r.d ≠ 0 := Int.mul_ne_zero p0 r0
  have one : ∀ {s t : Int}, s * r.d = t * p.d → s * p.d * m = t * r.d * n := fun {s t} h => by
    refine Int.eq_of_mul_eq_mul_left pr ?_
    have e1 : p.d * r.d * (s * p.d * m) = (s * r.d) * (m * (p.d * p.d)) := by grind
    have e2 : p.d * r.d * (t * r.d * n) = (t * p.d) * (n * (r.d * r.d)) := by grind
    rw [e1, e2, h, N]
  have ng : ∀ {s t : Int}, s * r.d = t * p.d → -s * r.d = -t * p.d := fun {s t} h => by rw [Int.neg_mul, Int.neg_mul, h]
  exact ⟨one h1, one (ng h2), one (ng h3), one (ng h4)⟩
theorem wo_inverse {x : Addr} {e : Q5} {n : Nat} {Q : VK} (ba : a.natAbs < 2 ^ 10) (bb : b.natAbs < 2 ^ 10) (hA : AlgAt CA H al a b) (hx : Wo CF CR H x al a b e n) (hn : n ≤ 600) (nz : normT a b e ≠ 0)
    (q : ∀ (z : Addr) (H' : Hp), Same H H' → Wo CF CR H' z al a b (invQ a b e) (n + n + 22) → Q (.ref z) H') : InverseP CF CR CA [.ref x] H Q := by
  obtain ⟨r, hF, hl, hb⟩ := hx.ex
  have r0 : r.d ≠ 0 := by have := hl.1; omega
  have rz : normT a b r ≠ 0 := fun z => by
    have c := (cross_inv (a := a) (b := b) hl.cross hx.d0 r0)
    obtain ⟨dx, e1, tr, nm, r', h1, h2, hl', hb', hT, hN⟩ := hx.fld
    obtain ⟨c1, c2, c3, c4⟩ := hl.cross
    refine nz ?_
    have N : normT a b e * (r.d * r.d) = normT a b r * (e.d * e.d) := by
      unfold normT
      have sq : ∀ {s t : Int}, s * r.d = t * e.d → s * s * (r.d * r.d) = t * t * (e.d * e.d) := fun {s t} h => by
        have : s * s * (r.d * r.d) = (s * r.d) * (s * r.d) := by grind
        rw [this, h]
        grind
      have q1 := sq c1
      have q2 := sq c2
      have q3 := sq c3
      have q4 := sq c4
      clear c c1 c2 c3 c4 z hT hN hl hl' nz
      grind
    rw [z, Int.zero_mul] at N
    exact (Int.mul_eq_zero.mp N).resolve_right (Int.mul_ne_zero r0 r0)
  have bi : Bd (n + n + 22) (invQ a b r) := by
    have neg : ∀ {i : Int}, i.natAbs < 2 ^ n → (-i).natAbs < 2 ^ n := fun h => by rw [Int.natAbs_neg]; exact h
    have W : ∀ {i : Int}, i.natAbs < 2 ^ n → (i * r.d).natAbs < 2 ^ (n + n + 22) := fun h => lt_mono (wide_lt h hb.2.2.2.2) (by omega)
    exact ⟨W hb.1, W (neg hb.2.1), W (neg hb.2.2.1), W (neg hb.2.2.2.1), lt_mono (normT_bd ba bb hb) (by omega)⟩
  exact ⟨x, al, a, b, r, rfl, hF, hA, ba, bb, bd_mono hb hn, rz, fun s z H' hs hz e1 hF' => q z H' e1 ⟨⟨s, hF', low5_mk hs.nrm ((cross_inv hl.cross hx.d0 r0).trans hs.cross rz), low5_bd rz hs bi⟩, nz⟩⟩
end
end Sf

namespace Sf
open PySem PySem.Spec PyProof.Rows L2
/-! == and != of tuples (of tuples ..) of own objects, whatever the answer -/
section
variable {prog : Program} {w : World} {A : Around} {R : Result → Shared → Prop}
/-- the items are asked one behind the other: so long as they are equal J goes on; the first that are not end it -/
theorem tup_asked {ne : Bool} {l b : Addr} {xs ys : Array Value} {n m : Nat} {d d' : Option Addr} {sl sl' : Array (Option Value)} (J : Nat → Shared → Prop) (hs : xs.size = ys.size)
    (step : ∀ (i : Nat) (h1 : i < xs.size) (h2 : i < ys.size) (s : Shared), J i s → wpAny (model prog w) A.in1 (eqBool xs[i] ys[i]) (fun r t => (r = true ∧ J (i + 1) t) ∨ (r = false ∧ R (.ok (.ret (.bool ne))) t)) (fun e t => R (.error e) t) s)
    (last : ∀ s, J xs.size s → R (.ok (.ret (.bool (!ne)))) s) {s : Shared} (hl : s.heap.get? l = some ⟨.type "tuple", d, .seq xs n, sl⟩) (hb : s.heap.get? b = some ⟨.type "tuple", d', .seq ys m, sl'⟩) (j0 : J 0 s) :
    wpAny (model prog w) A.in1 ((if ne = true then Builtin.«tuple.__ne__» else Builtin.«tuple.__eq__») ⟨[.ref l, .ref b], []⟩) (GQ.FinOf prog w A R) (fun e t => R (.error e) t) s := by
  have st := AutoSeq1.sub_tuple_tuple
  have zl : (xs.toList.zip ys.toList).length = xs.size := by simp [hs]
  have j1 := j0
  have at_ : ∀ {i : Nat} {p : Value × Value} {rest : List (Value × Value)}, p :: rest = (xs.toList.zip ys.toList).drop i → ∃ (h1 : i < xs.size) (h2 : i < ys.size), p = (xs[i], ys[i]) ∧ rest = (xs.toList.zip ys.toList).drop (i + 1) := by
    intro i p rest e
    have hi : i < (xs.toList.zip ys.toList).length := by
      rcases Nat.lt_or_ge i (xs.toList.zip ys.toList).length with c | c
      · exact c
      · rw [List.drop_of_length_le c] at e; cases e
    rw [List.drop_eq_getElem_cons hi] at e
    injection e with e1 e2
    have h1 : i < xs.size := by omega
    exact ⟨h1, by omega, by rw [e1]; simp, e2⟩
  obtain ⟨hp, g, dd, tk, os⟩ := s
  cases ne with
  | false =>
    simp only [Bool.false_eq_true, if_false]
    wp_walk using AutoSeq1.wpAny_loadPart' hl, AutoSeq1.wpAny_loadPart' hb, wpAny_forIn_list _ (fun rest b t => b.1 = none ∧ ∃ i, rest = (xs.toList.zip ys.toList).drop i ∧ i ≤ xs.size ∧ J i t) _
    case turn =>
      rintro ⟨x, y⟩ rest c t ⟨hc, i, e, hi, hJ⟩
      obtain ⟨h1, h2, e1, e2⟩ := at_ e
      cases e1
      refine wpAny_bind (wpAny_mono (step i h1 h2 t hJ) (fun r t2 q => ?_) fun _ _ z => z)
      rcases q with ⟨rfl, q⟩ | ⟨rfl, q⟩
      · wp_walk
        exact ⟨rfl, i + 1, e2, h1, q⟩
      · wp_walk
        exact q
    case fin =>
      rintro ⟨b1, b2⟩ t ⟨hc, i, e, hi, hJ⟩
      simp only at hc
      subst hc
      have ei : i = xs.size := by
        rcases Nat.lt_or_ge i (xs.toList.zip ys.toList).length with c | c
        · rw [List.drop_eq_getElem_cons c] at e; cases e
        · omega
      have q := last t (ei ▸ hJ)
      wp_walk
      simpa [Builtin.Tuple.tupleCompareSizes, hs] using q
    case h => exact ⟨rfl, 0, rfl, Nat.zero_le _, j1⟩
  | true =>
    simp only [if_true]
    wp_walk using AutoSeq1.wpAny_loadPart' hl, AutoSeq1.wpAny_loadPart' hb, wpAny_forIn_list _ (fun rest b t => b.1 = none ∧ ∃ i, rest = (xs.toList.zip ys.toList).drop i ∧ i ≤ xs.size ∧ J i t) _
    case turn =>
      rintro ⟨x, y⟩ rest c t ⟨hc, i, e, hi, hJ⟩
      obtain ⟨h1, h2, e1, e2⟩ := at_ e
      cases e1
      refine wpAny_bind (wpAny_mono (step i h1 h2 t hJ) (fun r t2 q => ?_) fun _ _ z => z)
      rcases q with ⟨rfl, q⟩ | ⟨rfl, q⟩
      · wp_walk
        exact ⟨rfl, i + 1, e2, h1, q⟩
      · wp_walk
        exact q
    case fin =>
      rintro ⟨b1, b2⟩ t ⟨hc, i, e, hi, hJ⟩
      simp only at hc
      subst hc
      have ei : i = xs.size := by
        rcases Nat.lt_or_ge i (xs.toList.zip ys.toList).length with c | c
        · rw [List.drop_eq_getElem_cons c] at e; cases e
        · omega
      have q := last t (ei ▸ hJ)
      wp_walk
      simpa [Builtin.Tuple.tupleCompareSizes, hs] using q
    case h => exact ⟨rfl, 0, rfl, Nat.zero_le _, j1⟩
end
section
variable {X : Cx} {n : Nat} {f C : Addr} {fd : FuncData} {ps : List Str} {sp : Sp} {E : XK} {CX : CXT}
/-- two values, the answer to ==, the heap -/
abbrev Ask := V → V → Bool → Hp → Prop
def AskM (D : Ask) : Prop := ∀ (x y : V) (r : Bool) (H H' : Hp), Same H H' → D x y r H → D x y r H'
def AskR (X : Cx) (D : Ask) : Prop := ∀ {pins : List (Addr × Obj)} {s : Shared} {σ : L2.St} {H : Hp} (_ : Inv X pins σ H s) (x : V) (r : Bool), D x x r H → r = true
/-- a comparison inside a built-in gives the answer, and only makes objects -/
def Asks (X : Cx) (n : Nat) (D : Ask) : Prop := ∀ {A : Around} {pins : List (Addr × Obj)} {s : Shared} {σ : L2.St} {H : Hp} {x y : V} {r : Bool} {u v : Value}, Sub X n A → Inv X pins σ H s → RelV x u → RelV y v → D x y r H →
  wpAny (model X.prog X.w) A (eqBool u v) (fun k t => k = r ∧ ∃ H', Inv X pins σ H' t ∧ Same H H') X.xe s
/-- objects of one own class -/
def AskO (D : Addr → Addr → Bool → Hp → Prop) : Ask := fun x y r H => ∃ a b, x = .ref a ∧ y = .ref b ∧ D a b r H
theorem asks_own {D : Addr → Addr → Bool → Hp → Prop} (M : Meth X.K C "__eq__" f) (F : FnOk X.prog X.w X.K X.mg X.base CX n f fd ps sp) (hb : Binds X.K fd ps []) (hx : Passes CX X E) (hi : ∀ {a b r H}, D a b r H → Ins H a C ∧ Ins H b C)
    (hs : ∀ {a b r H}, D a b r H → sp [.ref a, .ref b] H (fun v H' => v = .bl r ∧ Same H H') E) (hr : ∀ {a r H}, D a a r H → r = true) : Asks X n (AskO D) := by
  intro A pins s σ H x y r u v sb I rx ry d
  obtain ⟨a, b, rfl, rfl, d⟩ := d
  cases rx
  cases ry
  by_cases hab : a = b
  · subst hab
    have e := hr d
    subst e
    exact SeqAt.EqAt.same (A := A) (s := s) (.ref a) X.prog X.w X.xe _ ⟨rfl, H, I, Same.refl H⟩
  · obtain ⟨h1, h2⟩ := hi d
    obtain ⟨ox, od, J⟩ := ins_inst I h1
    obtain ⟨oy, oe, J'⟩ := ins_inst I h2
    obtain ⟨m, hF⟩ := I.fr
    refine GQ.eqBool_refG hab (PySem.W.cmp_K (op := .Eq) (tb := .ref C) sb.room.units0 hF I.ok.mod.kin J J'.type (by simp [PySem.W.notFirst]) M.at_ M.fn ?_)
    refine wpAny_mono (run_sub (us := [.ref a, .ref b]) (vs := [.ref a, .ref b]) F sb hb hx I (.cons rfl (.cons rfl .nil)) (hs d)) (fun k t q => ?_) fun _ _ z => z
    obtain ⟨z, H', I', rz, rfl, sm⟩ := q
    cases (show k = Value.bool r from rz)
    exact ⟨r, rfl, rfl, H', I', sm⟩
/-- tuples of as many items, asked item by item -/
def AskT (K : PySem.W.Frag) (D : Ask) : Ask := fun x y r H => ∃ (a b : Addr) (xs ys : List V) (rs : List Bool), x = .ref a ∧ y = .ref b ∧ SqT K H a xs ∧ SqT K H b ys ∧ xs.length = ys.length ∧ rs.length = xs.length ∧
  (∀ (i : Nat) (p q : V) (k : Bool), xs[i]? = some p → ys[i]? = some q → rs[i]? = some k → D p q k H) ∧ r = rs.all id
theorem askM_tup {K : PySem.W.Frag} {D : Ask} (h : AskM D) : AskM (AskT K D) := fun x y r H H' s ⟨a, b, xs, ys, rs, h1, h2, h3, h4, h5, h6, h7, h8⟩ =>
  ⟨a, b, xs, ys, rs, h1, h2, SqT.ext h3 s, SqT.ext h4 s, h5, h6, fun i p q k g1 g2 g3 => h _ _ _ _ _ s (h7 i p q k g1 g2 g3), h8⟩
theorem rich_tup {D : Ask} (hm : AskM D) (h : Asks X n D) (ne : Bool) {A : Around} {pins : List (Addr × Obj)} {s : Shared} {σ : L2.St} {H : Hp} {x y : V} {r : Bool} {u v : Value} (sb : Sub X (n + 1) A) (I : Inv X pins σ H s) (rx : RelV x u) (ry : RelV y v) (d : AskT X.K D x y r H) :
    wpAny (model X.prog X.w) A (richCompare (if ne = true then .NotEq else .Eq) u v) (fun k t => k = .bool (r ^^ ne) ∧ ∃ H', Inv X pins σ H' t ∧ Same H H') X.xe s := by
  obtain ⟨a, b, xs, ys, rs, rfl, rfl, ha, hb, hl, hr, hd, rfl⟩ := d
  cases rx
  cases ry
  obtain ⟨us, r1, ⟨⟨c1, d1, t1, sl1⟩, e1, q1, n1, w1⟩, _⟩ := I.tuple ha
  obtain ⟨vs, r2, ⟨⟨c2, d2, t2, sl2⟩, e2, q2, n2, w2⟩, _⟩ := I.tuple hb
  simp only at q1 w1 q2 w2
  subst q1 w1 q2 w2
  have l1 := r1.length
  have l2 := r2.length
  have hs : us.toArray.size = vs.toArray.size := by rw [List.size_toArray, List.size_toArray, ← l1, ← l2]; exact hl
  have main : ∀ (R : Result → Shared → Prop), (∀ k t, (k = (rs.all id ^^ ne) ∧ ∃ H', Inv X pins σ H' t ∧ Same H H') → R (.ok (.ret (.bool k))) t) → (∀ e t, X.xe e t → R (.error e) t) →
      wpAny (model X.prog X.w) A.in1 ((if ne = true then Builtin.«tuple.__ne__» else Builtin.«tuple.__eq__») ⟨[.ref a, .ref b], []⟩) (GQ.FinOf X.prog X.w A R) (fun e t => R (.error e) t) s := by
    intro R hR hE
    refine tup_asked (ne := ne) (fun i t => (∃ H', Inv X pins σ H' t ∧ Same H H') ∧ ∀ j, j < i → rs[j]? = some true) hs (fun i h1 h2 t hJ => ?_) (fun t hJ => ?_) e1 e2 ⟨⟨H, I, Same.refl H⟩, fun j hj => absurd hj (Nat.not_lt_zero j)⟩
    · obtain ⟨⟨H1, I1, sm⟩, hj⟩ := hJ
      have k1 : i < us.length := by simpa using h1
      have k2 : i < vs.length := by simpa using h2
      have i1 : i < xs.length := by omega
      have i2 : i < ys.length := by omega
      have i3 : i < rs.length := by omega
      obtain ⟨u, hu, ru⟩ := r1.get (List.getElem?_eq_getElem i1)
      obtain ⟨v, hv, rv⟩ := r2.get (List.getElem?_eq_getElem i2)
      have eu : us.toArray[i] = u := by
        have z : us[i]? = some us.toArray[i] := by rw [List.getElem?_eq_getElem k1] <;> simp
        rw [z] at hu
        exact Option.some.inj hu
      have ev : vs.toArray[i] = v := by
        have z : vs[i]? = some vs.toArray[i] := by rw [List.getElem?_eq_getElem k2] <;> simp
        rw [z] at hv
        exact Option.some.inj hv
      rw [eu, ev]
      have dd := hm _ _ _ _ _ sm (hd i _ _ _ (List.getElem?_eq_getElem i1) (List.getElem?_eq_getElem i2) (List.getElem?_eq_getElem i3))
      refine wpAny_mono (h sb.in1 I1 ru rv dd) (fun k t2 q => ?_) fun e t2 z => hE e t2 z
      obtain ⟨hk, H2, I2, sm2⟩ := q
      cases hc : rs[i] with
      | true =>
        rw [hc] at hk
        refine .inl ⟨hk, ⟨H2, I2, sm.trans sm2⟩, fun j hj2 => ?_⟩
        rcases Nat.lt_succ_iff_lt_or_eq.mp hj2 with z | z
        · exact hj j z
        · subst z
          rw [List.getElem?_eq_getElem i3, hc]
      | false =>
        rw [hc] at hk
        refine .inr ⟨hk, hR _ _ ⟨?_, H2, I2, sm.trans sm2⟩⟩
        have z : rs.all id = false := by
          rw [List.all_eq_false]
          exact ⟨false, by rw [← hc]; exact List.getElem_mem i3, by decide⟩
        rw [z, Bool.false_xor]
    · obtain ⟨⟨H1, I1, sm⟩, hj⟩ := hJ
      refine hR _ _ ⟨?_, H1, I1, sm⟩
      have z : rs.all id = true := by
        rw [List.all_eq_true]
        intro k hk
        obtain ⟨j, hj1, hj2⟩ := List.mem_iff_getElem.mp hk
        have := hj j (by rw [List.size_toArray, ← l1, ← hr]; exact hj1)
        rw [List.getElem?_eq_getElem hj1, hj2] at this
        exact Option.some.inj this
      rw [z, Bool.true_xor]
  cases ne with
  | false =>
    refine wpAny_richCompare_same_room (op := .Eq) ⟨_, e1, rfl⟩ ⟨_, e2, rfl⟩ F.slot_tuple_eq (GQ.call_here F.slot_tuple_eq ⟨_, e1, rfl⟩ F.entry_tuple_eq (F.args_tuple_eq_2 _ _) ?_) sb.room.units0
    exact main _ (fun k t q => ⟨(fun z => nomatch z), by rw [q.1], q.2⟩) fun e t z => z
  | true =>
    refine wpAny_richCompare_same_room (op := .NotEq) ⟨_, e1, rfl⟩ ⟨_, e2, rfl⟩ F.slot_tuple_ne (GQ.call_here F.slot_tuple_ne ⟨_, e1, rfl⟩ F.entry_tuple_ne (F.args_tuple_ne_2 _ _) ?_) sb.room.units0
    exact main _ (fun k t q => ⟨(fun z => nomatch z), by rw [q.1], q.2⟩) fun e t z => z
theorem asks_tup {D : Ask} (hm : AskM D) (hr : AskR X D) (h : Asks X n D) : Asks X (n + 1) (AskT X.K D) := by
  intro A pins s σ H x y r u v sb I rx ry d
  have d0 := d
  obtain ⟨a, b, xs, ys, rs, rfl, rfl, ha, hb, hl, hrl, hd, rfl⟩ := d0
  have rx0 := rx
  have ry0 := ry
  cases rx
  cases ry
  by_cases hab : a = b
  · subst hab
    have e := I.tuple_inj ha hb
    subst e
    have z : rs.all id = true := by
      rw [List.all_eq_true]
      intro k hk
      obtain ⟨j, hj1, hj2⟩ := List.mem_iff_getElem.mp hk
      have jx : j < xs.length := by omega
      have := hr I _ _ (hd j _ _ _ (List.getElem?_eq_getElem jx) (List.getElem?_eq_getElem jx) (List.getElem?_eq_getElem hj1))
      rw [hj2] at this
      exact this
    rw [z]
    exact SeqAt.EqAt.same (A := A) (s := s) (.ref a) X.prog X.w X.xe _ ⟨rfl, H, I, Same.refl H⟩
  · refine GQ.eqBool_refG hab (wpAny_mono (rich_tup hm h false sb I rx0 ry0 d) (fun k t q => ?_) fun _ _ z => z)
    obtain ⟨e, q⟩ := q
    rw [Bool.xor_false] at e
    exact ⟨_, e, rfl, q⟩
theorem askR_tup {D : Ask} (hr : AskR X D) : AskR X (AskT X.K D) := by
  intro pins s σ H I x r ⟨a, b, xs, ys, rs, h1, h2, h3, h4, h5, h6, h7, h8⟩
  rw [h1] at h2
  cases h2
  have e := I.tuple_inj h3 h4
  subst e
  rw [h8, List.all_eq_true]
  intro k hk
  obtain ⟨j, hj1, hj2⟩ := List.mem_iff_getElem.mp hk
  have jx : j < xs.length := by omega
  have := hr I _ _ (h7 j _ _ _ (List.getElem?_eq_getElem jx) (List.getElem?_eq_getElem jx) (List.getElem?_eq_getElem hj1))
  rw [hj2] at this
  exact this
theorem askR_own {D : Addr → Addr → Bool → Hp → Prop} (hr : ∀ {a r H}, D a a r H → r = true) : AskR X (AskO D) := by
  intro pins s σ H I x r ⟨a, b, h1, h2, d⟩
  rw [h1] at h2
  cases h2
  exact hr d
theorem askM_own {D : Addr → Addr → Bool → Hp → Prop} (h : ∀ {a b r H H'}, Same H H' → D a b r H → D a b r H') : AskM (AskO D) := fun x y r H H' s ⟨a, b, h1, h2, d⟩ => ⟨a, b, h1, h2, h s d⟩
/-- x == y, x != y -/
def rAsk (ne : Bool) (D : Ask) : R2 := fun x y H Q => ∃ r, D x y r H ∧ ∀ H', Same H H' → Q (.bl (r ^^ ne)) H'
theorem op_ask {D : Ask} (hm : AskM D) (h : Asks X n D) (hr : Room (n + 1) X.A) (ne : Bool) : OpR X (compareOp (if ne = true then .NotEq else .Eq)) (rAsk ne (AskT X.K D)) := by
  intro pins s σ H x y v u Q I rx ry ⟨r, d, q⟩
  have z := rich_tup hm h ne (A := X.A) ⟨hr, rfl⟩ I rx ry d
  have fin : wpAny (model X.prog X.w) X.A (richCompare (if ne = true then .NotEq else .Eq) v u) (EP X pins σ Q) X.xe s := by
    refine wpAny_mono z (fun k t g => ?_) fun _ _ w => w
    obtain ⟨rfl, H', I', sm⟩ := g
    exact ⟨.bl (r ^^ ne), H', I', rfl, q H' sm⟩
  cases ne with
  | false => exact fin
  | true => exact fin
end
end Sf

namespace Sf
open PySem PySem.Spec PyProof.Rows L2
/-! == and != of lists of own objects, whatever the answer -/
section
open MeetsSeq MeetsSeq2 MeetsSeq3 SeqRoads2 PySem.SeqAt
variable {prog : Program} {w : World} {A : Around} {R : Result → Shared → Prop}
/-- two lists of N items each are there to be read -/
def TwoL (l b : Addr) (N : Nat) (s : Shared) (k : Array Value → Array Value → Prop) : Prop := ∃ (xs ys : Array Value) (n m : Nat), s.heap.get? l = some ⟨.type "list", none, .seq xs n, #[]⟩ ∧ s.heap.get? b = some ⟨.type "list", none, .seq ys m, #[]⟩ ∧ xs.size = N ∧ ys.size = N ∧ k xs ys
/-- what the lists' loop keeps -/
def LstJ (prog : Program) (w : World) (A : Around) (R : Result → Shared → Prop) (ne : Bool) (l b : Addr) (N : Nat) (J : Nat → Shared → Prop) : Prop := ∀ i s, J i s → TwoL l b N s fun xs ys => ∀ (h1 : i < xs.size) (h2 : i < ys.size),
  wpAny (model prog w) A.in1 (eqBool xs[i] ys[i]) (fun r t => (r = true ∧ J (i + 1) t) ∨ (r = false ∧ TwoL l b N t fun _ _ => R (.ok (.ret (.bool ne))) t)) (fun e t => R (.error e) t) s
theorem lst_loop {ne : Bool} {l b : Addr} {N : Nat} {J : Nat → Shared → Prop} (hJ : LstJ prog w A R ne l b N J) (last : ∀ s, J N s → R (.ok (.ret (.bool (!ne)))) s) : ∀ (k i : Nat), N - i = k → i ≤ N → ∀ s, J i s →
    wpAny (model prog w) A.in1 (Builtin.«list.__eq__.loop» ⟨[.ref l, .ref b, rawInt i, rawInt (if ne = true then 3 else 2)], []⟩) (GQ.FinOf prog w A R) (fun e t => R (.error e) t) s := by
  intro k
  induction k with
  | zero =>
    intro i hk hi s h
    obtain ⟨xs, ys, n, m, g1, g2, z1, z2, _⟩ := hJ i s h
    have ei : i = N := by omega
    have fin := last s (ei ▸ h)
    obtain ⟨hp, gg, dd, tk, os⟩ := s
    have o1 : xs[((i : Nat) : Int).toNat]? = none := by simp; omega
    have o2 : ys[((i : Nat) : Int).toNat]? = none := by simp; omega
    cases ne with
    | false =>
      simp only [Bool.false_eq_true, if_false]
      wp_walk using AutoSeq1.wpAny_loadPart' g1, AutoSeq1.wpAny_loadPart' g2
      rw [o1, o2]
      wp_walk using AutoSeq1.wpAny_loadPart' g1, AutoSeq1.wpAny_loadPart' g2
      show R (.ok (.ret (.bool (xs.size == ys.size)))) _
      rw [z1, z2, beq_self_eq_true]
      exact fin
    | true =>
      simp only [if_true]
      wp_walk using AutoSeq1.wpAny_loadPart' g1, AutoSeq1.wpAny_loadPart' g2
      rw [o1, o2]
      wp_walk using AutoSeq1.wpAny_loadPart' g1, AutoSeq1.wpAny_loadPart' g2
      show R (.ok (.ret (.bool (xs.size != ys.size)))) _
      rw [z1, z2, bne_self_eq_false]
      exact fin
  | succ k ih =>
    intro i hk hi s h
    obtain ⟨xs, ys, n, m, g1, g2, z1, z2, turn⟩ := hJ i s h
    have t1 : i < xs.size := by omega
    have t2 : i < ys.size := by omega
    have ask := turn t1 t2
    obtain ⟨hp, gg, dd, tk, os⟩ := s
    have o1 : xs[((i : Nat) : Int).toNat]? = some xs[i] := by simp [t1]
    have o2 : ys[((i : Nat) : Int).toNat]? = some ys[i] := by simp [t2]
    have up : ((i : Int) + 1) = ((i + 1 : Nat) : Int) := by omega
    cases ne with
    | false =>
      simp only [Bool.false_eq_true, if_false] at ih ⊢
      wp_walk using AutoSeq1.wpAny_loadPart' g1, AutoSeq1.wpAny_loadPart' g2
      rw [o1, o2]
      refine wpAny_bind (wpAny_mono ask (fun r t q => ?_) fun _ _ z => z)
      rcases q with ⟨rfl, q⟩ | ⟨rfl, xs', ys', n', m', g1', g2', z1', z2', q⟩
      · have go := ih (i + 1) (by omega) (by omega) t q
        obtain ⟨hp2, gg2, dd2, tk2, os2⟩ := t
        wp_walk
        rw [up]
        exact ⟨plainId_quiet plain_eq_loop _, codeAny_builtin entry_eq_loop (by rw [Around.under_plainId plain_eq_loop _]; exact go)⟩
      · obtain ⟨hp2, gg2, dd2, tk2, os2⟩ := t
        have p1 : xs'[((i : Nat) : Int).toNat]? = some (xs'[i]'(by omega)) := by
          have : i < xs'.size := by omega
          simp [this]
        have p2 : ys'[((i : Nat) : Int).toNat]? = some (ys'[i]'(by omega)) := by
          have : i < ys'.size := by omega
          simp [this]
        wp_walk using AutoSeq1.wpAny_loadPart' g1', AutoSeq1.wpAny_loadPart' g2'
        rw [p1, p2]
        wp_walk
        exact q
    | true =>
      simp only [if_true] at ih ⊢
      wp_walk using AutoSeq1.wpAny_loadPart' g1, AutoSeq1.wpAny_loadPart' g2
      rw [o1, o2]
      refine wpAny_bind (wpAny_mono ask (fun r t q => ?_) fun _ _ z => z)
      rcases q with ⟨rfl, q⟩ | ⟨rfl, xs', ys', n', m', g1', g2', z1', z2', q⟩
      · have go := ih (i + 1) (by omega) (by omega) t q
        obtain ⟨hp2, gg2, dd2, tk2, os2⟩ := t
        wp_walk
        rw [up]
        exact ⟨plainId_quiet plain_eq_loop _, codeAny_builtin entry_eq_loop (by rw [Around.under_plainId plain_eq_loop _]; exact go)⟩
      · obtain ⟨hp2, gg2, dd2, tk2, os2⟩ := t
        have p1 : xs'[((i : Nat) : Int).toNat]? = some (xs'[i]'(by omega)) := by
          have : i < xs'.size := by omega
          simp [this]
        have p2 : ys'[((i : Nat) : Int).toNat]? = some (ys'[i]'(by omega)) := by
          have : i < ys'.size := by omega
          simp [this]
        wp_walk using AutoSeq1.wpAny_loadPart' g1', AutoSeq1.wpAny_loadPart' g2'
        rw [p1, p2]
        wp_walk
        exact q
theorem lst_asked {ne : Bool} {l b : Addr} {N : Nat} {J : Nat → Shared → Prop} (hJ : LstJ prog w A R ne l b N J) (last : ∀ s, J N s → R (.ok (.ret (.bool (!ne)))) s) {s : Shared} (h : J 0 s) :
    wpAny (model prog w) A.in1 ((if ne = true then Builtin.«list.__ne__» else Builtin.«list.__eq__») ⟨[.ref l, .ref b], []⟩) (GQ.FinOf prog w A R) (fun e t => R (.error e) t) s := by
  have go := lst_loop hJ last N 0 (Nat.sub_zero N) (Nat.zero_le _) s h
  obtain ⟨xs, ys, n, m, g1, g2, z1, z2, _⟩ := hJ 0 s h
  have sb := AutoSeq1.sub_list_list
  have zz : ¬ (xs.size != ys.size) = true := by simp [z1, z2]
  obtain ⟨hp, gg, dd, tk, os⟩ := s
  cases ne with
  | false =>
    simp only [Bool.false_eq_true, if_false] at go ⊢
    wp_walk using AutoSeq1.wpAny_loadPart' g1, AutoSeq1.wpAny_loadPart' g2
    exact ⟨plainId_quiet plain_eq_loop _, codeAny_builtin entry_eq_loop (by rw [Around.under_plainId plain_eq_loop _]; exact go)⟩
  | true =>
    simp only [if_true] at go ⊢
    wp_walk using AutoSeq1.wpAny_loadPart' g1, AutoSeq1.wpAny_loadPart' g2
    exact ⟨plainId_quiet plain_eq_loop _, codeAny_builtin entry_eq_loop (by rw [Around.under_plainId plain_eq_loop _]; exact go)⟩
end
section
variable {X : Cx} {n : Nat}
/-- lists of as many items, asked item by item -/
def AskL (D : Ask) : Ask := fun x y r H => ∃ (a b : Addr) (xs ys : List V) (rs : List Bool), x = .ref a ∧ y = .ref b ∧ H a = some (.lst xs) ∧ H b = some (.lst ys) ∧ xs.length = ys.length ∧ rs.length = xs.length ∧
  (∀ (i : Nat) (p q : V) (k : Bool), xs[i]? = some p → ys[i]? = some q → rs[i]? = some k → D p q k H) ∧ r = rs.all id
theorem rich_lst {D : Ask} (hm : AskM D) (h : Asks X n D) (ne : Bool) {A : Around} {pins : List (Addr × Obj)} {s : Shared} {σ : L2.St} {H : Hp} {x y : V} {r : Bool} {u v : Value} (sb : Sub X (n + 1) A) (I : Inv X pins σ H s) (rx : RelV x u) (ry : RelV y v) (d : AskL D x y r H) :
    wpAny (model X.prog X.w) A (richCompare (if ne = true then .NotEq else .Eq) u v) (fun k t => k = .bool (r ^^ ne) ∧ ∃ H', Inv X pins σ H' t ∧ Same H H') X.xe s := by
  obtain ⟨a, b, xs, ys, rs, rfl, rfl, ha, hb, hl, hr, hd, rfl⟩ := d
  cases rx
  cases ry
  have two : ∀ {t : Shared} {H1 : Hp}, Inv X pins σ H1 t → Same H H1 → ∃ (us vs : List Value) (k m : Nat), t.heap.get? a = some ⟨.type "list", none, .seq us.toArray k, #[]⟩ ∧ t.heap.get? b = some ⟨.type "list", none, .seq vs.toArray m, #[]⟩ ∧ Vals xs us ∧ Vals ys vs := fun {t H1} I1 sm => by
    obtain ⟨_, us, k, r1, e1⟩ := I1.hok a _ (sm _ _ ha)
    obtain ⟨_, vs, m, r2, e2⟩ := I1.hok b _ (sm _ _ hb)
    exact ⟨us, vs, k, m, e1, e2, r1, r2⟩
  have main : ∀ (R : Result → Shared → Prop), (∀ k t, (k = (rs.all id ^^ ne) ∧ ∃ H', Inv X pins σ H' t ∧ Same H H') → R (.ok (.ret (.bool k))) t) → (∀ e t, X.xe e t → R (.error e) t) →
      wpAny (model X.prog X.w) A.in1 ((if ne = true then Builtin.«list.__ne__» else Builtin.«list.__eq__») ⟨[.ref a, .ref b], []⟩) (GQ.FinOf X.prog X.w A R) (fun e t => R (.error e) t) s := by
    intro R hR hE
    refine lst_asked (ne := ne) (N := xs.length) (J := fun i t => (∃ H', Inv X pins σ H' t ∧ Same H H') ∧ ∀ j, j < i → rs[j]? = some true) (fun i t hJ => ?_) (fun t hJ => ?_) ⟨⟨H, I, Same.refl H⟩, fun j hj => absurd hj (Nat.not_lt_zero j)⟩
    · obtain ⟨⟨H1, I1, sm⟩, hj⟩ := hJ
      obtain ⟨us, vs, k, m, e1, e2, r1, r2⟩ := two I1 sm
      have l1 := r1.length
      have l2 := r2.length
      refine ⟨us.toArray, vs.toArray, k, m, e1, e2, by rw [List.size_toArray, ← l1], by rw [List.size_toArray, ← l2, ← hl], fun h1 h2 => ?_⟩
      have k1 : i < us.length := by simpa using h1
      have k2 : i < vs.length := by simpa using h2
      have i1 : i < xs.length := by omega
      have i2 : i < ys.length := by omega
      have i3 : i < rs.length := by omega
      obtain ⟨u, hu, ru⟩ := r1.get (List.getElem?_eq_getElem i1)
      obtain ⟨v, hv, rv⟩ := r2.get (List.getElem?_eq_getElem i2)
      have eu : us.toArray[i] = u := by
        have z : us[i]? = some us.toArray[i] := by rw [List.getElem?_eq_getElem k1] <;> simp
        rw [z] at hu
        exact Option.some.inj hu
      have ev : vs.toArray[i] = v := by
        have z : vs[i]? = some vs.toArray[i] := by rw [List.getElem?_eq_getElem k2] <;> simp
        rw [z] at hv
        exact Option.some.inj hv
      rw [eu, ev]
      have dd := hm _ _ _ _ _ sm (hd i _ _ _ (List.getElem?_eq_getElem i1) (List.getElem?_eq_getElem i2) (List.getElem?_eq_getElem i3))
      refine wpAny_mono (h sb.in1 I1 ru rv dd) (fun k t2 q => ?_) fun e t2 z => hE e t2 z
      obtain ⟨hk, H2, I2, sm2⟩ := q
      cases hc : rs[i] with
      | true =>
        rw [hc] at hk
        refine .inl ⟨hk, ⟨H2, I2, sm.trans sm2⟩, fun j hj2 => ?_⟩
        rcases Nat.lt_succ_iff_lt_or_eq.mp hj2 with z | z
        · exact hj j z
        · subst z
          rw [List.getElem?_eq_getElem i3, hc]
      | false =>
        rw [hc] at hk
        obtain ⟨us', vs', k', m', g1, g2, q1, q2⟩ := two I2 (sm.trans sm2)
        refine .inr ⟨hk, us'.toArray, vs'.toArray, k', m', g1, g2, by rw [List.size_toArray, ← q1.length], by rw [List.size_toArray, ← q2.length, ← hl], hR _ _ ⟨?_, H2, I2, sm.trans sm2⟩⟩
        have z : rs.all id = false := by
          rw [List.all_eq_false]
          exact ⟨false, by rw [← hc]; exact List.getElem_mem i3, by decide⟩
        rw [z, Bool.false_xor]
    · obtain ⟨⟨H1, I1, sm⟩, hj⟩ := hJ
      refine hR _ _ ⟨?_, H1, I1, sm⟩
      have z : rs.all id = true := by
        rw [List.all_eq_true]
        intro k hk
        obtain ⟨j, hj1, hj2⟩ := List.mem_iff_getElem.mp hk
        have := hj j (by rw [← hr]; exact hj1)
        rw [List.getElem?_eq_getElem hj1, hj2] at this
        exact Option.some.inj this
      rw [z, Bool.true_xor]
  obtain ⟨us, vs, k, m, e1, e2, _, _⟩ := two I (Same.refl H)
  cases ne with
  | false =>
    refine wpAny_richCompare_same_room (op := .Eq) ⟨_, e1, rfl⟩ ⟨_, e2, rfl⟩ F.slot_list_eq (GQ.call_here F.slot_list_eq ⟨_, e1, rfl⟩ F.entry_list_eq (F.args_list_eq_2 _ _) ?_) sb.room.units0
    exact main _ (fun k t q => ⟨(fun z => nomatch z), by rw [q.1], q.2⟩) fun e t z => z
  | true =>
    refine wpAny_richCompare_same_room (op := .NotEq) ⟨_, e1, rfl⟩ ⟨_, e2, rfl⟩ F.slot_list_ne (GQ.call_here F.slot_list_ne ⟨_, e1, rfl⟩ F.entry_list_ne (F.args_list_ne_2 _ _) ?_) sb.room.units0
    exact main _ (fun k t q => ⟨(fun z => nomatch z), by rw [q.1], q.2⟩) fun e t z => z
/-- x == y, x != y of lists -/
theorem op_askL {D : Ask} (hm : AskM D) (h : Asks X n D) (hr : Room (n + 1) X.A) (ne : Bool) : OpR X (compareOp (if ne = true then .NotEq else .Eq)) (rAsk ne (AskL D)) := by
  intro pins s σ H x y v u Q I rx ry ⟨r, d, q⟩
  have z := rich_lst hm h ne (A := X.A) ⟨hr, rfl⟩ I rx ry d
  have fin : wpAny (model X.prog X.w) X.A (richCompare (if ne = true then .NotEq else .Eq) v u) (EP X pins σ Q) X.xe s := by
    refine wpAny_mono z (fun k t g => ?_) fun _ _ w => w
    obtain ⟨rfl, H', I', sm⟩ := g
    exact ⟨.bl (r ^^ ne), H', I', rfl, q H' sm⟩
  cases ne with
  | false => exact fin
  | true => exact fin
end
end Sf

namespace Sf
open PySem PySem.Spec PyProof.Rows L2
/-! in a comprehension, K told ahead -/
section
variable {X : Cx} {K : PySem.W.Frag}
def rTupOf (K : PySem.W.Frag) : List V → Hp → VK → Prop := fun xs H Q => ∃ p ys, xs = [.ref p] ∧ ((SqL K H p ys ∧ ∀ l, H l = none → Q (.ref l) (upd H l (.tup ys))) ∨ (SqT K H p ys ∧ Q (.ref p) H))
theorem call_tupK (hK : X.K = K) : CallR X (.type "tuple") (rTupOf K) := hK ▸ call_tuple_of
def rListOf (K : PySem.W.Frag) : List V → Hp → VK → Prop := fun xs H Q => ∃ p ys, xs = [.ref p] ∧ (SqL K H p ys ∨ SqT K H p ys) ∧ ∀ l, H l = none → Q (.ref l) (upd H l (.lst ys))
theorem call_listK (hK : X.K = K) : CallR X (.type "list") (rListOf K) := hK ▸ call_list_of
theorem pi_listK {tg l : Expr} {tl : TE} (hK : X.K = K) (hl : PE X l tl) : PI X tg l (iList K tl) := hK ▸ pi_list hl
theorem pi_tupK {tg l : Expr} {tl : TE} (hK : X.K = K) (hl : PE X l tl) : PI X tg l (iTup K tl) := hK ▸ pi_tup hl
end
end Sf

namespace Sf
open PySem PySem.Spec PyProof.Rows L2
/-! what stands when a list changes -/
theorem at_updL {H : Hp} {D c : Addr} {ys : List V} {o u : HO} (hd : H D = some (.lst ys)) (h : H c = some o) (ho : ∀ xs, o ≠ .lst xs) : (upd H D u) c = some o := by
  rw [upd_ne (fun z => by
    rw [z, hd] at h
    exact ho ys (Option.some.inj h).symm)]
  exact h
theorem LF.updL {H : Hp} {D : Addr} {ys : List V} {u : HO} {v : V} {q : Q5} (hd : H D = some (.lst ys)) (h : LF H v q) : LF (upd H D u) v q := let ⟨t, e, h0, h1, h2⟩ := h; ⟨t, e, h0, at_updL hd h1 (fun _ => HO.noConfusion), at_updL hd h2 (fun _ => HO.noConfusion)⟩
section
variable {CR CA CF : Addr}
theorem RatioAt.updL {H : Hp} {D x : Addr} {ys : List V} {u : HO} {t b : Int} (hd : H D = some (.lst ys)) (h : RatioAt CR H x t b) : RatioAt CR (upd H D u) x t b := let ⟨dx, e⟩ := h; ⟨dx, at_updL hd e (fun _ => HO.noConfusion)⟩
theorem AlgAt.updL {H : Hp} {D x : Addr} {ys : List V} {u : HO} {a b : Int} (hd : H D = some (.lst ys)) (h : AlgAt CA H x a b) : AlgAt CA (upd H D u) x a b := by
  obtain ⟨dx, pl, l, h1, h2, h3⟩ := h.ex
  exact ⟨dx, pl, l, at_updL hd h1 (fun _ => HO.noConfusion), at_updL hd h2 (fun _ => HO.noConfusion), h3⟩
theorem FourAt.updL {H : Hp} {D x al : Addr} {ys : List V} {u : HO} {a b : Int} {q : Q5} (hd : H D = some (.lst ys)) (h : FourAt CF CR H x al a b q) : FourAt CF CR (upd H D u) x al a b q := by
  obtain ⟨dx, e, tr, nm, t1, t2, n1, n2, h1, h2, h3, h4, h5, h6⟩ := h.ex
  exact ⟨⟨dx, e, tr, nm, t1, t2, n1, n2, at_updL hd h1 (fun _ => HO.noConfusion), at_updL hd h2 (fun _ => HO.noConfusion), h3.updL hd, h4, h5.updL hd, h6⟩, h.pos, h.low⟩
theorem Wo.updL {H : Hp} {D x al : Addr} {ys : List V} {u : HO} {a b : Int} {e : Q5} {n : Nat} (hd : H D = some (.lst ys)) (h : Wo CF CR H x al a b e n) : Wo CF CR (upd H D u) x al a b e n := let ⟨r, h1, h2, h3⟩ := h.ex; ⟨⟨r, h1.updL hd, h2, h3⟩, h.d0⟩
theorem Rw.updL {H : Hp} {D x : Addr} {ys : List V} {u : HO} {t b : Int} (hd : H D = some (.lst ys)) (h : Rw CR H x t b) : Rw CR (upd H D u) x t b := let ⟨t', b', h1, h2⟩ := h.ex; ⟨⟨t', b', h1.updL hd, h2⟩, h.b0⟩
end
end Sf

namespace Sf
open PySem PySem.Spec PyProof.Rows L2
section
variable {P : Program} {w : World} {K : PySem.W.Frag} {mg : Str → Option Value} {base : Heap} {f : Addr} {fd : FuncData} {CR CA CF : Addr}
def spIsFour (CF : Addr) : Sp := fun vs H Q _ => ∃ x, vs = [.ref x] ∧ Ins H x CF ∧ Q .non H
theorem ok_check_four (F : FnD K "check_four" "check_four" s_P_check_four f fd) (T : Glob mg) (R : FourK K CF) (G_Four : mg "Four" = some (.ref CF)) : FnOk P w K mg base CX0 1 f fd ["value"] (spIsFour CF) := by
  refine F.ok sc_P_check_four (fun vs H Q E h => ?_) (fun cdv A outer s H vs Q E hr h => ?_)
  · obtain ⟨x, rfl, _⟩ := h; rfl
  · obtain ⟨x, rfl, hx, q⟩ := h
    refine ⟨_, PSs.nox (pss_one (ps_if (pt_not (pt_val (pe_callB call_isi (by rfl) T.m_isinstance (by decide +kernel) (pa_cons (pv 0) (pa_cons (pe_glob (v := .ref _) rfl G_Four rfl) pa_nil))))) (pss_one ps_never) pss_nil)), ?_⟩
    exact ⟨_, rfl, _, .ref CF, _, _, true, rfl, .own CF, R.own.ty hx, R.own.kk, _, rfl, q⟩
structure FoursP (CF CR CA : Addr) (vs : List V) (H : Hp) (Q : VK) : Prop where
  ex : ∃ (x y al be : Addr) (a b : Int) (p q : Q5), vs = [.ref x, .ref y] ∧ FourAt CF CR H x al a b p ∧ FourAt CF CR H y be a b q ∧ AlgAt CA H al a b ∧ AlgAt CA H be a b ∧ Q .non H
def spFours (CF CR CA : Addr) : Sp := fun vs H Q _ => FoursP CF CR CA vs H Q
theorem ok_check_fours (F : FnD K "check_fours" "check_fours" s_P_check_fours f fd) (R : FourK K CF) (C_P_check_four : Cal P w K mg base 1 "check_four" ["value"] (spIsFour CF)) (O_Algebra : OwnK K CA) (M_Algebra_eq : CalM P w K mg base 1 "__eq__" CA ["self", "value"] (spAlgEq CA)) :
    FnOk P w K mg base CX0 3 f fd ["one", "other"] (spFours CF CR CA) := by
  refine F.ok sc_P_check_fours (fun vs H Q E h => ?_) (fun cdv A outer s H vs Q E hr h => ?_)
  · obtain ⟨x, y, al, be, a, b, p, q, rfl, _⟩ := h.ex; rfl
  · obtain ⟨x, y, al, be, a, b, p, q5, rfl, hx, hy, ha, hb, q⟩ := h.ex
    refine ⟨_, PSs.nox (pss_cons (ps_expr (pe_cal C_P_check_four (hr.mono (by decide)) (pa_cons (pv 0) pa_nil)))
      (pss_cons (ps_expr (pe_cal C_P_check_four (hr.mono (by decide)) (pa_cons (pv 1) pa_nil)))
      (pss_one (ps_if (pt_cmpR (ne_own M_Algebra_eq.me M_Algebra_eq.ok (hr.mono (by decide)) M_Algebra_eq.b pass0 O_Algebra.ne O_Algebra.mo) (pe_fld (pv 0) rfl) (pe_fld (pv 1) rfl) (nomark _)) (pss_one ps_never) pss_nil)))), ?_⟩
    obtain ⟨d1, e1, t1, m1, _, _, _, _, h1, u1, _⟩ := hx.ex
    obtain ⟨d2, e2, t2, m2, _, _, _, _, h2, u2, _⟩ := hy.ex
    refine ⟨_, rfl, x, rfl, hx.ins, _, rfl, y, rfl, hy.ins, _, rfl, x, CF, d1, _, .ref al, rfl, h1, R.own.cls, R.n1, rfl, _, rfl, y, CF, d2, _, .ref be, rfl, h2, R.own.cls, R.n1, rfl, ?_⟩
    refine ⟨al, be, rfl, rfl, ha.ins, hb.ins, al, be, a, b, a, b, rfl, ha, hb, true, ⟨fun _ => ⟨rfl, rfl⟩, fun _ => rfl⟩, true, rfl, false, rfl, iteF ?_⟩
    exact q
/-- what a four leads another one to -/
def trnQ (a b : Int) (p q : Q5) : Q5 := prodQ a b (prodQ a b p q) (invQ a b p)
structure TurnedP (CF CR CA : Addr) (vs : List V) (H : Hp) (Q : VK) : Prop where
  ex : ∃ (x y al : Addr) (a b : Int) (e f : Q5) (m n : Nat), vs = [.ref x, .ref y] ∧ AlgAt CA H al a b ∧ a.natAbs < 2 ^ 10 ∧ b.natAbs < 2 ^ 10 ∧ Wo CF CR H x al a b e m ∧ Wo CF CR H y al a b f n ∧ m ≤ 260 ∧ n ≤ 260 ∧ normT a b e ≠ 0 ∧
    ∀ (z : Addr) (H' : Hp), Same H H' → Wo CF CR H' z al a b (trnQ a b e f) (3 * m + n + 106) → Q (.ref z) H'
def spTurned (CF CR CA : Addr) : Sp := fun vs H Q _ => TurnedP CF CR CA vs H Q
theorem ok_turned (F : FnD K "turned" "turned" s_P_turned f fd) (T : Glob mg) (R : FourK K CF) (C_P_check_fours : Cal P w K mg base 3 "check_fours" ["one", "other"] (spFours CF CR CA)) (O_Ratio : OwnK K CR) (O_Four : OwnK K CF) (M_Ratio_bool : CalM P w K mg base 1 "__bool__" CR ["self"] (spRatBool CR))
    (M_Four_mul : CalM P w K mg base 10 "__mul__" CF ["self", "other"] (spFourOp CF CR CA prodQ)) (M_Four_inverse : CalM P w K mg base 10 "inverse" CF ["self"] (spInverse CF CR CA)) : FnOk P w K mg base CX0 11 f fd ["one", "other"] (spTurned CF CR CA) := by
  refine F.ok sc_P_turned (fun vs H Q E h => ?_) (fun cdv A outer s H vs Q E hr h => ?_)
  · obtain ⟨x, y, al, a, b, e, f, m, n, rfl, _⟩ := h.ex; rfl
  · obtain ⟨x, y, al, a, b, e, f, m, n, rfl, hA, ba', bb', hx, hy, hm, hn, nz, q⟩ := h.ex
    refine ⟨_, PSs.nox (pss_cons (ps_expr (pe_cal C_P_check_fours (hr.mono (by decide)) (pa_cons (pv 0) (pa_cons (pv 1) pa_nil))))
      (pss_cons (ps_if (pt_not (pt_truthR (pe_fld (pv 0) rfl) (tru_own M_Ratio_bool.me M_Ratio_bool.ok (hr.mono (by decide)) M_Ratio_bool.b pass0) (fun _ => rfl))) (pss_one ps_never) pss_nil)
      (pss_one (ps_ret (pe_op (op_own (M_Four_mul.me.cast (by decide +kernel)) M_Four_mul.ok (hr.mono (by decide)) M_Four_mul.b pass0 O_Four.sf) (pe_op (op_own (M_Four_mul.me.cast (by decide +kernel)) M_Four_mul.ok (hr.mono (by decide)) M_Four_mul.b pass0 O_Four.sf) (pv 0) (pv 1)) (pe_meth0 (pv 0) O_Four.cls M_Four_inverse.me M_Four_inverse.ok (hr.mono (by decide)) M_Four_inverse.b .nil pass0)))))), ?_⟩
    have ba : a.natAbs < 2 ^ 20 := lt_mono ba' (by decide)
    have bb : b.natAbs < 2 ^ 20 := lt_mono bb' (by decide)
    obtain ⟨r, hF, hl, hb⟩ := id hx.ex
    obtain ⟨r2, hF2, hl2, hb2⟩ := id hy.ex
    obtain ⟨dx, e1, tr, nm, rr, g1, _, _, _, gT, gN⟩ := hx.fld
    obtain ⟨n1, n2, gR, gL⟩ := gN.ex
    have nz1 : (n1 != 0) = true := by
      have : n1 ≠ 0 := fun z => nz (by
        have h := gL.2.1
        rw [z, Int.zero_mul] at h
        rcases Int.mul_eq_zero.mp h with h | h
        · exact h
        · have := gL.1
          omega)
      simpa using this
    refine ⟨_, rfl, _, rfl, ⟨x, y, al, al, a, b, r, r2, rfl, hF, hF2, hA, hA, ?_⟩⟩
    refine ⟨_, rfl, x, CF, dx, _, .ref nm, rfl, g1, R.own.cls, R.n5, rfl, nm, rfl, gN.ins, nm, n1, n2, rfl, gR, _, rfl, ifnb (fun h => absurd (h.symm.trans nz1) (by decide)) (fun _ => ?_)⟩
    refine ⟨_, rfl, _, rfl, wo_mul ba bb hA hx hy (by omega) (by omega) fun z1 H1 s1 w1 => ?_⟩
    refine ⟨_, rfl, x, dx, _, rfl, s1 _ _ g1, rfl, wo_inverse ba' bb' (hA.same s1) (hx.same s1) (by omega) nz fun z2 H2 s2 w2 => ?_⟩
    have t2 := s1.trans s2
    refine wo_mul ba bb (hA.same t2) (w1.same s2) w2 (by omega) (by omega) fun z3 H3 s3 w3 => ?_
    exact q z3 H3 (t2.trans s3) (w3.mono (by omega))
end
end Sf

namespace Sf
open PySem PySem.Spec PyProof.Rows L2
def ent (q : Q5) (i : Nat) : Int := (entI q).getD i 0
def unitQ : Nat → Q5
  | 0 => ⟨0, 1, 0, 0, 1⟩
  | 1 => ⟨0, 0, 1, 0, 1⟩
  | _ => ⟨0, 0, 0, 1, 1⟩
theorem ent_at {q : Q5} {i : Nat} (hi : i < 4) : ((entI q).map V.int)[i]? = some (.int (ent q i)) := by
  have c : i = 0 ∨ i = 1 ∨ i = 2 ∨ i = 3 := by omega
  rcases c with rfl | rfl | rfl | rfl <;> rfl
theorem ent_cross {e r : Q5} (h : Cross e r) {i : Nat} (hi : i < 4) : ent e i * r.d = ent r i * e.d := by
  have c : i = 0 ∨ i = 1 ∨ i = 2 ∨ i = 3 := by omega
  rcases c with rfl | rfl | rfl | rfl
  · exact h.1
  · exact h.2.1
  · exact h.2.2.1
  · exact h.2.2.2
/-- an entry of the turn of a four: row i, column j -/
def turnM (a b : Int) (e : Q5) (i j : Nat) : Int × Int := (ent (trnQ a b e (unitQ j)) (i + 1), (trnQ a b e (unitQ j)).d)
section
variable {P : Program} {w : World} {K : PySem.W.Frag} {mg : Str → Option Value} {base : Heap} {f : Addr} {fd : FuncData} {CR CA CF : Addr}
/-- three ratios in a tuple -/
structure RowOk (CR : Addr) (H : Hp) (m : Nat → Nat → Int × Int) (i : Nat) (r : Addr) : Prop where
  ex : ∃ x0 x1 x2, H r = some (.tup [.ref x0, .ref x1, .ref x2]) ∧ Rw CR H x0 (m i 0).1 (m i 0).2 ∧ Rw CR H x1 (m i 1).1 (m i 1).2 ∧ Rw CR H x2 (m i 2).1 (m i 2).2
theorem RowOk.same {H H' : Hp} {m : Nat → Nat → Int × Int} {i : Nat} {r : Addr} (h : RowOk CR H m i r) (s : Same H H') : RowOk CR H' m i r := let ⟨x0, x1, x2, h0, h1, h2, h3⟩ := h.ex; ⟨x0, x1, x2, s _ _ h0, h1.same s, h2.same s, h3.same s⟩
theorem RowOk.updL {H : Hp} {D : Addr} {ys : List V} {u : HO} {m : Nat → Nat → Int × Int} {i : Nat} {r : Addr} (hd : H D = some (.lst ys)) (h : RowOk CR H m i r) : RowOk CR (upd H D u) m i r := let ⟨x0, x1, x2, h0, h1, h2, h3⟩ := h.ex; ⟨x0, x1, x2, at_updL hd h0 (fun _ => HO.noConfusion), h1.updL hd, h2.updL hd, h3.updL hd⟩
theorem RowOk.keep {H H' : Hp} {p : Addr} {n : Nat} {m : Nat → Nat → Int × Int} {i : Nat} {r : Addr} (h : RowOk CR H m i r) (s : Sk p n H) (k : Keep p H H') : RowOk CR H' m i r := let ⟨x0, x1, x2, h0, h1, h2, h3⟩ := h.ex; ⟨x0, x1, x2, keep_at s k h0 (fun _ => HO.noConfusion), h1.keep s k, h2.keep s k, h3.keep s k⟩
/-- a table of ratios -/
structure Tab (CR : Addr) (H : Hp) (t : Addr) (m : Nat → Nat → Int × Int) : Prop where
  ex : ∃ r0 r1 r2, H t = some (.tup [.ref r0, .ref r1, .ref r2]) ∧ RowOk CR H m 0 r0 ∧ RowOk CR H m 1 r1 ∧ RowOk CR H m 2 r2
theorem Tab.same {H H' : Hp} {m : Nat → Nat → Int × Int} {t : Addr} (h : Tab CR H t m) (s : Same H H') : Tab CR H' t m := let ⟨x0, x1, x2, h0, h1, h2, h3⟩ := h.ex; ⟨x0, x1, x2, s _ _ h0, h1.same s, h2.same s, h3.same s⟩
theorem Tab.updL {H : Hp} {D : Addr} {ys : List V} {u : HO} {m : Nat → Nat → Int × Int} {t : Addr} (hd : H D = some (.lst ys)) (h : Tab CR H t m) : Tab CR (upd H D u) t m := let ⟨x0, x1, x2, h0, h1, h2, h3⟩ := h.ex; ⟨x0, x1, x2, at_updL hd h0 (fun _ => HO.noConfusion), h1.updL hd, h2.updL hd, h3.updL hd⟩
theorem Tab.keep {H H' : Hp} {p : Addr} {n : Nat} {m : Nat → Nat → Int × Int} {t : Addr} (h : Tab CR H t m) (s : Sk p n H) (k : Keep p H H') : Tab CR H' t m := let ⟨x0, x1, x2, h0, h1, h2, h3⟩ := h.ex; ⟨x0, x1, x2, keep_at s k h0 (fun _ => HO.noConfusion), h1.keep s k, h2.keep s k, h3.keep s k⟩
structure EntryP (CF CR : Addr) (vs : List V) (H : Hp) (Q : VK) : Prop where
  ex : ∃ (x al : Addr) (a b : Int) (e : Q5) (n i : Nat) (j : Int), vs = [.ref x, .int j] ∧ j = (i : Int) ∧ Wo CF CR H x al a b e n ∧ i < 4 ∧ n ≤ 8000 ∧ ∀ (z : Addr) (H' : Hp), Same H H' → Rw CR H' z (ent e i) e.d → Q (.ref z) H'
def spEntry (CF CR : Addr) : Sp := fun vs H Q _ => EntryP CF CR vs H Q
theorem ok_entry_of (F : FnD K "entry_of" "entry_of" s_P_entry_of f fd) (R : FourK K CF) (C_P_made_ratio : Cal P w K mg base 5 "made_ratio" ["top", "bottom"] (spMadeRatio CR)) : FnOk P w K mg base CX0 6 f fd ["four", "at"] (spEntry CF CR) := by
  refine F.ok sc_P_entry_of (fun vs H Q E h => ?_) (fun cdv A outer s H vs Q E hr h => ?_)
  · obtain ⟨x, al, a, b, e, n, i, j, rfl, _⟩ := h.ex; rfl
  · obtain ⟨x, al, a, b, e, n, i, j, rfl, rfl, hx, hi, hn, q⟩ := h.ex
    refine ⟨_, PSs.nox (pss_one (ps_ret (pe_cal C_P_made_ratio (hr.mono (by decide)) (pa_cons (pe_ix ix_tup (pe_fld (pv 0) rfl) (pv 1) (fun _ _ => rfl)) (pa_cons (pe_fld (pv 0) rfl) pa_nil))))), ?_⟩
    obtain ⟨dx, e1, tr, nm, r, g1, u1, hl, hb, _, _⟩ := hx.fld
    have r0 : r.d ≠ 0 := by have := hl.1; omega
    refine ⟨_, rfl, x, CF, dx, _, .ref e1, rfl, g1, R.own.cls, R.n2, rfl, _, rfl, e1, (entI r).map V.int, _, _, rfl, rfl, SqT.of u1, atI_nat (ent_at hi), ?_⟩
    refine ⟨_, rfl, x, CF, dx, _, .int r.d, rfl, g1, R.own.cls, R.n3, rfl, ?_⟩
    exact ⟨_, _, rfl, r0, lt_mono hb.2.2.2.2 hn, fun u v z H' hl2 hz s hR => q z H' s ⟨⟨u, v, hR, lowT_tr hl2 (ent_cross hl.cross hi) r0⟩, hx.d0⟩⟩
structure TurnOfP (CF CR CA : Addr) (vs : List V) (H : Hp) (Q : VK) : Prop where
  ex : ∃ (x al : Addr) (a b : Int) (e : Q5) (m : Nat), vs = [.ref x] ∧ AlgAt CA H al a b ∧ a.natAbs < 2 ^ 10 ∧ b.natAbs < 2 ^ 10 ∧ Wo CF CR H x al a b e m ∧ m ≤ 260 ∧ normT a b e ≠ 0 ∧ ∀ (t : Addr) (H' : Hp), Same H H' → Tab CR H' t (turnM a b e) → Q (.ref t) H'
def spTurnOf (CF CR CA : Addr) : Sp := fun vs H Q _ => TurnOfP CF CR CA vs H Q
set_option maxHeartbeats 8000000 in
theorem ok_turn_of (F : FnD K "turn_of" "turn_of" s_P_turn_of f fd) (T : Glob mg) (R : FourK K CF) (C_P_check_four : Cal P w K mg base 1 "check_four" ["value"] (spIsFour CF)) (C_P_turned : Cal P w K mg base 11 "turned" ["one", "other"] (spTurned CF CR CA)) (C_P_entry_of : Cal P w K mg base 6 "entry_of" ["four", "at"] (spEntry CF CR))
    (O_Ratio : OwnK K CR) (O_Algebra : OwnK K CA) (M_Ratio_bool : CalM P w K mg base 1 "__bool__" CR ["self"] (spRatBool CR)) (M_Algebra_basis : CalM P w K mg base 9 "basis" CA ["self"] (spBasis CF CR CA)) : FnOk P w K mg base CX0 12 f fd ["four"] (spTurnOf CF CR CA) := by
  refine F.ok sc_P_turn_of (fun vs H Q E h => ?_) (fun cdv A outer s H vs Q E hr h => ?_)
  · obtain ⟨x, al, a, b, e, m, rfl, _⟩ := h.ex; rfl
  · obtain ⟨x, al, a, b, e, m, rfl, hA, ba, bb, hx, hm, nz, q⟩ := h.ex
    refine ⟨_, PSs.nox (pss_cons (ps_expr (pe_cal C_P_check_four (hr.mono (by decide)) (pa_cons (pv 0) pa_nil)))
      (pss_cons (ps_if (pt_not (pt_truthR (pe_fld (pv 0) rfl) (tru_own M_Ratio_bool.me M_Ratio_bool.ok (hr.mono (by decide)) M_Ratio_bool.b pass0) (fun _ => rfl))) (pss_one ps_never) pss_nil)
      (pss_cons (ps_set (i := 1) sc_P_turn_of.nd rfl (Or.inr rfl) (pe_lc rfl sc_P_turn_of.nd (own := [("unit", 2)]) (pi_tup (pe_slice sl_tup (pe_meth0 (pe_fld (pv 0) rfl) O_Algebra.cls M_Algebra_basis.me M_Algebra_basis.ok (hr.mono (by decide)) M_Algebra_basis.b .nil pass0) (po_some pe_int) po_none)) (blkOk_by (N := ["four", "columns", "unit", "column", "at"]) (sc := defScope s_P_turn_of) (by decide +kernel)) (fun _ _ _ _ _ => pg_name (i := 2) sc_P_turn_of.nd rfl (Or.inl rfl)) (fun _ _ _ _ _ => pts_nil) (fun _ _ _ _ _ => (pe_cal C_P_turned (hr.mono (by decide)) (pa_cons (pv 0) (pa_cons (pv 2) pa_nil))))))
      (pss_one (ps_ret (pe_callTy call_tuple_of (by rfl) T.m_tuple (by decide +kernel) (pa_cons (pe_lc rfl sc_P_turn_of.nd (own := [("at", 4)]) (pi_range2 (by rfl) T.m_range (pa_cons pe_int (pa_cons pe_int pa_nil))) (blkOk_by (N := ["four", "columns", "unit", "column", "at"]) (sc := defScope s_P_turn_of) (by decide +kernel)) (fun _ _ _ _ _ => pg_name (i := 4) sc_P_turn_of.nd rfl (Or.inr rfl)) (fun _ _ _ _ _ => pts_nil) (fun _ _ _ _ _ => (pe_callTy (call_tupK (K := K) rfl) (by rfl) T.m_tuple (by decide +kernel) (pa_cons (pe_lc rfl sc_P_turn_of.nd (own := [("column", 3)]) (pi_listK (K := K) rfl (pv 1)) (blkOk_by (by kernel_rfl)) (fun _ _ _ _ _ => pg_name (i := 3) sc_P_turn_of.nd rfl (Or.inl rfl)) (fun _ _ _ _ _ => pts_nil) (fun _ _ _ _ _ => (pe_cal C_P_entry_of (hr.mono (by decide)) (pa_cons (pv 3) (pa_cons (pv 4) pa_nil))))) pa_nil)))) pa_nil))))))), ?_⟩
    obtain ⟨dx, e1, tr, nm, rr, g1, _, _, _, gT, gN⟩ := hx.fld
    obtain ⟨n1, n2, gR, gL⟩ := gN.ex
    have nz1 : (n1 != 0) = true := by
      have : n1 ≠ 0 := fun z => nz (by
        have h := gL.2.1
        rw [z, Int.zero_mul] at h
        rcases Int.mul_eq_zero.mp h with h | h
        · exact h
        · have := gL.1
          omega)
      simpa using this
    refine ⟨_, rfl, x, rfl, hx.ins, _, rfl, x, CF, dx, _, .ref nm, rfl, g1, R.own.cls, R.n5, rfl, nm, rfl, gN.ins, nm, n1, n2, rfl, gR, _, rfl, ifnb (fun h => absurd (h.symm.trans nz1) (by decide)) (fun _ => ?_)⟩
    obtain ⟨dA, pl, l, hA1, _⟩ := id hA.ex
    refine ⟨_, rfl, x, CF, dx, _, .ref al, rfl, g1, R.own.cls, R.n1, rfl, al, dA, _, rfl, hA1, rfl, ⟨al, a, b, rfl, hA, fun u0 u1 u2 u3 tt H1 s1 ht f0 f1 f2 f3 => ?_⟩⟩
    refine ⟨1, rfl, tt, _, rfl, SqT.of ht, fun z => absurd z.1 (by rw [show HT.sIx [V.ref u0, V.ref u1, V.ref u2, V.ref u3].length 0 (some 1) = min 1 4 from HT.sIx_nat 4 0 1]; decide), fun c hc => ?_⟩
    rw [cut_tail4]
    have kc := same_upd (o := .tup [V.ref u1, V.ref u2, V.ref u3]) hc
    have hcS : (upd H1 c (.tup [V.ref u1, V.ref u2, V.ref u3])) c = some (.tup [V.ref u1, V.ref u2, V.ref u3]) := upd_same
    have s2 := s1.trans kc
    replace hA := hA.same s2
    replace hx := hx.same s2
    have uu : ∀ j, j < 3 → ∃ u, [V.ref u1, V.ref u2, V.ref u3][j]? = some (.ref u) ∧ Wo CF CR (upd H1 c (.tup [V.ref u1, V.ref u2, V.ref u3])) u al a b (unitQ j) 2 := fun j hj => by
      have c : j = 0 ∨ j = 1 ∨ j = 2 := by omega
      have w1 := Wo.of (n := 2) (f1.same kc) ⟨by decide, by decide, by decide, by decide, by decide⟩
      have w2 := Wo.of (n := 2) (f2.same kc) ⟨by decide, by decide, by decide, by decide, by decide⟩
      have w3 := Wo.of (n := 2) (f3.same kc) ⟨by decide, by decide, by decide, by decide, by decide⟩
      rcases c with rfl | rfl | rfl
      · exact ⟨u1, rfl, w1⟩
      · exact ⟨u2, rfl, w2⟩
      · exact ⟨u3, rfl, w3⟩
    clear f0 f1 f2 f3 ht hc kc s1
    generalize (upd H1 c (.tup [V.ref u1, V.ref u2, V.ref u3])) = H2 at *
    replace q : ∀ (t : Addr) (H' : Hp), Same H2 H' → Tab CR H' t (turnM a b e) → Q (.ref t) H' := fun t H' s => q t H' (s2.trans s)
    clear s2
    refine ⟨c, rfl, ⟨_, SqT.of hcS⟩, fun D hD => lc_tup (K := K) (a := c) (xs := [V.ref u1, V.ref u2, V.ref u3]) (fun i H' => ∃ xs : List Addr, xs.length = i ∧ (∀ j, j < i → ∃ z, xs[j]? = some z ∧ Wo CF CR H' z al a b (trnQ a b e (unitQ j)) 900) ∧ Same H2 H' ∧ H' D = some (.lst (xs.map V.ref))) ⟨[], rfl, fun j hj => absurd hj (Nat.not_lt_zero j), same_upd hD, upd_same⟩ (fun i H' hi hP => SqT.of (hP.choose_spec.2.2.1 _ _ hcS)) (fun i v H' hv hP => ?_) (fun H' hP => ?_)⟩
    · obtain ⟨xs, hl, hw, k2, hd⟩ := hP
      have hi : i < 3 := by
        rcases Nat.lt_or_ge i 3 with c | c
        · exact c
        · rw [List.getElem?_eq_none (by show 3 ≤ i; exact c)] at hv
          cases hv
      obtain ⟨u, hu, wu⟩ := uu i hi
      rw [hu] at hv
      cases hv
      refine ⟨rfl, _, rfl, _, rfl, ⟨x, u, al, a, b, e, unitQ i, m, 2, rfl, hA.same k2, ba, bb, hx.same k2, wu.same k2, hm, by decide, nz, fun z H3 k3 w3 => ?_⟩⟩
      have hd3 := k3 _ _ hd
      refine ⟨_, hd3, ?_, xs ++ [z], ?_, fun j hj => ?_, fun d o ed => ?_, ?_⟩
      · rw [List.length_map, hl]
        exact Nat.lt_of_lt_of_le (by omega : i < 1000000) (by decide)
      · rw [List.length_append, hl]; rfl
      · rcases Nat.lt_succ_iff_lt_or_eq.mp hj with h | h
        · obtain ⟨y, hy, wy⟩ := hw j h
          exact ⟨y, by rw [List.getElem?_append_left (by omega)]; exact hy, (wy.same k3).updL hd3⟩
        · subst h
          exact ⟨z, by rw [List.getElem?_append_right (by omega), hl, Nat.sub_self]; rfl, (w3.mono (by omega)).updL hd3⟩
      · rw [upd_ne (ne_of_none ed hD)]
        exact k3 _ _ (k2 _ _ ed)
      · rw [upd_same, List.map_append]; rfl
    · obtain ⟨xs, hl, hw, k2, hd⟩ := hP
      have k0 : Same H2 H' := k2
      refine ⟨1, 4, rfl, ⟨by decide, by decide, by decide, by decide⟩, fun D2 hD2 => lc_range (lo := 1) (n := 3) (fun i H3 => ∃ rs : List Addr, rs.length = i ∧ (∀ k r, rs[k]? = some r → RowOk CR H3 (turnM a b e) k r) ∧ Same H' H3 ∧ H3 D2 = some (.lst (rs.map V.ref))) ⟨[], rfl, fun k r h => by simp at h, same_upd hD2, upd_same⟩ (fun i H3 hi hP => ?_) (fun H3 hP => ?_)⟩
      · obtain ⟨rs, hrl, hrw, k3, hd3⟩ := hP
        have hdD := k3 _ _ hd
        refine ⟨rfl, _, rfl, D, rfl, ⟨_, SqL.of hdD⟩, fun D3 hD3 => lc_list (K := K) (a := D) (xs := xs.map V.ref) (fun j H4 => ∃ ys : List Addr, ys.length = j ∧ (∀ k y, ys[k]? = some y → Rw CR H4 y (turnM a b e i k).1 (turnM a b e i k).2) ∧ Same H3 H4 ∧ H4 D3 = some (.lst (ys.map V.ref))) ⟨[], rfl, fun k y h => by simp at h, same_upd hD3, upd_same⟩ (fun j H4 hj hP => SqL.of (hP.choose_spec.2.2.1 _ _ hdD)) (fun j v H4 hv hP => ?_) (fun H4 hP => ?_)⟩
        · obtain ⟨ys, hyl, hyw, k4, hd4⟩ := hP
          have hj : j < 3 := by
            rcases Nat.lt_or_ge j 3 with c | c
            · exact c
            · rw [List.getElem?_eq_none (by rw [List.length_map, hl]; exact c)] at hv
              cases hv
          obtain ⟨z, hz, wz⟩ := hw j hj
          rw [List.getElem?_map, hz] at hv
          cases hv
          refine ⟨rfl, _, rfl, _, rfl, ⟨z, al, a, b, trnQ a b e (unitQ j), 900, i + 1, _, rfl, by omega, (wz.same k3).same k4, by omega, by decide, fun w H5 k5 w5 => ?_⟩⟩
          have hd5 := k5 _ _ hd4
          refine ⟨_, hd5, ?_, ys ++ [w], ?_, fun k y hk => ?_, fun d o ed => ?_, ?_⟩
          · rw [List.length_map, hyl]
            exact Nat.lt_of_lt_of_le (by omega : j < 1000000) (by decide)
          · rw [List.length_append, hyl]; rfl
          · rcases Nat.lt_or_ge k ys.length with h | h
            · rw [List.getElem?_append_left h] at hk
              exact ((hyw k y hk).same k5).updL hd5
            · rw [List.getElem?_append_right h] at hk
              have k0 : k = ys.length := by
                rcases Nat.lt_or_ge (k - ys.length) 1 with c | c
                · omega
                · rw [List.getElem?_eq_none (by simpa using c)] at hk
                  cases hk
              rw [k0, Nat.sub_self] at hk
              cases hk
              rw [k0, hyl]
              exact w5.updL hd5
          · rw [upd_ne (ne_of_none ed hD3)]
            exact k5 _ _ (k4 _ _ ed)
          · rw [upd_same, List.map_append]; rfl
        · obtain ⟨ys, hyl, hyw, k4, hd4⟩ := hP
          rw [List.length_map, hl] at hyl
          obtain ⟨x0, x1, x2, rfl⟩ : ∃ a b c : Addr, ys = [a, b, c] := by
            match ys, hyl with
            | [a, b, c], _ => exact ⟨a, b, c, rfl⟩
          refine ⟨D3, _, rfl, .inl ⟨SqL.of hd4, fun t ht => ?_⟩⟩
          have kt := same_upd (o := .tup [V.ref x0, V.ref x1, V.ref x2]) ht
          have hdt := kt _ _ (k4 _ _ hd3)
          have row : RowOk CR (upd H4 t (.tup [V.ref x0, V.ref x1, V.ref x2])) (turnM a b e) i t := ⟨x0, x1, x2, upd_same, (hyw 0 x0 rfl).same kt, (hyw 1 x1 rfl).same kt, (hyw 2 x2 rfl).same kt⟩
          refine ⟨_, hdt, ?_, rs ++ [t], ?_, fun k r hk => ?_, fun d o ed => ?_, ?_⟩
          · rw [List.length_map, hrl]
            exact Nat.lt_of_lt_of_le (by omega : i < 1000000) (by decide)
          · rw [List.length_append, hrl]; rfl
          · rcases Nat.lt_or_ge k rs.length with h | h
            · rw [List.getElem?_append_left h] at hk
              exact (((hrw k r hk).same k4).same kt).updL hdt
            · rw [List.getElem?_append_right h] at hk
              have k0 : k = rs.length := by
                rcases Nat.lt_or_ge (k - rs.length) 1 with c | c
                · omega
                · rw [List.getElem?_eq_none (by simpa using c)] at hk
                  cases hk
              rw [k0, Nat.sub_self] at hk
              cases hk
              rw [k0, hrl]
              exact row.updL hdt
          · rw [upd_ne (ne_of_none ed hD2)]
            exact kt _ _ (k4 _ _ (k3 _ _ ed))
          · rw [upd_same, List.map_append]; rfl
      · obtain ⟨rs, hrl, hrw, k3, hd3⟩ := hP
        obtain ⟨r0, r1, r2, rfl⟩ : ∃ a b c : Addr, rs = [a, b, c] := by
          match rs, hrl with
          | [a, b, c], _ => exact ⟨a, b, c, rfl⟩
        refine ⟨D2, _, rfl, .inl ⟨SqL.of hd3, fun t ht => ?_⟩⟩
        have kt := same_upd (o := .tup [V.ref r0, V.ref r1, V.ref r2]) ht
        exact q t _ ((k0.trans k3).trans kt) ⟨r0, r1, r2, upd_same, (hrw 0 r0 rfl).same kt, (hrw 1 r1 rfl).same kt, (hrw 2 r2 rfl).same kt⟩
end
end Sf

namespace Sf
open PySem PySem.Spec PyProof.Rows L2
/-! tables and lists of ratios compared -/
def DRat (CR : Addr) : Addr → Addr → Bool → Hp → Prop := fun x y r H => ∃ t b s c, Rw CR H x t b ∧ Rw CR H y s c ∧ (r = true ↔ t * c = s * b)
section
variable {X : Cx} {CX : CXT} {f CR : Addr} {fd : FuncData} {ps : List Str} {E : XK}
theorem rat_refl {x : Addr} {r : Bool} {H : Hp} (d : DRat CR x x r H) : r = true := by
  obtain ⟨t, b, s, c, h1, h2, h3⟩ := d
  refine h3.mpr ?_
  obtain ⟨t1, b1, ⟨d1, r1⟩, l1⟩ := h1.ex
  obtain ⟨t2, b2, ⟨d2, r2⟩, l2⟩ := h2.ex
  have e := r1.symm.trans r2
  have e2 := HO.ins.inj (Option.some.inj e)
  have e3 := e2.2.2
  injection e3 with q1 q2
  injection q2 with q3 q4
  have q1 := V.int.inj (Prod.mk.inj q1).2
  have q3 := V.int.inj (Prod.mk.inj q3).2
  subst q1 q3
  have z : b1 ≠ 0 := by have := l1.1; omega
  exact cr1 l1.2.1 l2.2.1.symm z
theorem asks_rat (M : Meth X.K CR "__eq__" f) (F : FnOk X.prog X.w X.K X.mg X.base CX 2 f fd ps (spRatEq CR)) (hb : Binds X.K fd ps []) (hx : Passes CX X E) : Asks X 2 (AskO (DRat CR)) :=
  asks_own M F hb hx (fun ⟨_, _, _, _, h1, h2, _⟩ => ⟨h1.ins, h2.ins⟩) (fun {a b r H} ⟨t, u, s, c, h1, h2, h3⟩ => rw_uni h1 h2 (r = true) h3 ⟨by simp, Same.refl H⟩) (fun d => rat_refl d)
theorem askM_rat : AskM (AskO (DRat CR)) := askM_own fun s ⟨t, b, u, c, h1, h2, h3⟩ => ⟨t, b, u, c, h1.same s, h2.same s, h3⟩
theorem askR_rat : AskR X (AskO (DRat CR)) := askR_own fun d => rat_refl d
def eqM (m m' : Nat → Nat → Int × Int) (i j : Nat) : Prop := (m i j).1 * (m' i j).2 = (m' i j).1 * (m i j).2
instance (m m' : Nat → Nat → Int × Int) (i j : Nat) : Decidable (eqM m m' i j) := by unfold eqM; infer_instance
/-- whether two tables are equal -/
def eqT (m m' : Nat → Nat → Int × Int) : Prop := ∀ i j, i < 3 → j < 3 → eqM m m' i j
theorem row_ask {K : PySem.W.Frag} {H : Hp} {m m' : Nat → Nat → Int × Int} {i : Nat} {r r' : Addr} (h : RowOk CR H m i r) (h' : RowOk CR H m' i r') : AskT K (AskO (DRat CR)) (.ref r) (.ref r') (decide (eqM m m' i 0) && (decide (eqM m m' i 1) && decide (eqM m m' i 2))) H := by
  obtain ⟨x0, x1, x2, g, a0, a1, a2⟩ := h.ex
  obtain ⟨y0, y1, y2, g', b0, b1, b2⟩ := h'.ex
  refine ⟨r, r', _, _, [decide (eqM m m' i 0), decide (eqM m m' i 1), decide (eqM m m' i 2)], rfl, rfl, SqT.of g, SqT.of g', rfl, rfl, fun j p q k e1 e2 e3 => ?_, by simp⟩
  match j, e1, e2, e3 with
  | 0, e1, e2, e3 => cases e1; cases e2; cases e3; exact ⟨x0, y0, rfl, rfl, _, _, _, _, a0, b0, decide_eq_true_iff⟩
  | 1, e1, e2, e3 => cases e1; cases e2; cases e3; exact ⟨x1, y1, rfl, rfl, _, _, _, _, a1, b1, decide_eq_true_iff⟩
  | 2, e1, e2, e3 => cases e1; cases e2; cases e3; exact ⟨x2, y2, rfl, rfl, _, _, _, _, a2, b2, decide_eq_true_iff⟩
  | j + 3, e1, _, _ => cases e1
def rTab (ne : Bool) (CR : Addr) : R2 := fun x y H Q => ∃ (t u : Addr) (m m' : Nat → Nat → Int × Int), x = .ref t ∧ y = .ref u ∧ Tab CR H t m ∧ Tab CR H u m' ∧ ∀ (r : Bool) (H' : Hp), (r = true ↔ eqT m m') → Same H H' → Q (.bl (r ^^ ne)) H'
theorem tab_ask {K : PySem.W.Frag} {ne : Bool} {x y : V} {H : Hp} {Q : VK} (h : rTab ne CR x y H Q) : rAsk ne (AskT K (AskT K (AskO (DRat CR)))) x y H Q := by
  obtain ⟨t, u, m, m', rfl, rfl, h1, h2, q⟩ := h
  obtain ⟨r0, r1, r2, g, a0, a1, a2⟩ := h1.ex
  obtain ⟨s0, s1, s2, g', b0, b1, b2⟩ := h2.ex
  have eR : ∀ i, (decide (eqM m m' i 0) && (decide (eqM m m' i 1) && decide (eqM m m' i 2))) = true ↔ ∀ j, j < 3 → eqM m m' i j := fun i => by
    simp only [Bool.and_eq_true, decide_eq_true_iff]
    constructor
    · rintro ⟨h0, h1, h2⟩ j hj
      match j, hj with
      | 0, _ => exact h0
      | 1, _ => exact h1
      | 2, _ => exact h2
    · exact fun h => ⟨h 0 (by decide), h 1 (by decide), h 2 (by decide)⟩
  let R : Nat → Bool := fun i => decide (eqM m m' i 0) && (decide (eqM m m' i 1) && decide (eqM m m' i 2))
  refine ⟨_, ⟨t, u, _, _, [R 0, R 1, R 2], rfl, rfl, SqT.of g, SqT.of g', rfl, rfl, fun j p q k e1 e2 e3 => ?_, rfl⟩, fun H' s => q _ H' ?_ s⟩
  · match j, e1, e2, e3 with
    | 0, e1, e2, e3 => cases e1; cases e2; cases e3; exact row_ask a0 b0
    | 1, e1, e2, e3 => cases e1; cases e2; cases e3; exact row_ask a1 b1
    | 2, e1, e2, e3 => cases e1; cases e2; cases e3; exact row_ask a2 b2
    | j + 3, e1, _, _ => cases e1
  · have q0 : R 0 = true ↔ _ := eR 0
    have q1 : R 1 = true ↔ _ := eR 1
    have q2 : R 2 = true ↔ _ := eR 2
    have a3 : ([R 0, R 1, R 2].all id) = true ↔ R 0 = true ∧ R 1 = true ∧ R 2 = true := by
      generalize R 0 = a
      generalize R 1 = b
      generalize R 2 = c
      cases a <;> cases b <;> cases c <;> decide
    rw [a3, q0, q1, q2]
    constructor
    · rintro ⟨h0, h1, h2⟩ i j hi hj
      match i, hi with
      | 0, _ => exact h0 j hj
      | 1, _ => exact h1 j hj
      | 2, _ => exact h2 j hj
    · exact fun h => ⟨fun j hj => h 0 j (by decide) hj, fun j hj => h 1 j (by decide) hj, fun j hj => h 2 j (by decide) hj⟩
theorem op_tabE (M : Meth X.K CR "__eq__" f) (F : FnOk X.prog X.w X.K X.mg X.base CX 2 f fd ps (spRatEq CR)) (hb : Binds X.K fd ps []) (hx : Passes CX X E) (hr : Room 4 X.A) : OpR X (compareOp .Eq) (rTab false CR) := fun pins s σ H x y v u Q I rx ry h =>
  op_ask (askM_tup askM_rat) (asks_tup askM_rat askR_rat (asks_rat M F hb hx)) hr false pins s σ H x y v u Q I rx ry (tab_ask h)
theorem op_tabN (M : Meth X.K CR "__eq__" f) (F : FnOk X.prog X.w X.K X.mg X.base CX 2 f fd ps (spRatEq CR)) (hb : Binds X.K fd ps []) (hx : Passes CX X E) (hr : Room 4 X.A) : OpR X (compareOp .NotEq) (rTab true CR) := fun pins s σ H x y v u Q I rx ry h =>
  op_ask (askM_tup askM_rat) (asks_tup askM_rat askR_rat (asks_rat M F hb hx)) hr true pins s σ H x y v u Q I rx ry (tab_ask h)
/-- lists of ratios that are equal one by one: != is False -/
def rRatL (CR : Addr) : R2 := fun x y H Q => ∃ (a b : Addr) (xs ys : List Addr), x = .ref a ∧ y = .ref b ∧ H a = some (.lst (xs.map V.ref)) ∧ H b = some (.lst (ys.map V.ref)) ∧ xs.length = ys.length ∧ (∀ (i : Nat) (p q : Addr), xs[i]? = some p → ys[i]? = some q → DRat CR p q true H) ∧ ∀ H', Same H H' → Q (.bl false) H'
theorem op_ratL (M : Meth X.K CR "__eq__" f) (F : FnOk X.prog X.w X.K X.mg X.base CX 2 f fd ps (spRatEq CR)) (hb : Binds X.K fd ps []) (hx : Passes CX X E) (hr : Room 3 X.A) : OpR X (compareOp .NotEq) (rRatL CR) := fun pins s σ H x y v u Q I rx ry ⟨a, b, xs, ys, h1, h2, h3, h4, h5, h6, q⟩ => by
  refine op_askL askM_rat (asks_rat M F hb hx) hr true pins s σ H x y v u Q I rx ry ⟨true, ⟨a, b, _, _, List.replicate xs.length true, h1, h2, h3, h4, by rw [List.length_map, List.length_map]; exact h5, by rw [List.length_replicate, List.length_map], fun i p q k e1 e2 e3 => ?_, ?_⟩, q⟩
  · rw [List.getElem?_map] at e1 e2
    cases g1 : xs[i]? with
    | none => rw [g1] at e1; cases e1
    | some p' =>
      cases g2 : ys[i]? with
      | none => rw [g2] at e2; cases e2
      | some q' =>
        rw [g1] at e1
        rw [g2] at e2
        cases e1
        cases e2
        have ek : k = true := by
          have := List.mem_of_getElem? e3
          exact (List.mem_replicate.mp this).2
        subst ek
        exact ⟨p', q', rfl, rfl, h6 i p' q' g1 g2⟩
  · symm
    rw [List.all_eq_true]
    intro k hk
    exact (List.mem_replicate.mp hk).2
end
end Sf

namespace Sf
open PySem PySem.Spec PyProof.Rows L2
/-! rules of fours as identities (as in k10) -/
theorem dist_l (a b : Int) (p q r : Q5) : Cross (prodQ a b p (addQ a b q r)) (addQ a b (prodQ a b p q) (prodQ a b p r)) := by
  unfold prodQ addQ
  refine ⟨?_, ?_, ?_, ?_⟩ <;> dsimp only <;> grind
theorem dist_r (a b : Int) (p q r : Q5) : Cross (prodQ a b (addQ a b p q) r) (addQ a b (prodQ a b p r) (prodQ a b q r)) := by
  unfold prodQ addQ
  refine ⟨?_, ?_, ?_, ?_⟩ <;> dsimp only <;> grind
theorem add_comm5 (a b : Int) (p q : Q5) : Cross (addQ a b p q) (addQ a b q p) := by
  unfold addQ
  refine ⟨?_, ?_, ?_, ?_⟩ <;> dsimp only <;> grind
theorem sub_self5 (a b : Int) (p q : Q5) : Cross (subQ a b p p) (subQ a b q q) := by
  unfold subQ
  refine ⟨?_, ?_, ?_, ?_⟩ <;> dsimp only <;> grind
theorem mate_prod (a b : Int) (p q : Q5) : mateQ (prodQ a b p q) = prodQ a b (mateQ q) (mateQ p) := by
  unfold mateQ prodQ
  refine q5_ext ?_ ?_ ?_ ?_ ?_ <;> dsimp only <;> grind
theorem norm_prod (a b : Int) (p q : Q5) : normT a b (prodQ a b p q) = normT a b p * normT a b q := by
  unfold normT prodQ
  dsimp only
  grind
theorem pw_bd {a b : Int} {p : Q5} {m : Nat} (ha : a.natAbs < 2 ^ 10) (hb : b.natAbs < 2 ^ 10) (hp : Bd m p) : ∀ n : Nat, Bd (1 + n * (m + 22)) (pw a b p n)
  | 0 => by
    rw [Nat.zero_mul]
    exact (⟨by decide, by decide, by decide, by decide, by decide⟩ : Bd 1 oneQ)
  | n + 1 => bd_mono (prodQ_bd ha hb (pw_bd ha hb hp n) hp) (by rw [Nat.add_mul, Nat.one_mul]; omega)
theorem pw_add (a b : Int) (p : Q5) (m : Nat) : ∀ n, pw a b p (m + n) = prodQ a b (pw a b p m) (pw a b p n)
  | 0 => by show pw a b p m = prodQ a b (pw a b p m) oneQ; rw [prod_one]
  | n + 1 => by
    show prodQ a b (pw a b p (m + n)) p = prodQ a b (pw a b p m) (prodQ a b (pw a b p n) p)
    rw [pw_add a b p m n, prod_assoc]
theorem pw_inv {a b : Int} {p i : Q5} (h : Cross (prodQ a b p i) oneQ) (hp : 0 < p.d) (hi : 0 < i.d) : ∀ n, Cross (prodQ a b (pw a b p n) (pw a b i n)) oneQ
  | 0 => by show Cross (prodQ a b oneQ oneQ) oneQ; rw [one_prod]; exact Cross.refl _
  | n + 1 => by
    have e : prodQ a b (pw a b p (n + 1)) (pw a b i (n + 1)) = prodQ a b (pw a b p n) (prodQ a b (prodQ a b p i) (pw a b i n)) := by
      rw [pw_succ' a b i n]
      show prodQ a b (prodQ a b (pw a b p n) p) (prodQ a b i (pw a b i n)) = _
      rw [prod_assoc, prod_assoc]
    rw [e]
    have c : Cross (prodQ a b (prodQ a b p i) (pw a b i n)) (pw a b i n) := by
      have := cross_prod (a := a) (b := b) (q := pw a b i n) h
      rw [one_prod] at this
      exact this
    refine (cross_prod1 c).trans (pw_inv h hp hi n) ?_
    have d1 := pw_d (a := a) (b := b) hp n
    have d2 := pw_d (a := a) (b := b) hi n
    exact Int.mul_ne_zero (by omega) (by omega)
theorem prod_inv {a b : Int} {p : Q5} : Cross (prodQ a b p (invQ a b p)) oneQ := by
  unfold prodQ invQ oneQ normT
  refine ⟨?_, ?_, ?_, ?_⟩ <;> dsimp only <;> grind
theorem inv_prod {a b : Int} {p : Q5} : Cross (prodQ a b (invQ a b p) p) oneQ := by
  unfold prodQ invQ oneQ normT
  refine ⟨?_, ?_, ?_, ?_⟩ <;> dsimp only <;> grind
theorem norm_inv {a b : Int} {p : Q5} : normT a b (invQ a b p) = normT a b p * (p.d * p.d) := by
  unfold normT invQ
  dsimp only
  grind
theorem own_eqn {a b : Int} {p : Q5} : Cross (addQ a b (subQ a b (prodQ a b p p) (sclQ (2 * p.w) p.d p)) (sclQ (normT a b p) (p.d * p.d) oneQ)) (subQ a b p p) := by
  unfold addQ subQ prodQ sclQ oneQ normT
  refine ⟨?_, ?_, ?_, ?_⟩ <;> dsimp only <;> grind
theorem add_mate {a b : Int} {p : Q5} : Cross (addQ a b p (mateQ p)) (sclQ (2 * p.w) p.d oneQ) := by
  unfold addQ mateQ sclQ oneQ
  refine ⟨?_, ?_, ?_, ?_⟩ <;> dsimp only <;> grind
theorem mul_mate {a b : Int} {p : Q5} : Cross (prodQ a b p (mateQ p)) (sclQ (normT a b p) (p.d * p.d) oneQ) := by
  rw [norm_q]
  unfold sclQ oneQ
  refine ⟨?_, ?_, ?_, ?_⟩ <;> dsimp only <;> grind
theorem mate_mate {p : Q5} : mateQ (mateQ p) = p := by
  unfold mateQ
  refine q5_ext ?_ ?_ ?_ ?_ ?_ <;> dsimp only <;> omega
section
variable {CR : Addr}
theorem rw_over {H : Hp} {x y : Addr} {t b s c : Int} {Q : VK} (hx : Rw CR H x t b) (hy : Rw CR H y s c) (b1 : t.natAbs < 2 ^ 3000) (b2 : b.natAbs < 2 ^ 3000) (b3 : s.natAbs < 2 ^ 3000) (b4 : c.natAbs < 2 ^ 3000) (s0 : s ≠ 0)
    (q : ∀ (z : Addr) (H' : Hp), Same H H' → Rw CR H' z (t * c) (b * s) → Q (.ref z) H') : RatOpP CR (fun t _ _ b2 => t * b2) (fun _ b t2 _ => b * t2) [.ref x, .ref y] H Q := by
  obtain ⟨t', b', r1, l1⟩ := hx.ex
  obtain ⟨s', c', r2, l2⟩ := hy.ex
  obtain ⟨u1, u2⟩ := lowT_bd hx.b0 l1
  obtain ⟨u3, u4⟩ := lowT_bd hy.b0 l2
  have z1 : b' ≠ 0 := by have := l1.1; omega
  have z2 : s' ≠ 0 := fun z => by
    have e := l2.2.1
    rw [z, Int.zero_mul] at e
    rcases Int.mul_eq_zero.mp e with e | e
    · exact s0 e
    · have := l2.1; omega
  refine ⟨x, .ref y, t', b', s', c', rfl, r1, .rat r2, Nat.lt_of_le_of_lt u1 b1, Nat.lt_of_le_of_lt u2 b2, Nat.lt_of_le_of_lt u3 b3, Nat.lt_of_le_of_lt u4 b4, Int.mul_ne_zero z1 z2,
    fun u v z H' hl hz e hR => q z H' e ⟨⟨u, v, hR, lowT_tr hl ?_ (Int.mul_ne_zero z1 z2)⟩, Int.mul_ne_zero hx.b0 s0⟩⟩
  have e1 := l1.2.1
  have e2 := l2.2.1
  clear l1 l2 hl
  grind
end
end Sf

namespace Sf
open PySem PySem.Spec PyProof.Rows L2
/-! the turn of a four, in integers -/
def tE (a b : Int) (e : Q5) (i j : Nat) : Int := ent (prodQ a b (prodQ a b e (unitQ j)) (mateQ e)) (i + 1)
theorem three {P : Nat → Prop} (h0 : P 0) (h1 : P 1) (h2 : P 2) : ∀ i, i < 3 → P i := fun i hi => by
  have c : i = 0 ∨ i = 1 ∨ i = 2 := by omega
  rcases c with rfl | rfl | rfl
  · exact h0
  · exact h1
  · exact h2
section
variable (a b : Int) (e : Q5)
theorem t00 : tE a b e 0 0 = e.w * e.w - a * e.x * e.x + b * e.y * e.y - a * b * e.z * e.z := by
  show (prodQ a b (prodQ a b e (unitQ 0)) (mateQ e)).x = _
  unfold prodQ mateQ unitQ; dsimp only; grind
theorem t01 : tE a b e 0 1 = 2 * b * e.w * e.z - 2 * b * e.x * e.y := by
  show (prodQ a b (prodQ a b e (unitQ 1)) (mateQ e)).x = _
  unfold prodQ mateQ unitQ; dsimp only; grind
theorem t02 : tE a b e 0 2 = 2 * a * b * e.x * e.z - 2 * b * e.w * e.y := by
  show (prodQ a b (prodQ a b e (unitQ 2)) (mateQ e)).x = _
  unfold prodQ mateQ unitQ; dsimp only; grind
theorem t10 : tE a b e 1 0 = - (2 * a * e.w * e.z) - 2 * a * e.x * e.y := by
  show (prodQ a b (prodQ a b e (unitQ 0)) (mateQ e)).y = _
  unfold prodQ mateQ unitQ; dsimp only; grind
theorem t11 : tE a b e 1 1 = e.w * e.w + a * e.x * e.x - b * e.y * e.y - a * b * e.z * e.z := by
  show (prodQ a b (prodQ a b e (unitQ 1)) (mateQ e)).y = _
  unfold prodQ mateQ unitQ; dsimp only; grind
theorem t12 : tE a b e 1 2 = 2 * a * b * e.y * e.z + 2 * a * e.w * e.x := by
  show (prodQ a b (prodQ a b e (unitQ 2)) (mateQ e)).y = _
  unfold prodQ mateQ unitQ; dsimp only; grind
theorem t20 : tE a b e 2 0 = - (2 * a * e.x * e.z) - 2 * e.w * e.y := by
  show (prodQ a b (prodQ a b e (unitQ 0)) (mateQ e)).z = _
  unfold prodQ mateQ unitQ; dsimp only; grind
theorem t21 : tE a b e 2 1 = 2 * e.w * e.x - 2 * b * e.y * e.z := by
  show (prodQ a b (prodQ a b e (unitQ 1)) (mateQ e)).z = _
  unfold prodQ mateQ unitQ; dsimp only; grind
theorem t22 : tE a b e 2 2 = e.w * e.w + a * e.x * e.x + b * e.y * e.y + a * b * e.z * e.z := by
  show (prodQ a b (prodQ a b e (unitQ 2)) (mateQ e)).z = _
  unfold prodQ mateQ unitQ; dsimp only; grind
end
theorem turnM_eq (a b : Int) (e : Q5) : ∀ i, i < 3 → ∀ j, j < 3 → turnM a b e i j = (tE a b e i j * e.d, e.d * 1 * normT a b e) := by
  have key : ∀ (u : Q5), u.d = 1 → ∀ i, i < 3 → ent (prodQ a b (prodQ a b e u) (invQ a b e)) (i + 1) = ent (prodQ a b (prodQ a b e u) (mateQ e)) (i + 1) * e.d := fun u _ => by
    generalize prodQ a b e u = p
    refine three ?_ ?_ ?_
    · show (prodQ a b p (invQ a b e)).x = (prodQ a b p (mateQ e)).x * e.d
      unfold prodQ invQ mateQ; dsimp only; grind
    · show (prodQ a b p (invQ a b e)).y = (prodQ a b p (mateQ e)).y * e.d
      unfold prodQ invQ mateQ; dsimp only; grind
    · show (prodQ a b p (invQ a b e)).z = (prodQ a b p (mateQ e)).z * e.d
      unfold prodQ invQ mateQ; dsimp only; grind
  intro i hi
  refine three ?_ ?_ ?_
  · exact Prod.ext (key (unitQ 0) rfl i hi) rfl
  · exact Prod.ext (key (unitQ 1) rfl i hi) rfl
  · exact Prod.ext (key (unitQ 2) rfl i hi) rfl
theorem tE_mul (a b : Int) (e f : Q5) : ∀ i, i < 3 → ∀ j, j < 3 → tE a b (prodQ a b e f) i j = tE a b e i 0 * tE a b f 0 j + tE a b e i 1 * tE a b f 1 j + tE a b e i 2 * tE a b f 2 j := by
  refine three (three ?_ ?_ ?_) (three ?_ ?_ ?_) (three ?_ ?_ ?_) <;>
  · simp only [t00, t01, t02, t10, t11, t12, t20, t21, t22]
    unfold prodQ
    dsimp only
    grind
theorem tE_det (a b : Int) (e : Q5) : tE a b e 0 0 * (tE a b e 1 1 * tE a b e 2 2 - tE a b e 1 2 * tE a b e 2 1) - tE a b e 0 1 * (tE a b e 1 0 * tE a b e 2 2 - tE a b e 1 2 * tE a b e 2 0) + tE a b e 0 2 * (tE a b e 1 0 * tE a b e 2 1 - tE a b e 1 1 * tE a b e 2 0) = normT a b e * normT a b e * normT a b e := by
  simp only [t00, t01, t02, t10, t11, t12, t20, t21, t22]
  unfold normT
  grind
def SameT (a b : Int) (e f : Q5) : Prop := ∀ i, i < 3 → ∀ j, j < 3 → tE a b e i j * normT a b f = tE a b f i j * normT a b e
theorem eqT_iff {a b : Int} {e f : Q5} (de : e.d ≠ 0) (df : f.d ≠ 0) : eqT (turnM a b e) (turnM a b f) ↔ SameT a b e f := by
  have one : ∀ i, i < 3 → ∀ j, j < 3 → (eqM (turnM a b e) (turnM a b f) i j ↔ tE a b e i j * normT a b f = tE a b f i j * normT a b e) := fun i hi j hj => by
    unfold eqM
    rw [turnM_eq a b e i hi j hj, turnM_eq a b f i hi j hj]
    dsimp only
    have l : tE a b e i j * e.d * (f.d * 1 * normT a b f) = (e.d * f.d) * (tE a b e i j * normT a b f) := by grind
    have r : tE a b f i j * f.d * (e.d * 1 * normT a b e) = (e.d * f.d) * (tE a b f i j * normT a b e) := by grind
    rw [l, r]
    exact ⟨fun h => Int.eq_of_mul_eq_mul_left (Int.mul_ne_zero de df) h, fun h => by rw [h]⟩
  exact ⟨fun h i hi j hj => (one i hi j hj).mp (h i j hi hj), fun h i j hi hj => (one i hi j hj).mpr (h i hi j hj)⟩
theorem norm_mate (a b : Int) (e : Q5) : normT a b (mateQ e) = normT a b e := by
  unfold normT mateQ
  dsimp only
  grind
theorem sq_zero {x : Int} (h : x * x = 0) : x = 0 := (Int.mul_eq_zero.mp h).elim id id
/-- turns are equal exactly if the quotient is a ratio -/
theorem same_central {a b : Int} {e f : Q5} (a0 : a ≠ 0) (b0 : b ≠ 0) (ne : normT a b e ≠ 0) (nf : normT a b f ≠ 0) : SameT a b e f ↔ ((prodQ a b e (mateQ f)).x = 0 ∧ (prodQ a b e (mateQ f)).y = 0 ∧ (prodQ a b e (mateQ f)).z = 0) := by
  have hff : prodQ a b f (mateQ f) = ⟨normT a b f, 0, 0, 0, f.d * f.d⟩ := norm_q a b f
  have hN : normT a b (prodQ a b e (mateQ f)) = normT a b e * normT a b f := by rw [norm_prod, norm_mate]
  constructor
  · intro h
    have key : ∀ i, i < 3 → ∀ j, j < 3 → tE a b (prodQ a b e (mateQ f)) i j * normT a b f = normT a b e * tE a b (prodQ a b f (mateQ f)) i j := fun i hi j hj => by
      rw [tE_mul a b e (mateQ f) i hi j hj, tE_mul a b f (mateQ f) i hi j hj]
      have h0 := h i hi 0 (by decide)
      have h1 := h i hi 1 (by decide)
      have h2 := h i hi 2 (by decide)
      generalize tE a b e i 0 = p0 at *
      generalize tE a b e i 1 = p1 at *
      generalize tE a b e i 2 = p2 at *
      generalize tE a b f i 0 = q0 at *
      generalize tE a b f i 1 = q1 at *
      generalize tE a b f i 2 = q2 at *
      generalize tE a b (mateQ f) 0 j = r0 at *
      generalize tE a b (mateQ f) 1 j = r1 at *
      generalize tE a b (mateQ f) 2 j = r2 at *
      generalize normT a b f = u at *
      generalize normT a b e = v at *
      have e0 : p0 * r0 * u = q0 * v * r0 := by rw [← h0]; grind
      have e1 : p1 * r1 * u = q1 * v * r1 := by rw [← h1]; grind
      have e2 : p2 * r2 * u = q2 * v * r2 := by rw [← h2]; grind
      clear h0 h1 h2 hN hff h
      grind
    have k0 := key 0 (by decide) 0 (by decide)
    have k1 := key 1 (by decide) 1 (by decide)
    have k2 := key 2 (by decide) 2 (by decide)
    rw [hff] at k0 k1 k2
    rw [t00 a b ⟨normT a b f, 0, 0, 0, f.d * f.d⟩] at k0
    rw [t11 a b ⟨normT a b f, 0, 0, 0, f.d * f.d⟩] at k1
    rw [t22 a b ⟨normT a b f, 0, 0, 0, f.d * f.d⟩] at k2
    rw [t00] at k0
    rw [t11] at k1
    rw [t22] at k2
    dsimp only at k0 k1 k2
    generalize prodQ a b e (mateQ f) = g at *
    have c : ∀ {t : Int}, t * normT a b f = normT a b e * (normT a b f * normT a b f) → t = normT a b g := fun {t} h => by
      rw [hN]
      refine Int.eq_of_mul_eq_mul_right nf ?_
      rw [h]
      grind
    have m0 := c (t := g.w * g.w - a * g.x * g.x + b * g.y * g.y - a * b * g.z * g.z) (by rw [k0]; grind)
    have m1 := c (t := g.w * g.w + a * g.x * g.x - b * g.y * g.y - a * b * g.z * g.z) (by rw [k1]; grind)
    have m2 := c (t := g.w * g.w + a * g.x * g.x + b * g.y * g.y + a * b * g.z * g.z) (by rw [k2]; grind)
    unfold normT at m0 m1 m2
    clear k0 k1 k2 key h hff hN c
    have z1 : b * g.y * g.y = a * b * g.z * g.z := by omega
    have z2 : a * g.x * g.x = a * b * g.z * g.z := by omega
    have z3 : a * g.x * g.x + b * g.y * g.y = 0 := by omega
    have z4 : a * b * g.z * g.z = 0 := by omega
    have zz : g.z = 0 := sq_zero ((Int.mul_eq_zero.mp (by rw [Int.mul_assoc] at z4; exact z4)).resolve_left (Int.mul_ne_zero a0 b0))
    have zx : g.x = 0 := sq_zero ((Int.mul_eq_zero.mp (by rw [Int.mul_assoc] at z2; rw [z2]; exact z4)).resolve_left a0)
    have zy : g.y = 0 := sq_zero ((Int.mul_eq_zero.mp (by rw [Int.mul_assoc] at z1; rw [z1]; exact z4)).resolve_left b0)
    exact ⟨zx, zy, zz⟩
  · rintro ⟨gx, gy, gz⟩
    unfold SameT
    have ass := prod_assoc a b e (mateQ f) f
    have mf : prodQ a b (mateQ f) f = ⟨normT a b f, 0, 0, 0, f.d * f.d⟩ := by
      unfold prodQ mateQ normT
      refine q5_ext ?_ ?_ ?_ ?_ ?_ <;> dsimp only <;> grind
    rw [mf] at ass
    have hg : normT a b (prodQ a b e (mateQ f)) = (prodQ a b e (mateQ f)).w * (prodQ a b e (mateQ f)).w := by
      unfold normT
      rw [gx, gy, gz]
      simp
    rw [hN] at hg
    generalize prodQ a b e (mateQ f) = g at *
    have cw := congrArg Q5.w ass
    have cx := congrArg Q5.x ass
    have cy := congrArg Q5.y ass
    have cz := congrArg Q5.z ass
    unfold prodQ at cw cx cy cz
    dsimp only at cw cx cy cz
    rw [gx, gy, gz] at cw cx cy cz
    simp only [Int.mul_zero, Int.zero_mul, Int.add_zero, Int.zero_add, Int.sub_zero] at cw cx cy cz
    generalize normT a b f = n at *
    generalize normT a b e = m at *
    generalize g.w = s at *
    have sq : ∀ {p q p' q' : Int}, s * p' = p * n → s * q' = q * n → p * q * (n * n) = s * s * (p' * q') := fun {p q p' q'} h1 h2 => by
      have : p * q * (n * n) = (p * n) * (q * n) := by grind
      rw [this, ← h1, ← h2]
      grind
    have ww := sq cw cw
    have xx := sq cx cx
    have yy := sq cy cy
    have zz := sq cz cz
    have wx := sq cw cx
    have wy := sq cw cy
    have wz := sq cw cz
    have xy := sq cx cy
    have xz := sq cx cz
    have yz := sq cy cz
    clear cw cx cy cz ass mf gx gy gz hff hN sq
    have fin : ∀ {p q : Int}, p * (n * n) = s * s * q → p * n = q * m := fun {p q} h => by
      refine Int.eq_of_mul_eq_mul_right nf ?_
      have : p * n * n = p * (n * n) := by grind
      rw [this, h, ← hg]
      grind
    clear hg
    refine three (three ?_ ?_ ?_) (three ?_ ?_ ?_) (three ?_ ?_ ?_) <;>
    · refine fin ?_
      simp only [t00, t01, t02, t10, t11, t12, t20, t21, t22]
      grind
end Sf

namespace Sf
open PySem PySem.Spec PyProof.Rows L2
section
variable {P : Program} {w : World} {K : PySem.W.Frag} {mg : Str → Option Value} {base : Heap} {f : Addr} {fd : FuncData} {CR CA CF : Addr}
structure LNormP (vs : List V) (H : Hp) (Q : VK) : Prop where
  ex : ∃ (pr : Addr) (a b : Int) (v1 : V) (p : Q5), vs = [.ref pr, v1] ∧ H pr = some (.tup [.int a, .int b]) ∧ LF H v1 p ∧ a.natAbs < 2 ^ 10 ∧ b.natAbs < 2 ^ 10 ∧ EB 41 3 p ∧ p.d ≠ 0 ∧
    ∀ (r : Q5) (t : Addr) (H' : Hp), Low5 (prodQ a b p (mateQ p)) r → Same H H' → H' t = some (.tup [.int r.w, .int r.d]) → Q (.ref t) H'
def spLNorm : Sp := fun vs H Q _ => LNormP vs H Q
theorem ok_l_norm (F : FnD K "_law_norm" "_law_norm" s_L_norm f fd) (T : Glob mg) (C_L_times : Cal P w K mg base 3 "_law_times" ["_law_pair_here", "_law_one", "_law_other"] spTimes) (C_L_mate : Cal P w K mg base 1 "_law_mate" ["_law_one"] spLMate) : FnOk P w K mg base CX0 4 f fd ["_law_pair_here", "_law_one"] spLNorm := by
  refine F.ok sc_L_norm (fun vs H Q E h => ?_) (fun cdv A outer s H vs Q E hr h => ?_)
  · obtain ⟨pr, a, b, v1, p, rfl, _⟩ := h.ex; rfl
  · obtain ⟨pr, a, b, v1, p, rfl, hpr, h1, ba, bb, be, pd, q⟩ := h.ex
    refine ⟨_, PSs.nox (pss_cons (ps_set (i := 2) sc_L_norm.nd rfl (Or.inl rfl) (pe_cal C_L_times (hr.mono (by decide)) (pa_cons (pv 0) (pa_cons (pv 1) (pa_cons (pe_cal C_L_mate (hr.mono (by decide)) (pa_cons (pv 1) pa_nil)) pa_nil)))))
      (pss_one (ps_ret (pe_tup (pa_cons (pe_ix ix_tup (pe_ix ix_tup (pv 2) pe_int (fun _ _ => rfl)) pe_int (fun _ _ => rfl)) (pa_cons (pe_ix ix_tup (pv 2) pe_int (fun _ _ => rfl)) pa_nil)))))), ?_⟩
    refine ⟨_, rfl, _, rfl, _, rfl, v1, p, rfl, h1, fun v2 H1 s1 h2 => ?_⟩
    have bm : EB 41 3 (mateQ p) := ⟨be.1, by show (-p.x).natAbs < _; rw [Int.natAbs_neg]; exact be.2.1, by show (-p.y).natAbs < _; rw [Int.natAbs_neg]; exact be.2.2.1, by show (-p.z).natAbs < _; rw [Int.natAbs_neg]; exact be.2.2.2.1, be.2.2.2.2⟩
    refine ⟨pr, a, b, v1, v2, p, mateQ p, 41, 41, rfl, s1 _ _ hpr, h1.same s1, h2, ba, bb, .inl ⟨be.bd (by decide) (by decide), bm.bd (by decide) (by decide)⟩, by decide, pd, pd, fun r v H2 hlow s2 hf => ?_⟩
    obtain ⟨t, e, rfl, g1, g2⟩ := hf
    refine ⟨_, rfl, t, _, 0, .ref e, rfl, rfl, SqT.of g1, rfl, e, _, 0, .int r.w, rfl, rfl, SqT.of g2, rfl, _, rfl, t, _, 1, .int r.d, rfl, rfl, SqT.of g1, rfl, (by show 2 ≤ sizeLine; decide), fun tt htt => q r tt _ hlow ((s1.trans s2).trans (same_upd htt)) upd_same⟩
end
end Sf

namespace Sf
open PySem PySem.Spec PyProof.Rows L2
/-! values near a tuple of ints -/
/-- what stands in such a tuple -/
inductive El (H : Hp) : V → Prop
  | int (n : Int) : El H (.int n)
  | non : El H .non
  | one : El H (.str "1")
  | bl (b : Bool) : El H (.bl b)
  | tup {a : Addr} {n : Int} (h : H a = some (.tup [.int n])) : El H (.ref a)
def isI : V → Bool
  | .int _ => true
  | _ => false
theorem isI_iff {v : V} : isI v = true ↔ ∃ n, v = .int n := by
  cases v with
  | int n => exact ⟨fun _ => ⟨n, rfl⟩, fun _ => rfl⟩
  | _ => exact ⟨fun z => Bool.noConfusion z, fun ⟨_, e⟩ => V.noConfusion e⟩
theorem El.same {H H' : Hp} {v : V} (h : El H v) (s : Same H H') : El H' v := by
  cases h with
  | int n => exact .int n
  | non => exact .non
  | one => exact .one
  | bl b => exact .bl b
  | tup h => exact .tup (s _ _ h)
theorem El.intB {K : PySem.W.Frag} {H : Hp} {v : V} (h : El H v) : IntB K H v (isI v) := by
  cases h with
  | int n => exact .int n
  | non => exact .non
  | one => exact .str _
  | bl b => exact .bl b
  | tup h => exact .tup h
/-- the type of such a thing -/
theorem El.ty {K : PySem.W.Frag} {H : Hp} {v : V} (h : El H v) : ∃ (t : String) (bi bb : Bool), TyX K H v (.type t) ∧ kitB t "int" = some bi ∧ kitB t "bool" = some bb ∧ isI v = (bi && !bb) := h.intB
/-- as data -/
theorem El.data {K : PySem.W.Frag} {H : Hp} {v : V} (h : El H v) : ∃ d, Dp K H v d ∧ PyData.canLay0 d = true ∧ PyData.depth d ≤ 1 := by
  cases h with
  | int n => exact ⟨_, .int n, rfl, Nat.zero_le _⟩
  | non => exact ⟨_, .non, rfl, Nat.zero_le _⟩
  | one => exact ⟨_, .str _, by decide +kernel, Nat.zero_le _⟩
  | bl b => exact ⟨_, .bl b, rfl, Nat.zero_le _⟩
  | @tup a n h => exact ⟨_, dp_tup (ns := [n]) (SqT.of h), rfl, Nat.le_refl _⟩
theorem els_data {K : PySem.W.Frag} {H : Hp} : ∀ (xs : List V), (∀ x ∈ xs, El H x) → ∃ ds, DpAll K H xs ds ∧ PyData.canLayAll0 ds = true ∧ PyData.depthAll ds ≤ 1 ∧ ds.length = xs.length
  | [], _ => ⟨[], .nil, rfl, Nat.zero_le _, rfl⟩
  | x :: xs, h => by
    obtain ⟨d, h1, h2, h3⟩ := (h x List.mem_cons_self).data (K := K)
    obtain ⟨ds, g1, g2, g3, g4⟩ := els_data (K := K) xs fun y hy => h y (List.mem_cons_of_mem _ hy)
    refine ⟨d :: ds, .cons h1 g1, ?_, ?_, by rw [List.length_cons, List.length_cons, g4]⟩
    · show (PyData.canLay0 d && PyData.canLayAll0 ds) = true
      rw [h2, g2]
      rfl
    · show max (PyData.depth d) (PyData.depthAll ds) ≤ 1
      omega
theorem eqv_nil : ∀ ds : List PyData, PyData.eqv (.list ds) (.list []) = decide (ds.length = 0)
  | [] => by unfold PyData.eqv; rfl
  | d :: ds => by unfold PyData.eqv; rfl
/-- a tuple of such things -/
def TupV (H : Hp) (v : V) (xs : List V) : Prop := ∃ a, v = .ref a ∧ H a = some (.tup xs) ∧ xs.length ≤ 10 ∧ ∀ x ∈ xs, El H x
def NoTup (H : Hp) (v : V) : Prop := v = .non ∨ (∃ i, v = .int i) ∨ (∃ s, v = .str s) ∨ ∃ a, v = .ref a ∧ ((∃ xs, H a = some (.lst xs)) ∨ ∃ kvs, H a = some (.dK kvs))
def AnyV (H : Hp) (v : V) : Prop := (∃ xs, TupV H v xs) ∨ NoTup H v
def Tri (H : Hp) (v : V) (x y z : Int) : Prop := ∃ a, v = .ref a ∧ H a = some (.tup [.int x, .int y, .int z])
theorem TupV.same {H H' : Hp} {v : V} {xs : List V} (h : TupV H v xs) (s : Same H H') : TupV H' v xs := by
  obtain ⟨a, e, h1, h2, h3⟩ := h
  exact ⟨a, e, s _ _ h1, h2, fun x hx => (h3 x hx).same s⟩
theorem NoTup.same {H H' : Hp} {v : V} (h : NoTup H v) (s : Same H H') : NoTup H' v := by
  rcases h with h | h | h | ⟨a, e, ⟨xs, h⟩ | ⟨xs, h⟩⟩
  · exact .inl h
  · exact .inr (.inl h)
  · exact .inr (.inr (.inl h))
  · exact .inr (.inr (.inr ⟨a, e, .inl ⟨xs, s _ _ h⟩⟩))
  · exact .inr (.inr (.inr ⟨a, e, .inr ⟨xs, s _ _ h⟩⟩))
theorem AnyV.same {H H' : Hp} {v : V} (h : AnyV H v) (s : Same H H') : AnyV H' v := by
  rcases h with ⟨xs, h⟩ | h
  · exact .inl ⟨xs, h.same s⟩
  · exact .inr (h.same s)
theorem Tri.same {H H' : Hp} {v : V} {x y z : Int} (h : Tri H v x y z) (s : Same H H') : Tri H' v x y z := let ⟨a, e, g⟩ := h; ⟨a, e, s _ _ g⟩
theorem Tri.any {H : Hp} {v : V} {x y z : Int} (h : Tri H v x y z) : AnyV H v := by
  obtain ⟨a, e, g⟩ := h
  refine .inl ⟨_, a, e, g, by show 3 ≤ 10; decide, fun u hu => ?_⟩
  have c : u = .int x ∨ u = .int y ∨ u = .int z := by simpa using hu
  rcases c with rfl | rfl | rfl <;> exact .int _
theorem Tri.uni {H : Hp} {v : V} {x y z x' y' z' : Int} (h : Tri H v x y z) (g : Tri H v x' y' z') : x = x' ∧ y = y' ∧ z = z' := by
  obtain ⟨a, rfl, h⟩ := h
  obtain ⟨b, e, g⟩ := g
  cases e
  rw [h] at g
  cases g
  exact ⟨rfl, rfl, rfl⟩
theorem NoTup.noTri {H : Hp} {v : V} {x y z : Int} (h : NoTup H v) (g : Tri H v x y z) : False := by
  obtain ⟨b, rfl, g⟩ := g
  rcases h with h | ⟨_, h⟩ | ⟨_, h⟩ | ⟨a, e, ⟨xs, h⟩ | ⟨xs, h⟩⟩
  · cases h
  · cases h
  · cases h
  · cases e
    rw [h] at g
    cases g
  · cases e
    rw [h] at g
    cases g
theorem TupV.tri {H : Hp} {v : V} {xs : List V} (h : TupV H v xs) {x y z : Int} : Tri H v x y z ↔ xs = [.int x, .int y, .int z] := by
  obtain ⟨a, rfl, h, _⟩ := h
  constructor
  · rintro ⟨b, e, g⟩
    cases e
    rw [h] at g
    cases g
    rfl
  · rintro rfl
    exact ⟨a, rfl, h⟩
theorem NoTup.kit {K : PySem.W.Frag} {H : Hp} {v : V} (h : NoTup H v) : ∃ t, TyX K H v (.type t) ∧ kitB t "tuple" = some false := by
  rcases h with rfl | ⟨_, rfl⟩ | ⟨_, rfl⟩ | ⟨a, rfl, ⟨xs, h⟩ | ⟨xs, h⟩⟩
  · exact ⟨"NoneType", .base .non, by decide +kernel⟩
  · exact ⟨"int", .base (.int _), by decide +kernel⟩
  · exact ⟨"str", .base (.str _), by decide +kernel⟩
  · exact ⟨"list", .base (.lst h), by decide +kernel⟩
  · exact ⟨"dict", .base (.dK h), by decide +kernel⟩
theorem three_ints {xs : List V} (l : xs.length = 3) : (xs.all isI = true) ↔ ∃ x y z : Int, xs = [.int x, .int y, .int z] := by
  match xs, l with
  | [a, b, c], _ =>
    constructor
    · intro h
      simp only [List.all_cons, List.all_nil, Bool.and_eq_true] at h
      obtain ⟨x, rfl⟩ := isI_iff.mp h.1
      obtain ⟨y, rfl⟩ := isI_iff.mp h.2.1
      obtain ⟨z, rfl⟩ := isI_iff.mp h.2.2.1
      exact ⟨x, y, z, rfl⟩
    · rintro ⟨x, y, z, e⟩
      cases e
      rfl
end Sf

namespace Sf
open PySem PySem.Spec PyProof.Rows L2
theorem kit_none {K : PySem.W.Frag} {C : Addr} (h : PySem.W.kitOne K (.type "int") (.ref C) = some false) : PySem.W.kitOne K (.type "NoneType") (.ref C) = some false := by
  unfold PySem.W.kitOne at h ⊢
  rw [if_neg (fun z => by cases eq_of_beq z)] at h ⊢
  unfold PySem.W.kitCls at h ⊢
  dsimp only at h ⊢
  by_cases c : ((PySem.W.clsIn K C).isSome && PySem.W.typeIn K (Value.ref C) == some (Value.type "type")) = true
  · rw [if_pos c]
    kernel_rfl
  · rw [if_neg c] at h
    cases h
/-- a value that is a tuple of three ratios, or is none -/
inductive RowB (CR : Addr) (H : Hp) : V → Bool → Prop
  | yes {r x0 x1 x2 : Addr} (h : H r = some (.tup [.ref x0, .ref x1, .ref x2])) (i0 : Ins H x0 CR) (i1 : Ins H x1 CR) (i2 : Ins H x2 CR) : RowB CR H (.ref r) true
  | len {r : Addr} {ys : List V} (h : H r = some (.tup ys)) (l : ys.length ≠ 3) : RowB CR H (.ref r) false
  | nons {r : Addr} (h : H r = some (.tup [.non, .non, .non])) : RowB CR H (.ref r) false
  | out {v : V} (h : NoTup H v) : RowB CR H v false
theorem ins_of_same {CR : Addr} {H H' : Hp} {x : Addr} (h : Ins H x CR) (s : Same H H') : Ins H' x CR := let ⟨dx, fs, e⟩ := h; ⟨dx, fs, s _ _ e⟩
theorem RowB.same {CR : Addr} {H H' : Hp} {v : V} {b : Bool} (h : RowB CR H v b) (s : Same H H') : RowB CR H' v b := by
  cases h with
  | yes h i0 i1 i2 => exact .yes (s _ _ h) (ins_of_same i0 s) (ins_of_same i1 s) (ins_of_same i2 s)
  | len h l => exact .len (s _ _ h) l
  | nons h => exact .nons (s _ _ h)
  | out h => exact .out (h.same s)
/-- a value that is a tuple of three such, or is none -/
inductive TabB (CR : Addr) (H : Hp) : V → Bool → Prop
  | of {t : Addr} {v0 v1 v2 : V} {b0 b1 b2 : Bool} (h : H t = some (.tup [v0, v1, v2])) (r0 : RowB CR H v0 b0) (r1 : RowB CR H v1 b1) (r2 : RowB CR H v2 b2) : TabB CR H (.ref t) (b0 && b1 && b2)
  | len {t : Addr} {ys : List V} (h : H t = some (.tup ys)) (l : ys.length ≠ 3) : TabB CR H (.ref t) false
  | out {v : V} (h : NoTup H v) : TabB CR H v false
theorem TabB.same {CR : Addr} {H H' : Hp} {v : V} {b : Bool} (h : TabB CR H v b) (s : Same H H') : TabB CR H' v b := by
  cases h with
  | of h r0 r1 r2 => exact .of (s _ _ h) (r0.same s) (r1.same s) (r2.same s)
  | len h l => exact .len (s _ _ h) l
  | out h => exact .out (h.same s)
theorem RowOk.rowB {CR : Addr} {H : Hp} {m : Nat → Nat → Int × Int} {i : Nat} {r : Addr} (h : RowOk CR H m i r) : RowB CR H (.ref r) true := by
  obtain ⟨x0, x1, x2, h0, h1, h2, h3⟩ := h.ex
  exact .yes h0 h1.ins h2.ins h3.ins
theorem Tab.tabB {CR : Addr} {H : Hp} {m : Nat → Nat → Int × Int} {t : Addr} (h : Tab CR H t m) : TabB CR H (.ref t) true := by
  obtain ⟨r0, r1, r2, h, h0, h1, h2⟩ := h.ex
  exact .of h h0.rowB h1.rowB h2.rowB
section
variable {P : Program} {w : World} {K : PySem.W.Frag} {mg : Str → Option Value} {base : Heap} {f : Addr} {fd : FuncData} {CR CA CF : Addr}
structure IsRowP (CR : Addr) (vs : List V) (H : Hp) (Q : VK) : Prop where
  ex : ∃ v b, vs = [v] ∧ RowB CR H v b ∧ ∀ H', Same H H' → Q (.bl b) H'
def spIsRow (CR : Addr) : Sp := fun vs H Q _ => IsRowP CR vs H Q
theorem ok_is_row (F : FnD K "is_row" "is_row" s_P_is_row f fd) (T : Glob mg) (O_Ratio : OwnK K CR) (G_Ratio : mg "Ratio" = some (.ref CR)) : FnOk P w K mg base CX0 2 f fd ["value"] (spIsRow CR) := by
  refine F.ok sc_P_is_row (fun vs H Q E h => ?_) (fun cdv A outer s H vs Q E hr h => ?_)
  · obtain ⟨v, b, rfl, _⟩ := h.ex; rfl
  · obtain ⟨v, b, rfl, hv, q⟩ := h.ex
    refine ⟨_, PSs.nox (pss_cons (ps_if (PW.pt (pw_or (pt_not (pt_val (pe_callB call_isi (by rfl) T.m_isinstance (by decide +kernel) (pa_cons (pv 0) (pa_cons (pe_bltn (v := .ty "tuple") (u := .type "tuple") (by rfl) T.m_tuple (by decide +kernel) rfl) pa_nil))))) (pw_or1 (pt_cmp (pc_neI (pe_callB call_len_seq (by rfl) T.m_len (by decide +kernel) (pa_cons (pv 0) pa_nil)) pe_int))))) (pss_one (ps_ret pe_bl)) pss_nil)
      (pss_one (ps_ret (pe_callB (cr_all rfl) (by rfl) T.m_all (by decide +kernel) (pa_cons (pe_lc rfl sc_P_is_row.nd (own := [("entry", 1)]) (pi_tup (pv 0)) (blkOk_by (N := ["value", "entry"]) (sc := defScope s_P_is_row) (by decide +kernel)) (fun _ _ _ _ _ => pg_name (i := 1) sc_P_is_row.nd rfl (Or.inl rfl)) (fun _ _ _ _ _ => pts_nil) (fun _ _ _ _ _ => (pe_callB (r := rIsi K) call_isi (by rfl) T.m_isinstance (by decide +kernel) (pa_cons (pv 1) (pa_cons (pe_glob (v := .ref _) rfl G_Ratio rfl) pa_nil))))) pa_nil))))), ?_⟩
    have cs : (NoTup H v ∧ b = false) ∨ (∃ r ys, v = .ref r ∧ H r = some (.tup ys) ∧ ys.length ≠ 3 ∧ b = false) ∨ ∃ (r : Addr) (xs : List V), v = .ref r ∧ H r = some (.tup xs) ∧ xs.length = 3 ∧ ∀ (i : Nat) (u : V), xs[i]? = some u → ∀ H', Same H H' → ∃ t, TyX K H' u t ∧ PySem.W.kitOne K t (.ref CR) = some b := by
      cases hv with
      | out g => exact .inl ⟨g, rfl⟩
      | len g l => exact .inr (.inl ⟨_, _, rfl, g, l, rfl⟩)
      | nons g =>
        refine .inr (.inr ⟨_, _, rfl, g, rfl, fun i u hu H' s => ?_⟩)
        have hm := List.mem_of_getElem? hu
        have e : u = V.non := by simpa using hm
        subst e
        exact ⟨_, .base .non, kit_none O_Ratio.ki⟩
      | @yes r x0 x1 x2 g i0 i1 i2 =>
        refine .inr (.inr ⟨_, _, rfl, g, rfl, fun i u hu H' s => ?_⟩)
        have hm := List.mem_of_getElem? hu
        have e : u = .ref x0 ∨ u = .ref x1 ∨ u = .ref x2 := by simpa using hm
        rcases e with rfl | rfl | rfl
        · exact ⟨_, O_Ratio.ty (ins_of_same i0 s), O_Ratio.kk⟩
        · exact ⟨_, O_Ratio.ty (ins_of_same i1 s), O_Ratio.kk⟩
        · exact ⟨_, O_Ratio.ty (ins_of_same i2 s), O_Ratio.kk⟩
    rcases cs with ⟨g, rfl⟩ | ⟨r, ys, rfl, g, l, rfl⟩ | ⟨r, xs, rfl, g, l, hk⟩
    · obtain ⟨t, h1, h2⟩ := g.kit (K := K)
      exact ⟨_, rfl, _, .ty "tuple", _, _, false, rfl, .ty "tuple", h1, h2, _, rfl, q _ (Same.refl _)⟩
    · refine ⟨_, rfl, _, .ty "tuple", _, _, true, rfl, .ty "tuple", .base (.tup g), (by show kitB "tuple" "tuple" = some true; decide +kernel), _, rfl, ?_⟩
      refine ⟨_, rfl, r, _, rfl, .inr (SqT.of g), _, _, rfl, rfl, ?_⟩
      refine ⟨_, rfl, ?_⟩
      exact ifn (fun _ => q _ (Same.refl _)) (fun z => absurd z (by omega))
    · refine ⟨_, rfl, _, .ty "tuple", _, _, true, rfl, .ty "tuple", .base (.tup g), (by show kitB "tuple" "tuple" = some true; decide +kernel), _, rfl, ?_⟩
      refine ⟨_, rfl, r, _, rfl, .inr (SqT.of g), _, _, rfl, rfl, ?_⟩
      refine ⟨_, rfl, ?_⟩
      refine ifn (fun z => absurd (by omega : (xs.length : Int) = 3) z) (fun _ => ?_)
      refine ⟨_, rfl, r, rfl, ⟨_, SqT.of g⟩, fun D hD => lc_tup (K := K) (a := r) (xs := xs) (fun i H' => Same H H' ∧ H' D = some (.lst ((List.replicate i b).map V.bl))) ⟨same_upd hD, upd_same⟩ (fun i H' _ hp => SqT.of (hp.1 _ _ g)) (fun i v H' hv hp => ?_) (fun H' hp => ?_)⟩
      · obtain ⟨e1, hd⟩ := hp
        obtain ⟨t, h1, h2⟩ := hk i v hv H' e1
        refine ⟨rfl, ?_⟩
        refine ⟨_, rfl, _, .ref CR, _, _, b, rfl, .own CR, h1, h2, ?_⟩
        have il : i < 3 := l ▸ (List.getElem?_eq_some_iff.mp hv).1
        refine ⟨_, hd, ?_, ?_, ?_⟩
        · rw [List.length_map, List.length_replicate]
          exact Nat.lt_of_lt_of_le il (by decide)
        · intro b o eb
          rw [upd_ne (ne_of_none eb hD)]
          exact e1 _ _ eb
        · rw [upd_same, List.replicate_succ', List.map_append]; rfl
      · obtain ⟨e1, hd⟩ := hp
        refine ⟨D, _, rfl, SqL.of hd, ?_⟩
        rw [l]
        cases b with
        | true => exact q _ e1
        | false => exact q _ e1
structure IsTableP (CR : Addr) (vs : List V) (H : Hp) (Q : VK) : Prop where
  ex : ∃ v b, vs = [v] ∧ TabB CR H v b ∧ ∀ H', Same H H' → Q (.bl b) H'
def spIsTable (CR : Addr) : Sp := fun vs H Q _ => IsTableP CR vs H Q
theorem ok_is_table (F : FnD K "is_table" "is_table" s_P_is_table f fd) (T : Glob mg) (C_P_is_row : Cal P w K mg base 2 "is_row" ["value"] (spIsRow CR)) : FnOk P w K mg base CX0 3 f fd ["value"] (spIsTable CR) := by
  refine F.ok sc_P_is_table (fun vs H Q E h => ?_) (fun cdv A outer s H vs Q E hr h => ?_)
  · obtain ⟨v, b, rfl, _⟩ := h.ex; rfl
  · obtain ⟨v, b, rfl, hv, q⟩ := h.ex
    refine ⟨_, PSs.nox (pss_one (ps_ret (pe_and (pe_callB call_isi (by rfl) T.m_isinstance (by decide +kernel) (pa_cons (pv 0) (pa_cons (pe_bltn (v := .ty "tuple") (u := .type "tuple") (by rfl) T.m_tuple (by decide +kernel) rfl) pa_nil))) (pe_and (pe_cmp (pc_eqI (pe_callB call_len_seq (by rfl) T.m_len (by decide +kernel) (pa_cons (pv 0) pa_nil)) pe_int) rfl) (pe_one (pe_callB (cr_all rfl) (by rfl) T.m_all (by decide +kernel) (pa_cons (pe_lc rfl sc_P_is_table.nd (own := [("row", 1)]) (pi_tup (pv 0)) (blkOk_by (N := ["value", "row"]) (sc := defScope s_P_is_table) (by decide +kernel)) (fun _ _ _ _ _ => pg_name (i := 1) sc_P_is_table.nd rfl (Or.inl rfl)) (fun _ _ _ _ _ => pts_nil) (fun _ _ _ _ _ => (pe_cal C_P_is_row (hr.mono (by decide)) (pa_cons (pv 1) pa_nil)))) pa_nil))))))), ?_⟩
    cases hv with
    | out g =>
      obtain ⟨t, h1, h2⟩ := g.kit (K := K)
      exact ⟨_, rfl, _, .ty "tuple", _, _, false, rfl, .ty "tuple", h1, h2, _, rfl, q _ (Same.refl _)⟩
    | len g l =>
      refine ⟨_, rfl, _, .ty "tuple", _, _, true, rfl, .ty "tuple", .base (.tup g), (by show kitB "tuple" "tuple" = some true; decide +kernel), _, rfl, ?_⟩
      refine ⟨_, rfl, _, _, rfl, .inr (SqT.of g), _, _, rfl, rfl, _, rfl, ?_⟩
      exact ifd (fun z => absurd z (by omega)) (fun _ => q _ (Same.refl _))
    | @of t v0 v1 v2 b0 b1 b2 g r0 r1 r2 =>
      refine ⟨_, rfl, _, .ty "tuple", _, _, true, rfl, .ty "tuple", .base (.tup g), (by show kitB "tuple" "tuple" = some true; decide +kernel), _, rfl, ?_⟩
      refine ⟨_, rfl, _, _, rfl, .inr (SqT.of g), _, _, rfl, rfl, _, rfl, ?_⟩
      have at3 : ∀ (i : Nat) (u : V), [v0, v1, v2][i]? = some u → ∃ b : Bool, [b0, b1, b2][i]? = some b ∧ RowB CR H u b := fun i u hu => by
        match i, hu with
        | 0, hu => cases hu; exact ⟨_, rfl, r0⟩
        | 1, hu => cases hu; exact ⟨_, rfl, r1⟩
        | 2, hu => cases hu; exact ⟨_, rfl, r2⟩
        | n + 3, hu => simp at hu
      refine ⟨_, rfl, t, rfl, ⟨_, SqT.of g⟩, fun D hD => lc_tup (K := K) (a := t) (xs := [v0, v1, v2]) (fun i H' => Same H H' ∧ H' D = some (.lst (([b0, b1, b2].take i).map V.bl))) ⟨same_upd hD, upd_same⟩ (fun i H' _ hp => SqT.of (hp.1 _ _ g)) (fun i v H' hv hp => ?_) (fun H' hp => ?_)⟩
      · obtain ⟨e1, hd⟩ := hp
        obtain ⟨b, hb, hrow⟩ := at3 i v hv
        refine ⟨rfl, ?_⟩
        refine ⟨_, rfl, ⟨v, b, rfl, hrow.same e1, fun H2 e2 => ?_⟩⟩
        refine ⟨_, e2 _ _ hd, ?_, ?_, ?_⟩
        · rw [List.length_map]
          exact Nat.lt_of_le_of_lt (List.length_take_le' i [b0, b1, b2]) (by show 3 < _; decide)
        · intro b o eb
          rw [upd_ne (ne_of_none eb hD)]
          exact e2 _ _ (e1 _ _ eb)
        · rw [upd_same, List.take_add_one, hb, List.map_append]; rfl
      · obtain ⟨e1, hd⟩ := hp
        refine ⟨D, _, rfl, SqL.of hd, ?_⟩
        have e : ([b0, b1, b2].take [v0, v1, v2].length).all id = (b0 && b1 && b2) := by
          cases b0 <;> cases b1 <;> cases b2 <;> rfl
        rw [e]
        exact q _ e1
end
end Sf

namespace Sf
open PySem PySem.Spec PyProof.Rows L2
section
variable {X : Cx}
theorem gcd_args4 (a b c d : Value) : argsOk "math.gcd" ⟨[a, b, c, d], []⟩ := by unfold argsOk; kernel_rfl
theorem gcd_run4 (a b c d : Int) (ta tb tc td : Tok) : Gives (Builtin.«math.gcd» ⟨[.int a ta, .int b tb, .int c tc, .int d td], []⟩) (.int (((((Nat.gcd 0 a.natAbs).gcd b.natAbs).gcd c.natAbs).gcd d.natAbs : Nat) : Int)) :=
  .of_wp fun M A E s Q h => by
    obtain ⟨hp, g, d, tk, os⟩ := s
    wp_walk
    exact ⟨_, rfl, h⟩
/-- gcd of four integers -/
def rGcd4 : List V → Hp → VK → Prop := fun vs H Q => ∃ a b c d : Int, vs = [.int a, .int b, .int c, .int d] ∧ Q (.int ((((a.natAbs.gcd b.natAbs).gcd c.natAbs).gcd d.natAbs : Nat) : Int)) H
theorem cr_gcd4 : CallR X (.builtin "math.gcd") rGcd4 := by
  intro pins s σ H xs us Q I r h
  obtain ⟨a, b, c, d, rfl, q⟩ := h
  cases r with
  | cons r1 r => cases r with
    | cons r2 r => cases r with
      | cons r3 r => cases r with
        | cons r4 r =>
          cases r
          obtain ⟨t1, rfl⟩ := r1
          obtain ⟨t2, rfl⟩ := r2
          obtain ⟨t3, rfl⟩ := r3
          obtain ⟨t4, rfl⟩ := r4
          have g := gcd_run4 a b c d t1 t2 t3 t4
          rw [Nat.gcd_zero_left] at g
          exact call_function_meets PySem.W.MGF.kind_gcd PySem.W.MGF.plain_gcd PySem.W.MGF.entry_gcd (gcd_args4 _ _ _ _) g.meets ⟨.int _, H, I.tok _, ⟨_, rfl⟩, q⟩
theorem lcm_args3 (a b c : Value) : argsOk "math.lcm" ⟨[a, b, c], []⟩ := by unfold argsOk; kernel_rfl
theorem lcm_run3 (a b c : Int) (ta tb tc : Tok) (hc0 : ¬(max 1 a.natAbs).log2 / 30 + 1 > 450) (hc1 : ¬(max a.natAbs b.natAbs).log2 / 30 + 1 > 450) (hc2 : ¬(max (a.natAbs.lcm b.natAbs) c.natAbs).log2 / 30 + 1 > 450)
    (hsz : (((((Nat.lcm 1 a.natAbs).lcm b.natAbs).lcm c.natAbs : Nat) : Int)).natAbs.log2 < bitsLine) :
    Gives (Builtin.«math.lcm» ⟨[.int a ta, .int b tb, .int c tc], []⟩) (.int ((((Nat.lcm 1 a.natAbs).lcm b.natAbs).lcm c.natAbs : Nat) : Int)) :=
  .of_wp fun M A E s Q h => by
    obtain ⟨hp, g, d, tk, os⟩ := s
    have hc1' : ¬(max (Nat.lcm 1 a.natAbs) b.natAbs).log2 / 30 + 1 > 450 := by rw [Nat.lcm_one_left]; exact hc1
    have hc2' : ¬(max ((Nat.lcm 1 a.natAbs).lcm b.natAbs) c.natAbs).log2 / 30 + 1 > 450 := by rw [Nat.lcm_one_left]; exact hc2
    wp_walk
    (try (refine wpAny_ite_false (decide_eq_false (Nat.not_le.mpr hsz)) ?_; wp_walk))
    exact ⟨_, rfl, h⟩
theorem log2_ok {n k : Nat} (h : n < 2 ^ k) (hk : k ≤ 13000) : ¬ n.log2 / 30 + 1 > 450 := by
  by_cases c : n = 0
  · subst c; decide
  · have := (Nat.log2_lt c).mpr h
    omega
theorem lcm_lt {a b m n : Nat} (ha : a < 2 ^ m) (hb : b < 2 ^ n) : a.lcm b < 2 ^ (m + n) := by
  have h1 : a.lcm b ≤ a * b := by
    rw [Nat.lcm]
    exact Nat.div_le_self _ _
  exact Nat.lt_of_le_of_lt h1 (by rw [Nat.pow_add]; exact Nat.mul_lt_mul'' ha hb)
/-- the least common multiple of three integers -/
def rLcm3 : List V → Hp → VK → Prop := fun vs H Q => ∃ a b c : Int, vs = [.int a, .int b, .int c] ∧ a.natAbs < 2 ^ 3000 ∧ b.natAbs < 2 ^ 3000 ∧ c.natAbs < 2 ^ 3000 ∧ Q (.int (((a.natAbs.lcm b.natAbs).lcm c.natAbs : Nat) : Int)) H
theorem cr_lcm3 : CallR X (.builtin "math.lcm") rLcm3 := by
  intro pins s σ H xs us Q I r h
  obtain ⟨a, b, c, rfl, ha, hb, hc, q⟩ := h
  cases r with
  | cons r1 r => cases r with
    | cons r2 r => cases r with
      | cons r3 r =>
        cases r
        obtain ⟨t1, rfl⟩ := r1
        obtain ⟨t2, rfl⟩ := r2
        obtain ⟨t3, rfl⟩ := r3
        have hl := lcm_lt ha hb
        have hl2 := lcm_lt hl hc
        have m0 : max 1 a.natAbs < 2 ^ 3000 := Nat.max_lt.mpr ⟨Nat.one_lt_two_pow (by decide), ha⟩
        have m1 : max a.natAbs b.natAbs < 2 ^ 3000 := Nat.max_lt.mpr ⟨ha, hb⟩
        have m2 : max (a.natAbs.lcm b.natAbs) c.natAbs < 2 ^ (3000 + 3000) := Nat.max_lt.mpr ⟨hl, Nat.lt_of_lt_of_le hc (Nat.pow_le_pow_right (by decide) (by decide))⟩
        have hsz : ((((a.natAbs.lcm b.natAbs).lcm c.natAbs : Nat) : Int)).natAbs.log2 < bitsLine := by
          rw [Int.natAbs_natCast]
          by_cases z : (a.natAbs.lcm b.natAbs).lcm c.natAbs = 0
          · rw [z]; decide
          · exact Nat.lt_trans ((Nat.log2_lt z).mpr hl2) (by decide)
        have g := lcm_run3 a b c t1 t2 t3 (log2_ok m0 (by decide)) (log2_ok m1 (by decide)) (log2_ok m2 (by decide)) (by rw [Nat.lcm_one_left]; exact hsz)
        rw [Nat.lcm_one_left] at g
        exact call_function_meets PySem.W.MGF.kind_lcm PySem.W.MGF.plain_lcm PySem.W.MGF.entry_lcm (lcm_args3 _ _ _) g.meets ⟨.int _, H, I.tok _, ⟨_, rfl⟩, q⟩
end
end Sf

namespace Sf
open PySem PySem.Spec PyProof.Rows L2
/-- three ratios as the four without ratio part -/
def colQ (p0 p1 p2 : Int × Int) : Q5 := ⟨0, p0.1 * p1.2 * p2.2, p1.1 * p0.2 * p2.2, p2.1 * p0.2 * p1.2, p0.2 * p1.2 * p2.2⟩
theorem col_eq0 {n d t u k x y : Int} (h : n * u = t * d) : n * x * y * (u * k) = t * k * (d * x * y) := by grind
theorem col_eq1 {n d t u k x y : Int} (h : n * u = t * d) : n * x * y * (u * k) = t * k * (x * d * y) := by grind
theorem col_eq2 {n d t u k x y : Int} (h : n * u = t * d) : n * x * y * (u * k) = t * k * (x * y * d) := by grind
section
variable {P : Program} {w : World} {K : PySem.W.Frag} {mg : Str → Option Value} {base : Heap} {f : Addr} {fd : FuncData} {CR CA CF : Addr}
/-- bounds of a ratio's worth -/
def Bw (m : Nat) (p : Int × Int) : Prop := p.1.natAbs < 2 ^ m ∧ p.2.natAbs < 2 ^ m
structure ColP (CF CR CA : Addr) (vs : List V) (H : Hp) (Q : VK) : Prop where
  ex : ∃ (al c x0 x1 x2 : Addr) (a b : Int) (p0 p1 p2 : Int × Int) (m : Nat), vs = [.ref al, .ref c] ∧ AlgAt CA H al a b ∧ H c = some (.lst [.ref x0, .ref x1, .ref x2]) ∧ Rw CR H x0 p0.1 p0.2 ∧ Rw CR H x1 p1.1 p1.2 ∧ Rw CR H x2 p2.1 p2.2 ∧ Bw m p0 ∧ Bw m p1 ∧ Bw m p2 ∧ m ≤ 700 ∧
    ∀ (z : Addr) (H' : Hp), Same H H' → Wo CF CR H' z al a b (colQ p0 p1 p2) (4 * m) → Q (.ref z) H'
def spCol (CF CR CA : Addr) : Sp := fun vs H Q _ => ColP CF CR CA vs H Q
theorem ok_four_of_column (F : FnD K "four_of_column" "four_of_column" s_P_four_of_column f fd) (T : Glob mg) (O_Ratio : OwnK K CR) (RK : RatioK K CR) (C_P_made_four : Cal P w K mg base 9 "made_four" ["algebra", "entries", "bottom"] (spMadeFour CF CR CA)) : FnOk P w K mg base CX0 10 f fd ["algebra", "column"] (spCol CF CR CA) := by
  refine F.ok sc_P_four_of_column (fun vs H Q E h => ?_) (fun cdv A outer s H vs Q E hr h => ?_)
  · obtain ⟨al, c, x0, x1, x2, a, b, p0, p1, p2, m, rfl, _⟩ := h.ex; rfl
  · obtain ⟨al, c, x0, x1, x2, a, b, p0, p1, p2, m, rfl, hA, hc, h0, h1, h2, b0, b1, b2, hm, q⟩ := h.ex
    refine ⟨_, PSs.nox (pss_cons (ps_set (i := 2) sc_P_four_of_column.nd rfl (Or.inr rfl) (pe_callGB cr_lcm3 (by rfl) T.m_lcm (pa_cons (pe_fld (pe_ix ix_list (pv 1) pe_int (fun _ _ => rfl)) rfl) (pa_cons (pe_fld (pe_ix ix_list (pv 1) pe_int (fun _ _ => rfl)) rfl) (pa_cons (pe_fld (pe_ix ix_list (pv 1) pe_int (fun _ _ => rfl)) rfl) pa_nil)))))
      (pss_cons (ps_setLc (i := 3) rfl sc_P_four_of_column.nd rfl rfl (sw_true rfl rfl rfl (by decide +kernel)) (own := [("entry", 4)]) (pi_list (pv 1)) (blkOk_by (N := ["algebra", "column", "bottom", "entries", "entry"]) (sc := defScope s_P_four_of_column) (by decide +kernel)) (fun _ _ _ _ _ => pg_name (i := 4) sc_P_four_of_column.nd rfl (Or.inl rfl)) (fun _ _ _ _ _ => pts_nil) (fun _ _ _ _ _ => (pe_op op_mulW (pe_fldK (K := K) rfl (pv 4) rfl) (pe_op op_fdivW (pv 2) (pe_fldK (K := K) rfl (pv 4) rfl)))))
      (pss_one (ps_ret (pe_cal C_P_made_four (hr.mono (by decide)) (pa_cons (pv 0) (pa_cons (pe_tup (pa_cons pe_int (pa_cons (pe_ix ix_list (pv 3) pe_int (fun _ _ => rfl)) (pa_cons (pe_ix ix_list (pv 3) pe_int (fun _ _ => rfl)) (pa_cons (pe_ix ix_list (pv 3) pe_int (fun _ _ => rfl)) pa_nil))))) (pa_cons (pv 2) pa_nil)))))))), ?_⟩
    obtain ⟨t0, u0, ⟨g0, e0⟩, l0⟩ := h0.ex
    obtain ⟨t1, u1, ⟨g1, e1⟩, l1⟩ := h1.ex
    obtain ⟨t2, u2, ⟨g2, e2⟩, l2⟩ := h2.ex
    refine ⟨_, rfl, c, _, _, _, rfl, rfl, SqL.of hc, atI_nat (j := 0) rfl, x0, CR, g0, _, .int u0, rfl, e0, RK.own.cls, RK.nb, rfl, ?_⟩
    refine ⟨_, rfl, c, _, _, _, rfl, rfl, SqL.of hc, atI_nat (j := 1) rfl, x1, CR, g1, _, .int u1, rfl, e1, RK.own.cls, RK.nb, rfl, ?_⟩
    refine ⟨_, rfl, c, _, _, _, rfl, rfl, SqL.of hc, atI_nat (j := 2) rfl, x2, CR, g2, _, .int u2, rfl, e2, RK.own.cls, RK.nb, rfl, ?_⟩
    have bu : ∀ {p : Int × Int} {t u : Int}, p.2 ≠ 0 → LowT p.1 p.2 t u → Bw m p → t.natAbs < 2 ^ m ∧ u.natAbs < 2 ^ m ∧ 0 < u := fun z l bb => by
      have h := lowT_bd z l
      exact ⟨Nat.lt_of_le_of_lt h.1 bb.1, Nat.lt_of_le_of_lt h.2 bb.2, l.1⟩
    obtain ⟨bt0, bu0, up0⟩ := bu h0.b0 l0 b0
    obtain ⟨bt1, bu1, up1⟩ := bu h1.b0 l1 b1
    obtain ⟨bt2, bu2, up2⟩ := bu h2.b0 l2 b2
    refine ⟨u0, u1, u2, rfl, lt_mono bu0 (by omega), lt_mono bu1 (by omega), lt_mono bu2 (by omega), ?_⟩
    have hB : ((u0.natAbs.lcm u1.natAbs).lcm u2.natAbs) < 2 ^ (m + m + m) := lcm_lt (lcm_lt bu0 bu1) bu2
    have hpos : 0 < ((u0.natAbs.lcm u1.natAbs).lcm u2.natAbs) := Nat.lcm_pos (Nat.lcm_pos (by omega) (by omega)) (by omega)
    have d0 : u0.natAbs ∣ ((u0.natAbs.lcm u1.natAbs).lcm u2.natAbs) := Nat.dvd_trans (Nat.dvd_lcm_left _ _) (Nat.dvd_lcm_left _ _)
    have d1 : u1.natAbs ∣ ((u0.natAbs.lcm u1.natAbs).lcm u2.natAbs) := Nat.dvd_trans (Nat.dvd_lcm_right _ _) (Nat.dvd_lcm_left _ _)
    have d2 : u2.natAbs ∣ ((u0.natAbs.lcm u1.natAbs).lcm u2.natAbs) := Nat.dvd_lcm_right _ _
    generalize ((u0.natAbs.lcm u1.natAbs).lcm u2.natAbs) = B at *
    have at3 : ∀ (i : Nat) (v : V), [V.ref x0, V.ref x1, V.ref x2][i]? = some v → ∃ (x g : Addr) (t u : Int), v = .ref x ∧ H x = some (.ins CR g [("top", .int t), ("bottom", .int u), ("sign", .int (sgnI t))]) ∧ t.natAbs < 2 ^ m ∧ u.natAbs < 2 ^ m ∧ 0 < u ∧ [t0 * ((B : Int) / u0), t1 * ((B : Int) / u1), t2 * ((B : Int) / u2)][i]? = some (t * ((B : Int) / u)) := fun i v hv => by
      match i, hv with
      | 0, hv => cases hv; exact ⟨_, _, _, _, rfl, e0, bt0, bu0, up0, rfl⟩
      | 1, hv => cases hv; exact ⟨_, _, _, _, rfl, e1, bt1, bu1, up1, rfl⟩
      | 2, hv => cases hv; exact ⟨_, _, _, _, rfl, e2, bt2, bu2, up2, rfl⟩
      | n + 3, hv => simp at hv
    have divB : ∀ u : Int, ((B : Int) / u).natAbs ≤ B := fun u => by
      have := Int.natAbs_ediv_le_natAbs (B : Int) u
      simpa using this
    refine ⟨_, rfl, c, rfl, ⟨_, SqL.of hc⟩, fun D hD => lc_list (K := K) (a := c) (xs := [V.ref x0, V.ref x1, V.ref x2]) (fun i H' => Same H H' ∧ H' D = some (.lst (([t0 * ((B : Int) / u0), t1 * ((B : Int) / u1), t2 * ((B : Int) / u2)].take i).map V.int))) ⟨same_upd hD, upd_same⟩ (fun i H' _ hp => SqL.of (hp.1 _ _ hc)) (fun i v H' hv hp => ?_) (fun H' hp => ?_)⟩
    · obtain ⟨s1, hd⟩ := hp
      obtain ⟨x, g, t, u, rfl, hx, bt, bu, up, he⟩ := at3 i v hv
      refine ⟨rfl, _, rfl, x, CR, g, _, .int t, rfl, s1 _ _ hx, RK.own.cls, RK.nt, rfl, _, rfl, _, rfl, x, CR, g, _, .int u, rfl, s1 _ _ hx, RK.own.cls, RK.nb, rfl, _, _, rfl, rfl, CDivW.of up (lt_mono bu (by omega)), _, _, rfl, rfl, wmul (m := 3000) (n := 3000) (lt_mono bt (by omega)) (Nat.lt_of_le_of_lt (divB u) (Nat.lt_of_lt_of_le hB (Nat.pow_le_pow_right (by decide) (by omega)))) (by decide) (by decide) (by decide), ?_⟩
      refine ⟨_, hd, ?_, ?_, ?_⟩
      · rw [List.length_map]
        exact Nat.lt_of_le_of_lt (List.length_take_le' i _) (by show 3 < _; decide)
      · intro b o eb
        rw [upd_ne (ne_of_none eb hD)]
        exact s1 _ _ eb
      · rw [upd_same, List.take_add_one, he, List.map_append]; rfl
    · obtain ⟨s1, hd⟩ := hp
      have ed : (([t0 * ((B : Int) / u0), t1 * ((B : Int) / u1), t2 * ((B : Int) / u2)].take [V.ref x0, V.ref x1, V.ref x2].length).map V.int) = [V.int (t0 * ((B : Int) / u0)), V.int (t1 * ((B : Int) / u1)), V.int (t2 * ((B : Int) / u2))] := rfl
      rw [ed] at hd
      refine ⟨_, rfl, ?_⟩
      refine ⟨_, rfl, D, _, _, _, rfl, rfl, SqL.of hd, atI_nat (j := 0) rfl, _, rfl, D, _, _, _, rfl, rfl, SqL.of hd, atI_nat (j := 1) rfl, _, rfl, D, _, _, _, rfl, rfl, SqL.of hd, atI_nat (j := 2) rfl, (by show 4 ≤ sizeLine; decide), fun e he => ?_⟩
      have ke := same_upd (o := .tup [V.int 0, V.int (t0 * ((B : Int) / u0)), V.int (t1 * ((B : Int) / u1)), V.int (t2 * ((B : Int) / u2))]) he
      have sB := s1.trans ke
      have ent : ∀ {t u : Int}, t.natAbs < 2 ^ m → (t * ((B : Int) / u)).natAbs < 2 ^ (4 * m) := fun {t u} ht => by
        rw [Int.natAbs_mul, show 4 * m = m + (m + m + m) by omega, Nat.pow_add]
        exact Nat.mul_lt_mul'' ht (Nat.lt_of_le_of_lt (divB u) hB)
      have B4 : ((B : Int)).natAbs < 2 ^ (4 * m) := by
        rw [Int.natAbs_natCast]
        exact Nat.lt_of_lt_of_le hB (Nat.pow_le_pow_right (by decide) (by omega))
      have bs : Bd (4 * m) ⟨0, t0 * ((B : Int) / u0), t1 * ((B : Int) / u1), t2 * ((B : Int) / u2), (B : Int)⟩ := ⟨Nat.two_pow_pos _, ent bt0, ent bt1, ent bt2, B4⟩
      have dB : (B : Int) ≠ 0 := by omega
      refine ⟨_, rfl, ⟨al, e, a, b, ⟨0, t0 * ((B : Int) / u0), t1 * ((B : Int) / u1), t2 * ((B : Int) / u2), (B : Int)⟩, rfl, hA.same sB, upd_same, dB, lt_mono B4 (by omega), fun r hr => bd_mono (low5_bd dB hr bs) (by omega), fun r z H3 hr hz s3 hF => ?_⟩⟩
      refine q z H3 (sB.trans s3) ⟨⟨r, hF, low5_mk hr.nrm (Cross.trans ?_ hr.cross dB), low5_bd dB hr bs⟩, Int.mul_ne_zero (Int.mul_ne_zero h0.b0 h1.b0) h2.b0⟩
      have dv : ∀ {u : Int}, 0 < u → u.natAbs ∣ B → ∃ k, (B : Int) = u * k ∧ (B : Int) / u = k := fun {u} hu hd => by
        obtain ⟨k, hk⟩ := (Int.natAbs_dvd_natAbs.mp (by rw [Int.natAbs_natCast]; exact hd) : u ∣ (B : Int))
        exact ⟨k, hk, by rw [hk]; exact Int.mul_ediv_cancel_left k (by omega)⟩
      obtain ⟨k0, f0, c0⟩ := dv up0 d0
      obtain ⟨k1, f1, c1⟩ := dv up1 d1
      obtain ⟨k2, f2, c2⟩ := dv up2 d2
      rw [c0, c1, c2]
      have y0 := l0.2.1
      have y1 := l1.2.1
      have y2 := l2.2.1
      have z0 : p0.1 * p1.2 * p2.2 * (B : Int) = t0 * k0 * (p0.2 * p1.2 * p2.2) := by
        rw [f0]
        exact col_eq0 y0
      have z1 : p1.1 * p0.2 * p2.2 * (B : Int) = t1 * k1 * (p0.2 * p1.2 * p2.2) := by
        rw [f1]
        exact col_eq1 y1
      have z2 : p2.1 * p0.2 * p1.2 * (B : Int) = t2 * k2 * (p0.2 * p1.2 * p2.2) := by
        rw [f2]
        exact col_eq2 y2
      exact ⟨by show (0 : Int) * _ = 0 * _; rw [Int.zero_mul, Int.zero_mul], z0, z1, z2⟩
end
end Sf

namespace Sf
open PySem PySem.Spec PyProof.Rows L2
/-- a column of a table as a four -/
def colM (m : Nat → Nat → Int × Int) (j : Nat) : Q5 := colQ (m 0 j) (m 1 j) (m 2 j)
section
variable {P : Program} {w : World} {K : PySem.W.Frag} {mg : Str → Option Value} {base : Heap} {f : Addr} {fd : FuncData} {CR CA CF : Addr}
structure ImgP (CF CR CA : Addr) (vs : List V) (H : Hp) (Q : VK) : Prop where
  ex : ∃ (al t : Addr) (a b : Int) (m : Nat → Nat → Int × Int) (k : Nat), vs = [.ref al, .ref t] ∧ AlgAt CA H al a b ∧ Tab CR H t m ∧ (∀ i j, i < 3 → j < 3 → Bw k (m i j)) ∧ k ≤ 700 ∧
    ∀ (L z0 z1 z2 : Addr) (H' : Hp), Same H H' → H' L = some (.lst [.ref z0, .ref z1, .ref z2]) → Wo CF CR H' z0 al a b (colM m 0) (4 * k) → Wo CF CR H' z1 al a b (colM m 1) (4 * k) → Wo CF CR H' z2 al a b (colM m 2) (4 * k) → Q (.ref L) H'
def spImg (CF CR CA : Addr) : Sp := fun vs H Q _ => ImgP CF CR CA vs H Q
theorem ok_images_of (F : FnD K "images_of" "images_of" s_P_images_of f fd) (T : Glob mg) (C_P_four_of_column : Cal P w K mg base 10 "four_of_column" ["algebra", "column"] (spCol CF CR CA)) : FnOk P w K mg base CX0 11 f fd ["algebra", "table"] (spImg CF CR CA) := by
  refine F.ok sc_P_images_of (fun vs H Q E h => ?_) (fun cdv A outer s H vs Q E hr h => ?_)
  · obtain ⟨al, t, a, b, m, k, rfl, _⟩ := h.ex; rfl
  · obtain ⟨al, t, a, b, m, k, rfl, hA, ht, hB, hk, q⟩ := h.ex
    refine ⟨_, PSs.nox (pss_one (ps_ret (pe_lc rfl sc_P_images_of.nd (own := [("at", 3)]) (pi_range1 (by rfl) T.m_range (pa_cons pe_int pa_nil)) (blkOk_by (N := ["algebra", "table", "row", "at"]) (sc := defScope s_P_images_of) (by decide +kernel)) (fun _ _ _ _ _ => pg_name (i := 3) sc_P_images_of.nd rfl (Or.inr rfl)) (fun _ _ _ _ _ => pts_nil) (fun _ _ _ _ _ => (pe_cal C_P_four_of_column (hr.mono (by decide)) (pa_cons (pv 0) (pa_cons (pe_lc rfl sc_P_images_of.nd (own := [("row", 2)]) (pi_tupK (K := K) rfl (pv 1)) (blkOk_by (by kernel_rfl)) (fun _ _ _ _ _ => pg_name (i := 2) sc_P_images_of.nd rfl (Or.inl rfl)) (fun _ _ _ _ _ => pts_nil) (fun _ _ _ _ _ => (pe_ix (r := rIxT K) ix_tup (pv 2) (pv 3) (fun _ _ => rfl)))) pa_nil))))))), ?_⟩
    obtain ⟨r0, r1, r2, h0, hr0, hr1, hr2⟩ := ht.ex
    have at3 : ∀ (i : Nat) (v : V), [V.ref r0, V.ref r1, V.ref r2][i]? = some v → ∃ r, v = .ref r ∧ i < 3 ∧ RowOk CR H m i r := fun i v hv => by
      match i, hv with
      | 0, hv => cases hv; exact ⟨_, rfl, by decide, hr0⟩
      | 1, hv => cases hv; exact ⟨_, rfl, by decide, hr1⟩
      | 2, hv => cases hv; exact ⟨_, rfl, by decide, hr2⟩
      | n + 3, hv => simp at hv
    refine ⟨3, rfl, by decide, by decide, fun D hD => lc_range (lo := 0) (n := 3) (fun j H' => ∃ zs : List Addr, zs.length = j ∧ (∀ k0 z, zs[k0]? = some z → Wo CF CR H' z al a b (colM m k0) (4 * k)) ∧ Same H H' ∧ H' D = some (.lst (zs.map V.ref))) ⟨[], rfl, fun k r h => by simp at h, same_upd hD, upd_same⟩ (fun j H1 hj hP => ?_) (fun H1 hP => ?_)⟩
    · obtain ⟨zs, hzl, hzw, s1, hd1⟩ := hP
      have htS := s1 _ _ h0
      refine ⟨rfl, _, rfl, _, rfl, t, rfl, ⟨_, SqT.of htS⟩, fun D3 hD3 => lc_tup (K := K) (a := t) (xs := [V.ref r0, V.ref r1, V.ref r2]) (fun i H2 => ∃ xs : List Addr, xs.length = i ∧ (∀ k0 x, xs[k0]? = some x → Rw CR H2 x (m k0 j).1 (m k0 j).2) ∧ Same H1 H2 ∧ H2 D3 = some (.lst (xs.map V.ref))) ⟨[], rfl, fun k y h => by simp at h, same_upd hD3, upd_same⟩ (fun i H2 hi hP => SqT.of (hP.choose_spec.2.2.1 _ _ htS)) (fun i v H2 hv hP => ?_) (fun H2 hP => ?_)⟩
      · obtain ⟨xs, hxl, hxw, s2, hd2⟩ := hP
        obtain ⟨r, rfl, hi, hr⟩ := at3 i v hv
        obtain ⟨x0, x1, x2, g, g0, g1, g2⟩ := ((hr.same s1).same s2).ex
        have ax : ∃ x, [V.ref x0, V.ref x1, V.ref x2][j]? = some (.ref x) ∧ Rw CR H2 x (m i j).1 (m i j).2 := by
          have c : j = 0 ∨ j = 1 ∨ j = 2 := by omega
          rcases c with rfl | rfl | rfl
          · exact ⟨x0, rfl, g0⟩
          · exact ⟨x1, rfl, g1⟩
          · exact ⟨x2, rfl, g2⟩
        obtain ⟨x, hx, wx⟩ := ax
        refine ⟨rfl, ?_⟩
        refine ⟨_, rfl, _, rfl, r, _, _, .ref x, rfl, rfl, SqT.of g, by rw [Int.zero_add]; exact atI_nat hx, ?_⟩
        refine ⟨_, hd2, ?_, xs ++ [x], ?_, fun k0 y hk => ?_, fun d o ed => ?_, ?_⟩
        · rw [List.length_map, hxl]
          exact Nat.lt_of_lt_of_le (by omega : i < 1000000) (by decide)
        · rw [List.length_append, hxl]; rfl
        · rcases Nat.lt_or_ge k0 xs.length with h | h
          · rw [List.getElem?_append_left h] at hk
            exact (hxw k0 y hk).updL hd2
          · rw [List.getElem?_append_right h] at hk
            have k0e : k0 = xs.length := by
              rcases Nat.lt_or_ge (k0 - xs.length) 1 with c | c
              · omega
              · rw [List.getElem?_eq_none (by simpa using c)] at hk
                cases hk
            rw [k0e, Nat.sub_self] at hk
            cases hk
            rw [k0e, hxl]
            exact wx.updL hd2
        · rw [upd_ne (ne_of_none ed hD3)]
          exact s2 _ _ ed
        · rw [upd_same, List.map_append]; rfl
      · obtain ⟨xs, hxl, hxw, s2, hd2⟩ := hP
        obtain ⟨x0, x1, x2, rfl⟩ : ∃ a b c : Addr, xs = [a, b, c] := by
          match xs, hxl with
          | [a, b, c], _ => exact ⟨a, b, c, rfl⟩
        have s12 := s1.trans s2
        refine ⟨al, D3, x0, x1, x2, a, b, m 0 j, m 1 j, m 2 j, k, rfl, hA.same s12, hd2, hxw 0 x0 rfl, hxw 1 x1 rfl, hxw 2 x2 rfl, hB 0 j (by decide) (by omega), hB 1 j (by decide) (by omega), hB 2 j (by decide) (by omega), hk, fun z H3 s3 w3 => ?_⟩
        have hd3 := s3 _ _ (s2 _ _ hd1)
        refine ⟨_, hd3, ?_, zs ++ [z], ?_, fun k0 y hk => ?_, fun d o ed => ?_, ?_⟩
        · rw [List.length_map, hzl]
          exact Nat.lt_of_lt_of_le (by omega : j < 1000000) (by decide)
        · rw [List.length_append, hzl]; rfl
        · rcases Nat.lt_or_ge k0 zs.length with h | h
          · rw [List.getElem?_append_left h] at hk
            exact (((hzw k0 y hk).same s2).same s3).updL hd3
          · rw [List.getElem?_append_right h] at hk
            have k0e : k0 = zs.length := by
              rcases Nat.lt_or_ge (k0 - zs.length) 1 with c | c
              · omega
              · rw [List.getElem?_eq_none (by simpa using c)] at hk
                cases hk
            rw [k0e, Nat.sub_self] at hk
            cases hk
            rw [k0e, hzl]
            exact w3.updL hd3
        · rw [upd_ne (ne_of_none ed hD)]
          exact s3 _ _ (s2 _ _ (s1 _ _ ed))
        · rw [upd_same, List.map_append]; rfl
    · obtain ⟨zs, hzl, hzw, s1, hd1⟩ := hP
      obtain ⟨z0, z1, z2, rfl⟩ : ∃ a b c : Addr, zs = [a, b, c] := by
        match zs, hzl with
        | [a, b, c], _ => exact ⟨a, b, c, rfl⟩
      exact q D z0 z1 z2 _ s1 hd1 (hzw 0 z0 rfl) (hzw 1 z1 rfl) (hzw 2 z2 rfl)
end
end Sf

namespace Sf
open PySem PySem.Spec PyProof.Rows L2
/-- a table is a turn: its columns are i, j and k again -/
structure IsTrn (a b : Int) (m : Nat → Nat → Int × Int) : Prop where
  x : Cross (prodQ a b (colM m 0) (colM m 0)) ⟨a, 0, 0, 0, 1⟩
  y : Cross (prodQ a b (colM m 1) (colM m 1)) ⟨b, 0, 0, 0, 1⟩
  z : Cross (prodQ a b (colM m 0) (colM m 1)) (colM m 2)
section
variable {P : Program} {w : World} {K : PySem.W.Frag} {mg : Str → Option Value} {base : Heap} {f : Addr} {fd : FuncData} {CR CA CF : Addr}
theorem wo_scaledI {H : Hp} {x al : Addr} {a b : Int} {e : Q5} {t : Int} {n : Nat} {Q : VK} (hA : AlgAt CA H al a b) (hx : Wo CF CR H x al a b e n) (ht : t.natAbs < 2 ^ 10) (hn : n ≤ 1000)
    (q : ∀ (z : Addr) (H' : Hp), Same H H' → Wo CF CR H' z al a b (sclQ t 1 e) (n + 10) → Q (.ref z) H') : ScaledP CF CR CA [.ref x, .int t] H Q := by
  obtain ⟨r, hF, hl, hb⟩ := hx.ex
  have r0 : r.d ≠ 0 := by have := hl.1; omega
  have d0 : (sclQ t 1 r).d ≠ 0 := Int.mul_ne_zero r0 (by decide)
  exact ⟨x, al, a, b, t, 1, .int t, r, rfl, hF, hA, .int (Nat.lt_of_lt_of_le ht (by decide)), by decide, lt_mono ht (by decide), by show 1 < _; exact Nat.one_lt_two_pow (by decide), bd_mono hb (by omega), fun s z H' hs hz e1 hF' => q z H' e1 ⟨⟨s, hF', low5_mk hs.nrm ((cross_scl hl.cross rfl).trans hs.cross d0), low5_bd d0 hs (sclQ_bd hb ht (by decide))⟩, Int.mul_ne_zero hx.d0 (by decide)⟩⟩
theorem four_eqF {H : Hp} {x y al : Addr} {a b : Int} {e f : Q5} {m n : Nat} {R : VK} (hA : AlgAt CA H al a b) (hx : Wo CF CR H x al a b e m) (hy : Wo CF CR H y al a b f n) (hc : ¬ Cross e f) (q : R (.bl false) H) : rOwn CF (spFourEq CF CR CA) E0 (.ref x) (.ref y) H R :=
  ⟨x, y, rfl, rfl, hx.ins, hy.ins, wo_feq hA hx hy False (by simp [hc]) (by simpa using q)⟩
structure IsTurnP (CF CR CA : Addr) (vs : List V) (H : Hp) (Q : VK) : Prop where
  ex : ∃ (al : Addr) (a b : Int) (v : V), vs = [.ref al, v] ∧ AlgAt CA H al a b ∧ a.natAbs < 2 ^ 10 ∧ b.natAbs < 2 ^ 10 ∧
    ((TabB CR H v false ∧ ∀ H', Same H H' → Q (.bl false) H') ∨ ∃ (t : Addr) (m : Nat → Nat → Int × Int) (k : Nat), v = .ref t ∧ Tab CR H t m ∧ (∀ i j, i < 3 → j < 3 → Bw k (m i j)) ∧ k ≤ 300 ∧ ∀ (r : Bool) (H' : Hp), Same H H' → (r = true ↔ IsTrn a b m) → Q (.bl r) H')
def spIsTurn (CF CR CA : Addr) : Sp := fun vs H Q _ => IsTurnP CF CR CA vs H Q
theorem ok_is_turn (F : FnD K "is_turn" "is_turn" s_P_is_turn f fd) (R : FourK K CF) (RA : AlgK K CA) (C_P_check_algebra : Cal P w K mg base 1 "check_algebra" ["value"] (spIsAlg CA)) (C_P_is_table : Cal P w K mg base 3 "is_table" ["value"] (spIsTable CR)) (C_P_images_of : Cal P w K mg base 11 "images_of" ["algebra", "table"] (spImg CF CR CA)) (O_Four : OwnK K CF) (O_Algebra : OwnK K CA)
    (M_Four_mul : CalM P w K mg base 10 "__mul__" CF ["self", "other"] (spFourOp CF CR CA prodQ)) (M_Four_eq : CalM P w K mg base 2 "__eq__" CF ["self", "value"] (spFourEq CF CR CA)) (M_Four_scaled : CalM P w K mg base 10 "scaled" CF ["self", "ratio"] (spScaled CF CR CA)) (M_Algebra_basis : CalM P w K mg base 9 "basis" CA ["self"] (spBasis CF CR CA)) :
    FnOk P w K mg base CX0 12 f fd ["algebra", "value"] (spIsTurn CF CR CA) := by
  refine F.ok sc_P_is_turn (fun vs H Q E h => ?_) (fun cdv A outer s H vs Q E hr h => ?_)
  · obtain ⟨al, a, b, v, rfl, _⟩ := h.ex; rfl
  · obtain ⟨al, a, b, v, rfl, hA, ba, bb, q⟩ := h.ex
    refine ⟨_, PSs.nox (pss_cons (ps_expr (pe_cal C_P_check_algebra (hr.mono (by decide)) (pa_cons (pv 0) pa_nil)))
      (pss_cons (ps_if (pt_not (pt_val (pe_cal C_P_is_table (hr.mono (by decide)) (pa_cons (pv 1) pa_nil)))) (pss_one (ps_ret pe_bl)) pss_nil)
      (pss_cons (ps_asg (pe_cal C_P_images_of (hr.mono (by decide)) (pa_cons (pv 0) (pa_cons (pv 1) pa_nil))) (pg_lst (by rfl) (pgs_cons (pg_name (i := 2) sc_P_is_turn.nd rfl (Or.inl rfl)) (pgs_cons (pg_name (i := 3) sc_P_is_turn.nd rfl (Or.inl rfl)) (pgs_cons (pg_name (i := 4) sc_P_is_turn.nd rfl (Or.inl rfl)) pgs_nil)))))
      (pss_cons (ps_set (i := 5) sc_P_is_turn.nd rfl (Or.inl rfl) (pe_ix ix_tup (pe_meth0 (pv 0) O_Algebra.cls M_Algebra_basis.me M_Algebra_basis.ok (hr.mono (by decide)) M_Algebra_basis.b .nil pass0) pe_int (fun _ _ => rfl)))
      (pss_one (ps_ret (pe_and (pe_cmpR (eq_own M_Four_eq.me M_Four_eq.ok (hr.mono (by decide)) M_Four_eq.b pass0) (pe_op (op_own (M_Four_mul.me.cast (by decide +kernel)) M_Four_mul.ok (hr.mono (by decide)) M_Four_mul.b pass0 O_Four.sf) (pv 2) (pv 2)) (pe_meth (pv 5) O_Four.cls M_Four_scaled.me M_Four_scaled.ok (hr.mono (by decide)) M_Four_scaled.b .nil pass0 (pa_cons (pe_fld (pv 0) rfl) pa_nil)) (nomark _)) (pe_and (pe_cmpR (eq_own M_Four_eq.me M_Four_eq.ok (hr.mono (by decide)) M_Four_eq.b pass0) (pe_op (op_own (M_Four_mul.me.cast (by decide +kernel)) M_Four_mul.ok (hr.mono (by decide)) M_Four_mul.b pass0 O_Four.sf) (pv 3) (pv 3)) (pe_meth (pv 5) O_Four.cls M_Four_scaled.me M_Four_scaled.ok (hr.mono (by decide)) M_Four_scaled.b .nil pass0 (pa_cons (pe_fld (pv 0) rfl) pa_nil)) (nomark _)) (pe_one (pe_cmpR (eq_own M_Four_eq.me M_Four_eq.ok (hr.mono (by decide)) M_Four_eq.b pass0) (pe_op (op_own (M_Four_mul.me.cast (by decide +kernel)) M_Four_mul.ok (hr.mono (by decide)) M_Four_mul.b pass0 O_Four.sf) (pv 2) (pv 3)) (pv 4) (nomark _))))))))))), ?_⟩
    obtain ⟨dA, pl, l, hA1, _⟩ := id hA.ex
    refine ⟨_, rfl, ⟨al, a, b, rfl, hA, ?_⟩⟩
    rcases q with ⟨hv, q⟩ | ⟨t, m, k, rfl, ht, hB, hk, q⟩
    · refine ⟨_, rfl, ⟨v, false, rfl, hv, fun H1 s1 => ?_⟩⟩
      exact ⟨_, rfl, q _ s1⟩
    refine ⟨_, rfl, ⟨_, true, rfl, ht.tabB, fun H1 s1 => ?_⟩⟩
    refine ⟨_, rfl, ?_⟩
    refine ⟨_, rfl, _, rfl, ⟨al, t, a, b, m, k, rfl, hA.same s1, ht.same s1, hB, by omega, fun L z0 z1 z2 H2 s2 hL w0 w1 w2 => ?_⟩⟩
    refine ⟨L, _, rfl, SqL.of hL, rfl, _, _, rfl, _, _, rfl, _, _, rfl, rfl, ?_⟩
    have s12 := s1.trans s2
    refine ⟨_, rfl, al, dA, _, rfl, s12 _ _ hA1, rfl, ⟨al, a, b, rfl, hA.same s12, fun u0 u1 u2 u3 tt H3 s3 htt f0 _ _ _ => ?_⟩⟩
    refine ⟨tt, _, _, _, rfl, rfl, SqT.of htt, atI_nat (j := 0) rfl, ?_⟩
    have s13 := s12.trans s3
    have wu : Wo CF CR H3 u0 al a b ⟨1, 0, 0, 0, 1⟩ 2 := Wo.of f0 ⟨by decide, by decide, by decide, by decide, by decide⟩
    replace w0 := w0.same s3
    replace w1 := w1.same s3
    replace w2 := w2.same s3
    replace hA := hA.same s13
    have ga := s13 _ _ hA1
    clear hA1 f0 htt hL s1 s2 s3 s12
    have ba2 : a.natAbs < 2 ^ 20 := lt_mono ba (by decide)
    have bb2 : b.natAbs < 2 ^ 20 := lt_mono bb (by decide)
    have k4 : 4 * k ≤ 1400 := by omega
    refine ⟨_, rfl, _, rfl, wo_mul ba2 bb2 hA w0 w0 k4 k4 fun p1 H4 s4 v1 => ?_⟩
    have wu4 := wu.same s4
    obtain ⟨du, eu, tu, nu, ru, gu, _⟩ := wu4.fld
    have sc1 : ∀ n : Int, sclQ n 1 ⟨1, 0, 0, 0, 1⟩ = ⟨n, 0, 0, 0, 1⟩ := fun n => by
      unfold sclQ
      simp
    have s14 := s13.trans s4
    refine ⟨_, rfl, u0, du, _, rfl, gu, rfl, _, rfl, al, CA, dA, _, .int a, rfl, s4 _ _ ga, RA.own.cls, RA.n2, rfl, wo_scaledI (hA.same s4) wu4 ba (by decide) fun p2 H5 s5 v2 => ?_⟩
    rw [sc1] at v2
    have s45 := s4.trans s5
    by_cases cx : ¬ Cross (prodQ a b (colM m 0) (colM m 0)) ⟨a, 0, 0, 0, 1⟩
    · exact four_eqF (hA.same s45) (v1.same s5) v2 cx ⟨_, rfl, q false _ (s14.trans s5) ⟨fun z => Bool.noConfusion z, fun z => absurd z.x cx⟩⟩
    replace cx := Classical.not_not.mp cx
    refine four_eq (hA.same s45) (v1.same s5) v2 cx ⟨_, rfl, ?_⟩
    refine ⟨_, rfl, _, rfl, wo_mul ba2 bb2 (hA.same s45) (w1.same s45) (w1.same s45) k4 k4 fun p3 H6 s6 v3 => ?_⟩
    have s46 := s45.trans s6
    have wu6 := wu.same s46
    obtain ⟨du, eu, tu, nu, ru, gu, _⟩ := wu6.fld
    refine ⟨_, rfl, u0, du, _, rfl, gu, rfl, _, rfl, al, CA, dA, _, .int b, rfl, s46 _ _ ga, RA.own.cls, RA.n3, rfl, wo_scaledI (hA.same s46) wu6 bb (by decide) fun p4 H7 s7 v4 => ?_⟩
    rw [sc1] at v4
    have s47 := s46.trans s7
    by_cases cy : ¬ Cross (prodQ a b (colM m 1) (colM m 1)) ⟨b, 0, 0, 0, 1⟩
    · exact four_eqF (hA.same s47) (v3.same s7) v4 cy ⟨_, rfl, q false _ (s13.trans s47) ⟨fun z => Bool.noConfusion z, fun z => absurd z.y cy⟩⟩
    replace cy := Classical.not_not.mp cy
    refine four_eq (hA.same s47) (v3.same s7) v4 cy ⟨_, rfl, ?_⟩
    refine ⟨_, rfl, _, rfl, wo_mul ba2 bb2 (hA.same s47) (w0.same s47) (w1.same s47) k4 k4 fun p5 H8 s8 v5 => ?_⟩
    have s48 := s47.trans s8
    by_cases cz : Cross (prodQ a b (colM m 0) (colM m 1)) (colM m 2)
    · exact ⟨_, rfl, four_eq (hA.same s48) v5 (w2.same s48) cz (q true _ (s13.trans s48) ⟨fun _ => ⟨cx, cy, cz⟩, fun _ => rfl⟩)⟩
    · exact ⟨_, rfl, four_eqF (hA.same s48) v5 (w2.same s48) cz (q false _ (s13.trans s48) ⟨fun z => Bool.noConfusion z, fun z => absurd z.z cz⟩)⟩
end
end Sf

namespace Sf
open PySem PySem.Spec PyProof.Rows L2
/-- s is e times a ratio -/
def Prop5 (e s : Q5) : Prop := ∃ u v : Int, u ≠ 0 ∧ v ≠ 0 ∧ s.w * u = e.w * v ∧ s.x * u = e.x * v ∧ s.y * u = e.y * v ∧ s.z * u = e.z * v
def Nz (e : Q5) : Prop := ¬ (e.w = 0 ∧ e.x = 0 ∧ e.y = 0 ∧ e.z = 0)
/-- nothing but 1 divides all four -/
def Cop (s : Q5) : Prop := ∀ k : Nat, k ∣ s.w.natAbs → k ∣ s.x.natAbs → k ∣ s.y.natAbs → k ∣ s.z.natAbs → k = 1
section
variable {P : Program} {w : World} {K : PySem.W.Frag} {mg : Str → Option Value} {base : Heap} {f : Addr} {fd : FuncData} {CR CA CF : Addr}
structure PrimP (CF CR CA : Addr) (vs : List V) (H : Hp) (Q : VK) : Prop where
  ex : ∃ (x al : Addr) (a b : Int) (e : Q5) (n : Nat), vs = [.ref x] ∧ AlgAt CA H al a b ∧ Wo CF CR H x al a b e n ∧ n ≤ 2900 ∧ Nz e ∧
    ∀ (s : Q5) (z : Addr) (H' : Hp), Same H H' → Prop5 e s → s.d = 1 → Nz s → Cop s → Wo CF CR H' z al a b s (n + 1) → Q (.ref z) H'
def spPrim (CF CR CA : Addr) : Sp := fun vs H Q _ => PrimP CF CR CA vs H Q
theorem ok_primitive (F : FnD K "primitive" "primitive" s_P_primitive f fd) (T : Glob mg) (R : FourK K CF) (C_P_made_four : Cal P w K mg base 9 "made_four" ["algebra", "entries", "bottom"] (spMadeFour CF CR CA)) : FnOk P w K mg base CX0 10 f fd ["four"] (spPrim CF CR CA) := by
  refine F.ok sc_P_primitive (fun vs H Q E h => ?_) (fun cdv A outer s H vs Q E hr h => ?_)
  · obtain ⟨x, al, a, b, e, n, rfl, _⟩ := h.ex; rfl
  · obtain ⟨x, al, a, b, e, n, rfl, hA, hx, hn, nz, q⟩ := h.ex
    refine ⟨_, PSs.nox (pss_cons (ps_asg (pe_fld (pv 0) rfl) (pg_tup (by rfl) (pgs_cons (pg_name (i := 1) sc_P_primitive.nd rfl (Or.inl rfl)) (pgs_cons (pg_name (i := 2) sc_P_primitive.nd rfl (Or.inl rfl)) (pgs_cons (pg_name (i := 3) sc_P_primitive.nd rfl (Or.inl rfl)) (pgs_cons (pg_name (i := 4) sc_P_primitive.nd rfl (Or.inl rfl)) pgs_nil))))))
      (pss_cons (ps_set (i := 5) sc_P_primitive.nd rfl (Or.inl rfl) (pe_callGB cr_gcd4 (by rfl) T.m_gcd (pa_cons (pv 1) (pa_cons (pv 2) (pa_cons (pv 3) (pa_cons (pv 4) pa_nil))))))
      (pss_one (ps_ret (pe_cal C_P_made_four (hr.mono (by decide)) (pa_cons (pe_fld (pv 0) rfl) (pa_cons (pe_tup (pa_cons (pe_op op_fdivW (pv 1) (pv 5)) (pa_cons (pe_op op_fdivW (pv 2) (pv 5)) (pa_cons (pe_op op_fdivW (pv 3) (pv 5)) (pa_cons (pe_op op_fdivW (pv 4) (pv 5)) pa_nil))))) (pa_cons pe_int pa_nil)))))))), ?_⟩
    obtain ⟨dx, e1, tr, nm, r, g1, u1, hl, hb, _, _⟩ := hx.fld
    refine ⟨_, rfl, x, CF, dx, _, .ref e1, rfl, g1, R.own.cls, R.n2, rfl, e1, _, rfl, SqT.of u1, rfl, _, _, rfl, _, _, rfl, _, _, rfl, _, _, rfl, rfl, ?_⟩
    refine ⟨_, rfl, _, rfl, _, rfl, _, rfl, r.w, r.x, r.y, r.z, rfl, ?_⟩
    have hc := hl.cross
    have rp : 0 < r.d := hl.1
    have ed := hx.d0
    have nzr : Nz r := fun z => nz (by
      have k : ∀ {p q : Int}, p * r.d = q * e.d → q = 0 → p = 0 := fun h z => by
        rw [z, Int.zero_mul] at h
        exact (Int.mul_eq_zero.mp h).resolve_right (by omega)
      exact ⟨k hc.1 z.1, k hc.2.1 z.2.1, k hc.2.2.1 z.2.2.1, k hc.2.2.2 z.2.2.2⟩)
    have gw : ((r.w.natAbs.gcd r.x.natAbs).gcd r.y.natAbs).gcd r.z.natAbs ∣ r.w.natAbs := Nat.dvd_trans (Nat.gcd_dvd_left _ _) (Nat.dvd_trans (Nat.gcd_dvd_left _ _) (Nat.gcd_dvd_left _ _))
    have gx : ((r.w.natAbs.gcd r.x.natAbs).gcd r.y.natAbs).gcd r.z.natAbs ∣ r.x.natAbs := Nat.dvd_trans (Nat.gcd_dvd_left _ _) (Nat.dvd_trans (Nat.gcd_dvd_left _ _) (Nat.gcd_dvd_right _ _))
    have gy : ((r.w.natAbs.gcd r.x.natAbs).gcd r.y.natAbs).gcd r.z.natAbs ∣ r.y.natAbs := Nat.dvd_trans (Nat.gcd_dvd_left _ _) (Nat.gcd_dvd_right _ _)
    have gz : ((r.w.natAbs.gcd r.x.natAbs).gcd r.y.natAbs).gcd r.z.natAbs ∣ r.z.natAbs := Nat.gcd_dvd_right _ _
    have gp : 0 < ((r.w.natAbs.gcd r.x.natAbs).gcd r.y.natAbs).gcd r.z.natAbs := by
      rcases Nat.eq_zero_or_pos (((r.w.natAbs.gcd r.x.natAbs).gcd r.y.natAbs).gcd r.z.natAbs) with c | c
      · rw [c] at gw gx gy gz
        exact absurd ⟨Int.natAbs_eq_zero.mp (Nat.eq_zero_of_zero_dvd gw), Int.natAbs_eq_zero.mp (Nat.eq_zero_of_zero_dvd gx), Int.natAbs_eq_zero.mp (Nat.eq_zero_of_zero_dvd gy), Int.natAbs_eq_zero.mp (Nat.eq_zero_of_zero_dvd gz)⟩ nzr
      · exact c
    have gb : ((r.w.natAbs.gcd r.x.natAbs).gcd r.y.natAbs).gcd r.z.natAbs < 2 ^ n := by
      have k : ∀ {i : Int}, ((r.w.natAbs.gcd r.x.natAbs).gcd r.y.natAbs).gcd r.z.natAbs ∣ i.natAbs → i.natAbs < 2 ^ n → i ≠ 0 → ((r.w.natAbs.gcd r.x.natAbs).gcd r.y.natAbs).gcd r.z.natAbs < 2 ^ n := fun h l z => Nat.lt_of_le_of_lt (Nat.le_of_dvd (by omega) h) l
      by_cases c1 : r.w = 0
      · by_cases c2 : r.x = 0
        · by_cases c3 : r.y = 0
          · exact k gz hb.2.2.2.1 (fun c4 => nzr ⟨c1, c2, c3, c4⟩)
          · exact k gy hb.2.2.1 c3
        · exact k gx hb.2.1 c2
      · exact k gw hb.1 c1
    have gg : ∀ k, k ∣ r.w.natAbs → k ∣ r.x.natAbs → k ∣ r.y.natAbs → k ∣ r.z.natAbs → k ∣ ((r.w.natAbs.gcd r.x.natAbs).gcd r.y.natAbs).gcd r.z.natAbs := fun k a b c d => Nat.dvd_gcd (Nat.dvd_gcd (Nat.dvd_gcd a b) c) d
    generalize ((r.w.natAbs.gcd r.x.natAbs).gcd r.y.natAbs).gcd r.z.natAbs = g at *
    have Z : ∀ i, CDivW i (g : Int) := fun i => CDivW.of (by omega) (lt_mono (n := 3000) (i := (g : Int)) (m := n) (by rw [Int.natAbs_natCast]; exact gb) (by omega))
    refine ⟨_, rfl, x, CF, dx, _, .ref al, rfl, g1, R.own.cls, R.n1, rfl, ?_⟩
    refine ⟨_, rfl, _, rfl, _, _, rfl, rfl, Z _, _, rfl, _, rfl, _, _, rfl, rfl, Z _, _, rfl, _, rfl, _, _, rfl, rfl, Z _, _, rfl, _, rfl, _, _, rfl, rfl, Z _, (by show 4 ≤ sizeLine; decide), fun c hc2 => ?_⟩
    have ke := same_upd (o := .tup [V.int (r.w / g), V.int (r.x / g), V.int (r.y / g), V.int (r.z / g)]) hc2
    have le : ∀ {i : Int}, i.natAbs < 2 ^ n → (i / (g : Int)).natAbs < 2 ^ (n + 1) := fun h => Nat.lt_of_le_of_lt (Int.natAbs_ediv_le_natAbs _ _) (lt_mono h (by omega))
    have dv : ∀ {i : Int}, g ∣ i.natAbs → i / (g : Int) * g = i := fun h => Int.ediv_mul_cancel (Int.natAbs_dvd_natAbs.mp (by rw [Int.natAbs_natCast]; exact h))
    have bs : Bd (n + 1) ⟨r.w / g, r.x / g, r.y / g, r.z / g, 1⟩ := ⟨le hb.1, le hb.2.1, le hb.2.2.1, le hb.2.2.2.1, Nat.one_lt_two_pow (by omega)⟩
    have pr : Prop5 e ⟨r.w / g, r.x / g, r.y / g, r.z / g, 1⟩ := ⟨(g : Int) * e.d, r.d, Int.mul_ne_zero (by omega) ed, by omega,
      by show r.w / g * (g * e.d) = _; rw [← Int.mul_assoc, dv gw]; exact hc.1.symm,
      by show r.x / g * (g * e.d) = _; rw [← Int.mul_assoc, dv gx]; exact hc.2.1.symm,
      by show r.y / g * (g * e.d) = _; rw [← Int.mul_assoc, dv gy]; exact hc.2.2.1.symm,
      by show r.z / g * (g * e.d) = _; rw [← Int.mul_assoc, dv gz]; exact hc.2.2.2.symm⟩
    have nzs : Nz ⟨r.w / g, r.x / g, r.y / g, r.z / g, 1⟩ := fun z => nzr (by
      have k : ∀ {i : Int}, i / (g : Int) * g = i → i / (g : Int) = 0 → i = 0 := fun h z => by rw [← h, z, Int.zero_mul]
      exact ⟨k (dv gw) z.1, k (dv gx) z.2.1, k (dv gy) z.2.2.1, k (dv gz) z.2.2.2⟩)
    have cop : Cop ⟨r.w / g, r.x / g, r.y / g, r.z / g, 1⟩ := fun k hw hx hy hz => by
      have m : ∀ {i : Int}, i / (g : Int) * g = i → k ∣ (i / (g : Int)).natAbs → k * g ∣ i.natAbs := fun {i} h d => by
        have e : i.natAbs = (i / (g : Int)).natAbs * g := by
          conv => lhs; rw [← h, Int.natAbs_mul, Int.natAbs_natCast]
        rw [e]
        exact Nat.mul_dvd_mul_right d g
      have h := gg (k * g) (m (dv gw) hw) (m (dv gx) hx) (m (dv gy) hy) (m (dv gz) hz)
      have h2 : k * g ∣ 1 * g := by rw [Nat.one_mul]; exact h
      exact Nat.dvd_one.mp (Nat.dvd_of_mul_dvd_mul_right gp h2)
    refine ⟨al, c, a, b, ⟨r.w / g, r.x / g, r.y / g, r.z / g, 1⟩, rfl, hA.same ke, upd_same, Int.one_ne_zero, (by show 1 < _; exact Nat.one_lt_two_pow (by decide)), fun s hs => bd_mono (low5_bd Int.one_ne_zero hs bs) (by omega), fun s z H3 hs hz s3 hF => ?_⟩
    exact q _ z H3 (ke.trans s3) pr rfl nzs cop ⟨⟨s, hF, hs, low5_bd Int.one_ne_zero hs bs⟩, Int.one_ne_zero⟩
end
end Sf

namespace Sf
open PySem PySem.Spec PyProof.Rows L2
/-! zip of two sequences, each a list (true) or a tuple (false) -/
def SqK (K : PySem.W.Frag) (k : Bool) (H : Hp) (a : Addr) (xs : List V) : Prop := if k = true then SqL K H a xs else SqT K H a xs
def ItK (k : Bool) (h : Heap) (it l : Addr) (i : Nat) : Prop := if k = true then h.IsListIter it l i else h.IsTupleIter it l i
def HoK (k : Bool) (h : Heap) (l : Addr) (us : Array Value) : Prop := if k = true then h.IsList l us else h.IsTuple l us
theorem ItK.obj {k : Bool} {h : Heap} {it l : Addr} {i : Nat} (p : ItK k h it l i) : ∃ o, h.get? it = some o ∧ ∃ v, o.data = .fields v := by
  cases k with
  | true => obtain ⟨o, e, _, d⟩ := (show h.IsListIter it l i from p); exact ⟨o, e, _, d⟩
  | false => obtain ⟨o, e, _, d⟩ := (show h.IsTupleIter it l i from p); exact ⟨o, e, _, d⟩
theorem ItK.move {k : Bool} {h h' : Heap} {it l : Addr} {i : Nat} (p : ItK k h it l i) (q : ∀ o, h.get? it = some o → h'.get? it = some o) : ItK k h' it l i := by
  cases k with
  | true => exact (show h.IsListIter it l i from p).at q
  | false => exact (show h.IsTupleIter it l i from p).at q
theorem drawK {prog : Program} {w : World} {A : Around} (k : Bool) (hh : A.handled = none) (it l : Addr) (hne : l ≠ it) (us : Array Value) :
    Draws prog w A it [it, l] us.size (fun i v => us[i]? = some v) (fun i h => ItK k h it l i ∧ HoK k h l us) := by
  cases k with
  | true => exact Draws.list hh it l hne us
  | false => exact Draws.tuple hh it l hne us
def ItzK (K : PySem.W.Frag) (k1 k2 : Bool) (a b : Addr) : It :=
  ⟨fun i H => ∃ (xs ys : List V) (x y : V), SqK K k1 H a xs ∧ SqK K k2 H b ys ∧ xs[i]? = some x ∧ ys[i]? = some y,
    fun i H v H' => ∃ c x y, v = .ref c ∧ H c = none ∧ H' = upd H c (.tup [x, y]) ∧ (∀ xs, SqK K k1 H a xs → xs[i]? = some x) ∧ ∀ ys, SqK K k2 H b ys → ys[i]? = some y,
    fun i H => ∃ xs ys : List V, SqK K k1 H a xs ∧ SqK K k2 H b ys ∧ i ≤ xs.length ∧ i ≤ ys.length ∧ (i = xs.length ∨ i = ys.length)⟩
theorem sepK {z TI TO i1 i2 a b : Addr} (D : ZipApart z TI TO i1 i2 a b) : ZipSep2 z TI TO i1 i2 [i1, a] [i2, b] where
  TIz := D.TIz
  TOz := D.TOz
  TITO := D.TITO
  TIi1 := D.TIi1
  mem1 := by simp
  zf1 := by simp [D.i1z.symm, D.l1z.symm]
  Tf1 := by simp [D.TOi1, D.l1TO.symm]
  TIi2 := D.TIi2
  mem2 := by simp
  zf2 := by simp [D.i2z.symm, D.l2z.symm]
  Tf2 := by simp [D.TOi2, D.l2TO.symm]
  sep1_2 := by simp [D.i12, D.l2i1.symm]
  sep2_1 := by simp [D.i12.symm, D.l1i2.symm]
section
variable {X : Cx} {pins : List (Addr × Obj)} {σ : L2.St} {H : Hp} {s : Shared}
theorem heldK {k : Bool} {a : Addr} {xs : List V} (I : Inv X pins σ H s) (q : SqK X.K k H a xs) : ∃ us : List Value, Vals xs us ∧ HoK k s.heap a us.toArray ∧ a < s.heap.objs.size := by
  cases k with
  | true => obtain ⟨us, r, p, _⟩ := I.list (show SqL X.K H a xs from q); exact ⟨us, r, p.isList, p.lt⟩
  | false =>
    obtain ⟨us, r, p, _⟩ := I.tuple (show SqT X.K H a xs from q)
    obtain ⟨o, ho, _⟩ := id p
    exact ⟨us, r, p, Heap.lt_size ho⟩
theorem sqK_inj {k : Bool} {a : Addr} {xs ys : List V} (I : Inv X pins σ H s) (p : SqK X.K k H a xs) (q : SqK X.K k H a ys) : xs = ys := by
  cases k with
  | true => exact I.list_inj p q
  | false => exact I.tuple_inj p q
end
theorem turn_zipK {P : Program} {w : World} {K : PySem.W.Frag} {elts : List Expr} {kk : Nat} {tpos : Pos} {k1 k2 : Bool} {a b z TI TO i1 i2 : Addr} (D : ZipApart z TI TO i1 i2 a b) :
    Turn P w K (.Tuple elts kk tpos) (ItzK K k1 k2 a b) [z, TI, TO, i1, i2] z (fun i h => (IsZip h z TI TO .none ∧ IsPair h TI (.ref i1) (.ref i2)) ∧ (∃ x y, IsPair h TO x y) ∧ ItK k1 h i1 a i ∧ ItK k2 h i2 b i) where
  mem := by simp
  obj := fun i h st c hc => by
    obtain ⟨⟨gz, gI⟩, ⟨x, y, gO⟩, t1, t2⟩ := st
    obtain ⟨o1, e1, v1, d1⟩ := t1.obj
    obtain ⟨o2, e2, v2, d2⟩ := t2.obj
    simp only [List.mem_cons, List.not_mem_nil, or_false] at hc
    rcases hc with rfl | rfl | rfl | rfl | rfl
    · exact ⟨_, gz, fun v q => nomatch q⟩
    · exact ⟨_, gI, fun v q => nomatch q⟩
    · exact ⟨_, gO, fun v q => nomatch q⟩
    · exact ⟨o1, e1, fun v q => by rw [d1] at q; cases q⟩
    · exact ⟨o2, e2, fun v q => by rw [d2] at q; cases q⟩
  keep := fun i h h' st k => by
    obtain ⟨⟨gz, gI⟩, ⟨x, y, gO⟩, t1, t2⟩ := st
    exact ⟨⟨k z (by simp) _ gz, k TI (by simp) _ gI⟩, ⟨x, y, k TO (by simp) _ gO⟩, t1.move (k i1 (by simp)), t2.move (k i2 (by simp))⟩
  item := by
    intro X hP hw hK hc i pins s σ H E I hf st hg
    subst hP hw hK
    obtain ⟨⟨gz, gI⟩, ⟨x0, y0, gO⟩, t1, t2⟩ := st
    obtain ⟨xs, ys, x, y, qx, qy, hx, hy⟩ := hg
    obtain ⟨us, r1, p1, _⟩ := heldK I qx
    obtain ⟨vs, r2, p2, _⟩ := heldK I qy
    obtain ⟨u, hu, ru⟩ := r1.get hx
    obtain ⟨v, hv, rv⟩ := r2.get hy
    have nh := I.ok.hd hc
    have below : ∀ c, c ∈ [z, TI, TO, i1, i2] → c < s.heap.objs.size := fun c m => by
      simp only [List.mem_cons, List.not_mem_nil, or_false] at m
      rcases m with rfl | rfl | rfl | rfl | rfl
      · exact Heap.lt_size gz
      · exact Heap.lt_size gI
      · exact Heap.lt_size gO
      · obtain ⟨_, e, _⟩ := t1.obj; exact Heap.lt_size e
      · obtain ⟨_, e, _⟩ := t2.obj; exact Heap.lt_size e
    have lu : i < us.toArray.size := by
      have := (List.getElem?_eq_some_iff.mp hu).1
      simpa using this
    have lv : i < vs.toArray.size := by
      have := (List.getElem?_eq_some_iff.mp hv).1
      simpa using this
    refine wpAny_pyNext_zipD2_item (sepK D) (drawK (prog := X.prog) (w := X.w) (A := X.A.in1) k1 nh i1 a D.l1i1 us.toArray) (drawK (prog := X.prog) (w := X.w) (A := X.A.in1) k2 nh i2 b D.l2i2 vs.toArray) gz gI gO ⟨t1, p1⟩ ⟨t2, p2⟩ lu lv fun u' v' h1 tk hu' hv' z1 O1 s1 s2 T1 _ keep1 => ?_
    have eu : u' = u := by
      rw [List.getElem?_toArray, hu] at hu'
      exact (Option.some.inj hu').symm
    have ev : v' = v := by
      rw [List.getElem?_toArray, hv] at hv'
      exact (Option.some.inj hv').symm
    subst eu ev
    refine ⟨_, rfl, wpAny_letOwnedTupleGo_zip (s := { s with heap := h1, toks := tk }) z1 fun h2 z2 sb => ?_⟩
    have zlt := below z (by simp)
    have T2 : h2.get? s.heap.objs.size = some { cls := .type "tuple", data := .seq #[u', v'] } := (sb.2 _ (Nat.ne_of_gt zlt)).trans T1
    have new : ObjOk X.prog X.w (upd H s.heap.objs.size (.tup [x, y])) h2 s.heap.objs.size (.tup [x, y]) := ⟨by show 2 ≤ sizeLine; decide, [u', v'], .cons ru (.cons rv .nil), ⟨_, T2, rfl, _, rfl⟩⟩
    have away : ∀ {c : Addr}, c ∉ [z, TI, TO, i1, i2] → c ≠ z ∧ c ≠ TO ∧ c ≠ i1 ∧ c ≠ i2 := fun m => ⟨fun e => m (by simp [e]), fun e => m (by simp [e]), fun e => m (by simp [e]), fun e => m (by simp [e])⟩
    have I2 : Inv X pins σ (upd H s.heap.objs.size (.tup [x, y])) { s with heap := h2, toks := tk } :=
      I.turnedNew (t' := tk) (ch := [z, TI, TO, i1, i2]) (fun c o m q => (sb.2 c (away m).1).trans (keep1 c o (away m).1 (away m).2.1 (away m).2.2.1 (away m).2.2.2 q)) hf (Nat.le_refl _) new
    refine ⟨.ref s.heap.objs.size, _, I2, rfl, ⟨_, x, y, rfl, I.hok.fresh (Nat.le_refl _), rfl, fun l hl => by rw [sqK_inj I hl qx]; exact hx, fun l hl => by rw [sqK_inj I hl qy]; exact hy⟩, ⟨⟨z2, ?_⟩, ⟨u', v', ?_⟩, ?_, ?_⟩, fun c m => ?_⟩
    · exact (sb.2 _ D.TIz).trans (keep1 _ _ D.TIz D.TITO D.TIi1 D.TIi2 gI)
    · exact (sb.2 _ D.TOz).trans O1
    · exact s1.1.move fun o q => (sb.2 _ D.i1z).trans q
    · exact s2.1.move fun o q => (sb.2 _ D.i2z).trans q
    · rw [upd_ne (Nat.ne_of_lt (below c m))]
      exact (hf c m).1
  done := by
    intro X hP hw hK hc i pins s σ H E I hf st hg
    subst hP hw hK
    obtain ⟨⟨gz, gI⟩, ⟨x0, y0, gO⟩, t1, t2⟩ := st
    obtain ⟨xs, ys, qx, qy, l1, l2, hend⟩ := hg
    obtain ⟨us, r1, p1, _⟩ := heldK I qx
    obtain ⟨vs, r2, p2, _⟩ := heldK I qy
    have nh := I.ok.hd hc
    have e1 : us.toArray.size = xs.length := by
      have := r1.length
      simpa using this.symm
    have e2 : vs.toArray.size = ys.length := by
      have := r2.length
      simpa using this.symm
    have away : ∀ {c : Addr}, c ∉ [z, TI, TO, i1, i2] → c ≠ z ∧ c ≠ TO ∧ c ≠ i1 ∧ c ≠ i2 := fun m => ⟨fun e => m (by simp [e]), fun e => m (by simp [e]), fun e => m (by simp [e]), fun e => m (by simp [e])⟩
    exact wpAny_pyNext_zipD2_end (sepK D) (drawK (prog := X.prog) (w := X.w) (A := X.A.in1) k1 nh i1 a D.l1i1 us.toArray) (drawK (prog := X.prog) (w := X.w) (A := X.A.in1) k2 nh i2 b D.l2i2 vs.toArray) gz gI gO ⟨t1, p1⟩ ⟨t2, p2⟩ (by omega) (by omega) (by omega) fun h1 tk keep1 =>
      ⟨rfl, I.turnedL (t' := tk) (ch := [z, TI, TO, i1, i2]) (fun c o m q => keep1 c o (away m).1 (away m).2.1 (away m).2.2.1 (away m).2.2.2 q) hf⟩
  self := fun A i s Q E st h => wpAny_pyIter_zip st.1.1 h
theorem srcK (k : Bool) (c : Addr) (us : List Value) : ∃ o, Begins (.ref c) o (fun h => HoK k h c us.toArray) ∧ ∀ h i, h.get? i = some o → ItK k h i c 0 := by
  cases k with
  | true => exact ⟨_, begins_list c _, fun h i e => ⟨_, e, rfl, rfl⟩⟩
  | false => exact ⟨_, begins_tuple c _, fun h i e => ⟨_, e, rfl, rfl⟩⟩
/-- zip(e, e2) in a for or a comprehension -/
def iZipK (K : PySem.W.Frag) (ta : TA) : TI := fun σ H R => ta σ H fun vs H1 => ∃ a b k1 k2 xs ys, vs = [.ref a, .ref b] ∧ SqK K k1 H1 a xs ∧ SqK K k2 H1 b ys ∧ R (ItzK K k1 k2 a b) H1
theorem pi_zipK {X : Cx} {e e2 : Expr} {ta : TA} {p pos tpos : Pos} {elts : List Expr} {kk : Nat} (hg : Gl X "zip") (hm : X.mg "zip" = none) (ha : PA X [e, e2] ta)
    (hs : starEach [e, e2] X.env = (false, eval e X.env) :: starEach [e2] X.env := by rfl) (hpl : (backTo pos (starEach [e2] X.env)).any (·.1) = false := by rfl) :
    PI X (.Tuple elts kk tpos) (.Call (.Name "zip" p) [e, e2] [] pos) (iZipK X.K ta) := by
  refine ⟨fun pins s σ H R I h => ?_⟩
  refine Call_ (ld_blt I hg hm PyProof.Rows.boot_zip (PyProof.Rows.callWith_type1 (thn (ha.run pos pins s σ H _ I h) fun us s1 ⟨vs, H1, I1, r1, q1⟩ => ?_) hs hpl))
  obtain ⟨a, b, k1, k2, xs, ys, rfl, qx, qy, q⟩ := q1
  cases r1 with
  | cons r rr => cases rr with
    | cons r' rr =>
      cases rr
      cases r
      cases r'
      obtain ⟨us, _, p1, l1⟩ := heldK I1 qx
      obtain ⟨vs, _, p2, l2⟩ := heldK I1 qy
      have fresh5 : ∀ c, c ∈ [s1.heap.objs.size + 4, s1.heap.objs.size + 2, s1.heap.objs.size + 3, s1.heap.objs.size, s1.heap.objs.size + 1] → FpOk X pins H1 c := fun c m => by
        have le : s1.heap.objs.size ≤ c := by
          simp only [List.mem_cons, List.not_mem_nil, or_false] at m
          omega
        exact I1.fpOk le (I1.hok.fresh le)
      obtain ⟨o1, B1, f1⟩ := srcK k1 a us
      obtain ⟨o2, B2, f2⟩ := srcK k2 b vs
      exact zip_begins2 B1 B2 p1 p2 fun h' gz gI gO g1 g2 _ keep1 => wpAny_pyIter_zip gz ⟨s1.heap.objs.size + 4, [s1.heap.objs.size + 4, s1.heap.objs.size + 2, s1.heap.objs.size + 3, s1.heap.objs.size, s1.heap.objs.size + 1], _, _, H1, rfl, I1.kept (t' := s1.toks) keep1, turn_zipK (PySem.W.ktu_apart s1.heap.objs.size a b l1 l2), ⟨⟨gz, gI⟩, ⟨_, _, gO⟩, f1 _ _ g1, f2 _ _ g2⟩, fresh5, q⟩
/-- a loop over zip of two sequences of one length -/
theorem for_zipK {K : PySem.W.Frag} {k1 k2 : Bool} {a b : Addr} {xs ys : List V} {g : TG} {tb : TS} {D : Ends} {σ : L2.St} {H : Hp} (hl : xs.length = ys.length) (P : Nat → L2.St → Hp → Prop) (h0 : P 0 σ H) (hq : ∀ i σ H, P i σ H → SqK K k1 H a xs ∧ SqK K k2 H b ys)
    (hs : ∀ (i : Nat) (x y : V) (c : Addr) (σ : L2.St) (H : Hp), xs[i]? = some x → ys[i]? = some y → P i σ H → H c = none → g (.ref c) σ (upd H c (.tup [x, y])) fun σ2 H2 => tb { D with nx := P (i + 1), ct := P (i + 1), bk := D.nx } σ2 H2) (hd : ∀ σ H, P xs.length σ H → D.nx σ H) :
    ∃ W : Nat → Nat → L2.St → Hp → Prop, (∃ m, W 0 m σ H) ∧ ∀ i m σ H, W i m σ H →
      ((ItzK K k1 k2 a b).stop i H ∧ D.nx σ H) ∨ ((ItzK K k1 k2 a b).go i H ∧ ∃ N : L2.St → Hp → Prop, (∀ σ' H', N σ' H' → ∃ m', m' < m ∧ W (i + 1) m' σ' H') ∧ ∀ v H', (ItzK K k1 k2 a b).yld i H v H' → g v σ H' fun σ2 H2 => tb { D with nx := N, ct := N, bk := D.nx } σ2 H2) := by
  refine ⟨fun i m σ H => (m = xs.length - i ∧ i ≤ xs.length) ∧ P i σ H, ⟨xs.length, ⟨rfl, Nat.zero_le _⟩, h0⟩, fun i m σ H ⟨⟨em, hi⟩, p⟩ => ?_⟩
  obtain ⟨qx, qy⟩ := hq i σ H p
  rcases Nat.lt_or_ge i xs.length with lt | ge
  · have lt2 : i < ys.length := hl ▸ lt
    refine .inr ⟨⟨xs, ys, _, _, qx, qy, List.getElem?_eq_getElem lt, List.getElem?_eq_getElem lt2⟩, P (i + 1), fun σ' H' p' => ⟨xs.length - (i + 1), by omega, ⟨rfl, lt⟩, p'⟩, fun v H' y => ?_⟩
    obtain ⟨c, x', y', rfl, hc, rfl, f1, f2⟩ := y
    exact hs i x' y' c σ H (f1 xs qx) (f2 ys qy) p hc
  · have e : i = xs.length := by omega
    subst e
    exact .inl ⟨⟨xs, ys, qx, qy, Nat.le_refl _, by omega, .inl rfl⟩, hd σ H p⟩
end Sf

namespace Sf
open PySem PySem.Spec PyProof.Rows L2
theorem add_bd2 {a b : Int} {p q : Q5} {m n : Nat} (hp : Bd m p) (hq : Bd n q) : Bd (m + n + 1) (addQ a b p q) := by
  have k : ∀ {s t u v : Int}, s.natAbs < 2 ^ m → t.natAbs < 2 ^ n → u.natAbs < 2 ^ n → v.natAbs < 2 ^ m → (s * t + u * v).natAbs < 2 ^ (m + n + 1) := fun {s t u v} h1 h2 h3 h4 => by
    have g1 : (s * t).natAbs < 2 ^ (m + n) := by rw [Int.natAbs_mul, Nat.pow_add]; exact Nat.mul_lt_mul'' h1 h2
    have g2 : (u * v).natAbs < 2 ^ (m + n) := by rw [Int.natAbs_mul, Nat.pow_add, Nat.mul_comm]; exact Nat.mul_lt_mul'' h4 h3
    have g3 := Int.natAbs_add_le (s * t) (u * v)
    have g4 : 2 ^ (m + n + 1) = 2 ^ (m + n) * 2 := Nat.pow_succ ..
    omega
  have kd : (p.d * q.d).natAbs < 2 ^ (m + n + 1) := by
    rw [Int.natAbs_mul]
    refine Nat.lt_of_lt_of_le (Nat.mul_lt_mul'' hp.2.2.2.2 hq.2.2.2.2) ?_
    rw [← Nat.pow_add]
    exact Nat.pow_le_pow_right (by decide) (by omega)
  exact ⟨k hp.1 hq.2.2.2.2 hq.1 hp.2.2.2.2, k hp.2.1 hq.2.2.2.2 hq.2.1 hp.2.2.2.2, k hp.2.2.1 hq.2.2.2.2 hq.2.2.1 hp.2.2.2.2, k hp.2.2.2.1 hq.2.2.2.2 hq.2.2.2.1 hp.2.2.2.2, kd⟩
theorem wo_add2 {CF CR CA : Addr} {H : Hp} {al : Addr} {a b : Int} {x y : Addr} {e f : Q5} {m n : Nat} {R : VK} (hA : AlgAt CA H al a b) (hx : Wo CF CR H x al a b e m) (hy : Wo CF CR H y al a b f n) (hm : m ≤ 1400) (hn : n ≤ 1400)
    (q : ∀ (z : Addr) (H' : Hp), Same H H' → Wo CF CR H' z al a b (addQ a b e f) (m + n + 1) → R (.ref z) H') : rOwn CF (spFourOp CF CR CA addQ) E0 (.ref x) (.ref y) H R :=
  wo_op (k := m + n + 1) hA hx hy hm hn (by omega) (fun p q hp hq => add_bd2 hp hq) (fun _ _ => rfl) (fun p q r s _ _ _ _ h g => cross_add h g) q
/-- image, start, inverse of the unit -/
def ledT (a b : Int) (im un : Nat → Q5) (s : Q5) (i : Nat) : Q5 := prodQ a b (prodQ a b (im i) s) (invQ a b (un i))
def ledS (a b : Int) (im un : Nat → Q5) (s : Q5) : Nat → Q5
  | 0 => subQ a b s s
  | i + 1 => addQ a b (ledS a b im un s i) (ledT a b im un s i)
def ledN (n : Nat) : Nat → Nat
  | 0 => 2
  | _ + 1 => n
def ledB (n : Nat) : Nat → Nat
  | 0 => 5
  | i + 1 => ledB n i + (ledN n i + 112) + 1
section
variable {P : Program} {w : World} {K : PySem.W.Frag} {mg : Str → Option Value} {base : Heap} {f : Addr} {fd : FuncData} {CR CA CF : Addr}
structure LedP (CF CR CA : Addr) (vs : List V) (H : Hp) (Q : VK) : Prop where
  ex : ∃ (al L U x : Addr) (a b : Int) (im un : Nat → Q5) (s : Q5) (n : Nat) (zs us : List Addr), vs = [.ref L, .ref U, .ref x] ∧ AlgAt CA H al a b ∧ a.natAbs < 2 ^ 10 ∧ b.natAbs < 2 ^ 10 ∧ H L = some (.lst (zs.map V.ref)) ∧ H U = some (.tup (us.map V.ref)) ∧ zs.length = 4 ∧ us.length = 4 ∧
    (∀ i z, zs[i]? = some z → Wo CF CR H z al a b (im i) (ledN n i)) ∧ (∀ i u, us[i]? = some u → Wo CF CR H u al a b (un i) 2 ∧ normT a b (un i) ≠ 0) ∧ Wo CF CR H x al a b s 2 ∧ 2 ≤ n ∧ n ≤ 520 ∧
    ∀ (z : Addr) (H' : Hp), Same H H' → Wo CF CR H' z al a b (ledS a b im un s 4) (ledB n 4) → Q (.ref z) H'
def spLed (CF CR CA : Addr) : Sp := fun vs H Q _ => LedP CF CR CA vs H Q
theorem ok_led_sum (F : FnD K "led_sum" "led_sum" s_P_led_sum f fd) (T : Glob mg) (O_Four : OwnK K CF) (M_Four_add : CalM P w K mg base 10 "__add__" CF ["self", "other"] (spFourOp CF CR CA addQ)) (M_Four_sub : CalM P w K mg base 12 "__sub__" CF ["self", "other"] (spFourOp CF CR CA subQ)) (M_Four_mul : CalM P w K mg base 10 "__mul__" CF ["self", "other"] (spFourOp CF CR CA prodQ)) (M_Four_inverse : CalM P w K mg base 10 "inverse" CF ["self"] (spInverse CF CR CA)) :
    FnOk P w K mg base CX0 13 f fd ["images", "units", "start"] (spLed CF CR CA) := by
  refine F.ok sc_P_led_sum (fun vs H Q E h => ?_) (fun cdv A outer s H vs Q E hr h => ?_)
  · obtain ⟨al, L, U, x, a, b, im, un, s, n, zs, us, rfl, _⟩ := h.ex; rfl
  · obtain ⟨al, L, U, x, a, b, im, un, s, n, zs, us, rfl, hA, ba, bb, hL, hU, lz, lu, hz, hu, hx, n2, hn, q⟩ := h.ex
    refine ⟨_, PSs.nox (pss_cons (ps_set (i := 3) sc_P_led_sum.nd rfl (Or.inl rfl) (pe_op (op_own (M_Four_sub.me.cast (by decide +kernel)) M_Four_sub.ok (hr.mono (by decide)) M_Four_sub.b pass0 O_Four.sf) (pv 2) (pv 2)))
      (pss_cons (ps_for PassesOwn.never rfl (pi_zipK (by rfl) T.m_zip (pa_cons (pv 0) (pa_cons (pv 1) pa_nil))) (pg_tup (by rfl) (pgs_cons (pg_name (i := 4) sc_P_led_sum.nd rfl (Or.inl rfl)) (pgs_cons (pg_name (i := 5) sc_P_led_sum.nd rfl (Or.inl rfl)) pgs_nil))) (pss_one (ps_set (i := 3) sc_P_led_sum.nd rfl (Or.inl rfl) (pe_op (op_own (M_Four_add.me.cast (by decide +kernel)) M_Four_add.ok (hr.mono (by decide)) M_Four_add.b pass0 O_Four.sf) (pv 3) (pe_op (op_own (M_Four_mul.me.cast (by decide +kernel)) M_Four_mul.ok (hr.mono (by decide)) M_Four_mul.b pass0 O_Four.sf) (pe_op (op_own (M_Four_mul.me.cast (by decide +kernel)) M_Four_mul.ok (hr.mono (by decide)) M_Four_mul.b pass0 O_Four.sf) (pv 4) (pv 2)) (pe_meth0 (pv 5) O_Four.cls M_Four_inverse.me M_Four_inverse.ok (hr.mono (by decide)) M_Four_inverse.b .nil pass0))))))
      (pss_one (ps_ret (pv 3))))), ?_⟩
    have ba2 : a.natAbs < 2 ^ 20 := lt_mono ba (by decide)
    have bb2 : b.natAbs < 2 ^ 20 := lt_mono bb (by decide)
    refine ⟨_, rfl, _, rfl, wo_sub hA hx hx (by decide) fun f0 H1 s1 w1 => ?_⟩
    have hL1 := s1 _ _ hL
    have hU1 := s1 _ _ hU
    replace q : ∀ (z : Addr) (H' : Hp), Same H1 H' → Wo CF CR H' z al a b (ledS a b im un s 4) (ledB n 4) → Q (.ref z) H' := fun z H' k => q z H' (s1.trans k)
    replace hA := hA.same s1
    replace hx := hx.same s1
    replace hz : ∀ i z, zs[i]? = some z → Wo CF CR H1 z al a b (im i) (ledN n i) := fun i z e => (hz i z e).same s1
    replace hu : ∀ i u, us[i]? = some u → Wo CF CR H1 u al a b (un i) 2 ∧ normT a b (un i) ≠ 0 := fun i u e => ⟨(hu i u e).1.same s1, (hu i u e).2⟩
    refine ⟨_, rfl, _, rfl, L, U, true, false, _, _, rfl, SqL.of hL1, SqT.of hU1, for_zipK (K := K) (k1 := true) (k2 := false) (xs := zs.map V.ref) (ys := us.map V.ref) (by rw [List.length_map, List.length_map, lz, lu])
      (fun i σ' H' => (∃ (fo : Addr) (o1 o2 : Option V), σ' = [some (.ref L), some (.ref U), some (.ref x), some (.ref fo), o1, o2] ∧ Wo CF CR H' fo al a b (ledS a b im un s i) (ledB n i)) ∧ Same H1 H') ⟨⟨f0, _, _, rfl, w1⟩, Same.refl _⟩ (fun i σ' H' hP => ⟨SqL.of (hP.2 _ _ hL1), SqT.of (hP.2 _ _ hU1)⟩) (fun i y1 y2 c σ' H' h1 h2 hP hc => ?_) (fun σ' H' hP => ?_)⟩
    · obtain ⟨⟨fo, o1, o2, rfl, wf⟩, k1⟩ := hP
      obtain ⟨z, ez, rfl⟩ : ∃ z, zs[i]? = some z ∧ y1 = .ref z := by
        rw [List.getElem?_map] at h1
        cases e : zs[i]? with
        | none => rw [e] at h1; cases h1
        | some z => rw [e] at h1; cases h1; exact ⟨z, rfl, rfl⟩
      obtain ⟨u, eu, rfl⟩ : ∃ u, us[i]? = some u ∧ y2 = .ref u := by
        rw [List.getElem?_map] at h2
        cases e : us[i]? with
        | none => rw [e] at h2; cases h2
        | some z => rw [e] at h2; cases h2; exact ⟨z, rfl, rfl⟩
      have hi : i < 4 := lz ▸ (List.getElem?_eq_some_iff.mp ez).1
      have kc := same_upd (o := .tup [V.ref z, V.ref u]) hc
      have k2 := k1.trans kc
      have Bi : ledB n i ≤ 1390 ∧ ledN n i ≤ 520 := by
        have c : i = 0 ∨ i = 1 ∨ i = 2 ∨ i = 3 := by omega
        rcases c with rfl | rfl | rfl | rfl <;> simp only [ledB, ledN] <;> omega
      refine ⟨c, _, rfl, SqT.of upd_same, rfl, _, _, rfl, _, _, rfl, rfl, ?_⟩
      obtain ⟨wu, nu⟩ := hu i u eu
      refine ⟨_, rfl, _, rfl, _, rfl, wo_mul ba2 bb2 (hA.same k2) ((hz i z ez).same k2) (hx.same k2) (by omega) (by decide) fun p1 H3 s3 v1 => ?_⟩
      have k3 := k2.trans s3
      obtain ⟨du, eu2, tu, nmu, ru, gu, _⟩ := (wu.same k3).fld
      refine ⟨_, rfl, u, du, _, rfl, gu, rfl, wo_inverse ba bb (hA.same k3) (wu.same k3) (by decide) nu fun p2 H4 s4 v2 => ?_⟩
      have k4 := k3.trans s4
      refine wo_mul ba2 bb2 (hA.same k4) (v1.same s4) v2 (by omega) (by decide) fun p3 H5 s5 v3 => ?_
      have k5 := k4.trans s5
      refine wo_add2 (hA.same k5) ((((wf.same kc).same s3).same s4).same s5) v3 (by omega) (by omega) fun p4 H6 s6 v4 => ?_
      exact ⟨⟨p4, _, _, rfl, v4.mono (by simp only [ledB]; omega)⟩, k5.trans s6⟩
    · obtain ⟨⟨fo, o1, o2, rfl, wf⟩, k1⟩ := hP
      rw [List.length_map, lz] at wf
      exact ⟨_, rfl, q fo H' k1 wf⟩
end
end Sf

namespace Sf
open PySem PySem.Spec PyProof.Rows L2
/-! own errors over ValueError, made of a text; defs that may raise -/
structure ErrK (K : PySem.W.Frag) (C : Addr) : Prop where
  q : PySem.W.excIn K C [.type "ValueError", .type "Exception", .type "BaseException", .type "object"] "ValueError.__new__" = true
  kp : PySem.W.keepIn K (.ref C) = true
  sub : PySem.W.subIn K (.ref C) (.type "BaseException") = some true
  ty : PySem.W.typeIn K (.ref C) = some (.type "type")
  me : PySem.W.exmOne K (.ref C) (.ref C) = some true
theorem errB_ok {K : PySem.W.Frag} {x : Str} (h : errB K x = true) : ErrK K (He.ga K x) := by
  obtain ⟨h1, h⟩ := He.ba h
  obtain ⟨h2, h⟩ := He.ba h
  obtain ⟨h3, h⟩ := He.ba h
  obtain ⟨h4, h5⟩ := He.ba h
  exact ⟨h1, h2, of_decide_eq_true h3, of_decide_eq_true h4, of_decide_eq_true h5⟩
/-- a def of the text that may raise, ready to be called -/
structure CalX (P : Program) (w : World) (K : PySem.W.Frag) (mg : Str → Option Value) (base : Heap) (k : Nat) (x : Str) (ps : List Str) (sp : Sp) where
  f : Addr
  fd : FuncData
  ok : FnOk P w K mg base (CX P w) k f fd ps sp
  g : mg x = some (.ref f)
  kp : PySem.W.keepIn K (.ref f) = true
  b : Binds K fd ps []
section
variable {X : Cx} {k : Nat} {x : Str} {ps : List Str} {sp : Sp} {e : Expr} {es : List Expr} {t : TA} {p pos : Pos} {W : WX}
/-- such a def called, in a try or in a def that may raise -/
theorem pe_calX (C : CalX X.prog X.w X.K X.mg X.base k x ps sp) (hr : Room k X.A) (tk : Takes X W) (ha : PA X (e :: es) t) (hg : Gl X x := by rfl) (hdb : (x == ("__debug__" : Str)) = false := by decide)
    (he : starEach (e :: es) X.env = (false, eval e X.env) :: starEach es X.env := by rfl) (hpl : (backTo pos (starEach es X.env)).any (·.1) = false := by rfl) :
    PE X (.Call (.Name x p) (e :: es) [] pos) (tCallS sp (fun σ => WE W σ) t) :=
  pe_callS C.ok hr hg C.g C.kp C.b (fun σ => passAt tk σ) ha hdb he hpl
end
end Sf

namespace Sf
open PySem PySem.Spec PyProof.Rows L2
def un4 : Nat → Q5
  | 0 => ⟨1, 0, 0, 0, 1⟩
  | i + 1 => unitQ i
def im4 (m : Nat → Nat → Int × Int) : Nat → Q5
  | 0 => ⟨1, 0, 0, 0, 1⟩
  | i + 1 => colM m i
/-- the sum that leads the unit j -/
def fotS (a b : Int) (m : Nat → Nat → Int × Int) (j : Nat) : Q5 := ledS a b (im4 m) un4 (un4 j) 4
instance (e : Q5) : Decidable (Nz e) := by unfold Nz; infer_instance
theorem nz_low {e r : Q5} (h : Low5 e r) (d0 : e.d ≠ 0) : (¬ (r.w = 0 ∧ r.x = 0 ∧ r.y = 0 ∧ r.z = 0)) ↔ Nz e := by
  have c := h.cross
  have rp : r.d ≠ 0 := by have := h.1; omega
  have k : ∀ {p q : Int}, p * r.d = q * e.d → (p = 0 ↔ q = 0) := fun {p q} g => by
    constructor
    · intro z
      rw [z, Int.zero_mul] at g
      exact (Int.mul_eq_zero.mp g.symm).resolve_right d0
    · intro z
      rw [z, Int.zero_mul] at g
      exact (Int.mul_eq_zero.mp g).resolve_right rp
  unfold Nz
  rw [k c.1, k c.2.1, k c.2.2.1, k c.2.2.2]
section
variable {P : Program} {w : World} {K : PySem.W.Frag} {mg : Str → Option Value} {base : Heap} {f : Addr} {fd : FuncData} {CR CA CF CE : Addr}
structure FotP (CF CR CA CE : Addr) (vs : List V) (H : Hp) (Q : VK) (E : XK) : Prop where
  ex : ∃ (al : Addr) (a b : Int) (v : V), vs = [.ref al, v] ∧ AlgAt CA H al a b ∧ a.natAbs < 2 ^ 10 ∧ b.natAbs < 2 ^ 10 ∧
    ((TabB CR H v false ∧ ∀ H', Same H H' → E (.ref CE) none H') ∨ ∃ (t : Addr) (m : Nat → Nat → Int × Int) (k : Nat), v = .ref t ∧ Tab CR H t m ∧ (∀ i j, i < 3 → j < 3 → Bw k (m i j)) ∧ 1 ≤ k ∧ k ≤ 130 ∧
      (¬ IsTrn a b m → ∀ H', Same H H' → E (.ref CE) none H') ∧ (IsTrn a b m → (∃ j, j < 4 ∧ Nz (fotS a b m j)) ∧
        ∀ (j : Nat) (s : Q5) (z : Addr) (H' : Hp), Same H H' → j < 4 → Nz (fotS a b m j) → Prop5 (fotS a b m j) s → s.d = 1 → Nz s → Cop s → Wo CF CR H' z al a b s 2050 → Q (.ref z) H'))
def spFot (CF CR CA CE : Addr) : Sp := fun vs H Q E => FotP CF CR CA CE vs H Q E
theorem ok_four_of_turn (F : FnD K "four_of_turn" "four_of_turn" s_P_four_of_turn f fd) (C_P_is_turn : Cal P w K mg base 12 "is_turn" ["algebra", "value"] (spIsTurn CF CR CA)) (C_P_images_of : Cal P w K mg base 11 "images_of" ["algebra", "table"] (spImg CF CR CA)) (C_P_led_sum : Cal P w K mg base 13 "led_sum" ["images", "units", "start"] (spLed CF CR CA)) (C_P_primitive : Cal P w K mg base 10 "primitive" ["four"] (spPrim CF CR CA))
    (O_Four : OwnK K CF) (O_Algebra : OwnK K CA) (M_Four_bool : CalM P w K mg base 1 "__bool__" CF ["self"] (spFourBool CF CR)) (M_Algebra_basis : CalM P w K mg base 9 "basis" CA ["self"] (spBasis CF CR CA)) (E_InvalidOperation : ErrK K CE) (G_InvalidOperation : mg "InvalidOperation" = some (.ref CE)) :
    FnOk P w K mg base (CX P w) 14 f fd ["algebra", "table"] (spFot CF CR CA CE) := by
  refine F.ok sc_P_four_of_turn (fun vs H Q E h => ?_) (fun cdv A outer s H vs Q E hr h => ?_)
  · obtain ⟨al, a, b, v, rfl, _⟩ := h.ex; rfl
  · obtain ⟨al, a, b, v, rfl, hA, ba, bb, q⟩ := h.ex
    refine ⟨_, (pss_cons (ps_if (pt_not (pt_val (pe_cal C_P_is_turn (hr.mono (by decide)) (pa_cons (pv 0) (pa_cons (pv 1) pa_nil))))) (pss_one (ps_raise rfl (takes_of rfl rfl rfl rfl) (pmk_own PySem.F.excBase_ValueError E_InvalidOperation.q G_InvalidOperation E_InvalidOperation.kp (raises_own E_InvalidOperation.sub E_InvalidOperation.ty) (by rfl)))) pss_nil)
      (PSs.nox (pss_cons (ps_set (i := 2) sc_P_four_of_turn.nd rfl (Or.inr rfl) (pe_meth0 (pv 0) O_Algebra.cls M_Algebra_basis.me M_Algebra_basis.ok (hr.mono (by decide)) M_Algebra_basis.b .nil pass0))
      (pss_cons (ps_set (i := 3) sc_P_four_of_turn.nd rfl (Or.inr rfl) (pe_op op_cat (pe_lst (pa_cons (pe_ix ix_tup (pv 2) pe_int (fun _ _ => rfl)) pa_nil)) (pe_cal C_P_images_of (hr.mono (by decide)) (pa_cons (pv 0) (pa_cons (pv 1) pa_nil)))))
      (pss_cons (ps_setLc (i := 4) rfl sc_P_four_of_turn.nd rfl rfl (sw_true rfl rfl rfl (by decide +kernel)) (own := [("start", 5)]) (pi_tup (pv 2)) (blkOk_by (N := ["algebra", "table", "units", "images", "sums", "start", "found", "led"]) (sc := defScope s_P_four_of_turn) (by decide +kernel)) (fun _ _ _ _ _ => pg_name (i := 5) sc_P_four_of_turn.nd rfl (Or.inl rfl)) (fun _ _ _ _ _ => pts_nil) (fun _ _ _ _ _ => (pe_cal C_P_led_sum (hr.mono (by decide)) (pa_cons (pv 3) (pa_cons (pv 2) (pa_cons (pv 5) pa_nil))))))
      (pss_cons (ps_setLc (i := 6) rfl sc_P_four_of_turn.nd rfl rfl (sw_true rfl rfl rfl (by decide +kernel)) (own := [("led", 7)]) (pi_list (pv 4)) (blkOk_by (N := ["algebra", "table", "units", "images", "sums", "start", "found", "led"]) (sc := defScope s_P_four_of_turn) (by decide +kernel)) (fun _ _ _ _ _ => pg_name (i := 7) sc_P_four_of_turn.nd rfl (Or.inl rfl)) (fun _ _ _ _ _ => pts_one (pt_truthR (pv 7) (tru_own M_Four_bool.me M_Four_bool.ok (hr.mono (by decide)) M_Four_bool.b pass0) (fun _ => rfl))) (fun _ _ _ _ _ => (pv 7)))
      (pss_one (ps_ret (pe_cal C_P_primitive (hr.mono (by decide)) (pa_cons (pe_ix ix_list (pv 6) pe_int (fun _ _ => rfl)) pa_nil)))))))))), ?_⟩
    rcases q with ⟨hv, q⟩ | ⟨t, m, k, rfl, ht, hB, k1, hk, qF, qT⟩
    · refine ⟨_, rfl, _, rfl, ⟨al, a, b, v, rfl, hA, ba, bb, .inl ⟨hv, fun H1 s1 => ?_⟩⟩⟩
      exact ⟨_, rfl, q _ s1⟩
    refine ⟨_, rfl, _, rfl, ⟨al, a, b, _, rfl, hA, ba, bb, .inr ⟨t, m, k, rfl, ht, hB, by omega, fun r H1 s1 hr1 => ?_⟩⟩⟩
    by_cases c : ¬ IsTrn a b m
    · have e : r = false := by
        cases r with
        | false => rfl
        | true => exact absurd (hr1.mp rfl) c
      subst e
      exact ⟨_, rfl, qF c _ s1⟩
    replace c := Classical.not_not.mp c
    have e : r = true := hr1.mpr c
    subst e
    obtain ⟨⟨j0, hj0, nz0⟩, qT⟩ := qT c
    refine ⟨_, rfl, ?_⟩
    obtain ⟨dA, pl, l, hA1, _, _, na, nb, _⟩ := id hA.ex
    refine ⟨_, rfl, al, dA, _, rfl, s1 _ _ hA1, rfl, ⟨al, a, b, rfl, hA.same s1, fun u0 u1 u2 u3 tt H2 s2 htt f0 f1 f2 f3 => ?_⟩⟩
    refine ⟨_, rfl, tt, _, _, _, rfl, rfl, SqT.of htt, atI_nat (j := 0) rfl, (by show 1 ≤ sizeLine; decide), fun L0 hL0 => ?_⟩
    have k3 := same_upd (o := .lst [V.ref u0]) hL0
    have s3 := (s1.trans s2).trans k3
    refine ⟨_, rfl, _, rfl, ⟨al, t, a, b, m, k, rfl, hA.same s3, ht.same s3, hB, by omega, fun L1 z0 z1 z2 H4 s4 hL1 w0 w1 w2 => ?_⟩⟩
    have g0 : H4 L0 = some (.lst [V.ref u0]) := s4 _ _ upd_same
    have s14 := s3.trans s4
    refine ⟨L0, L1, _, _, rfl, rfl, g0, hL1, (by show 4 ≤ sizeLine; decide), fun L hL => ?_⟩
    have k5 := same_upd (o := .lst ([V.ref u0] ++ [V.ref z0, V.ref z1, V.ref z2])) hL
    have s15 := s14.trans k5
    have htt5 := k5 _ _ (s4 _ _ (k3 _ _ htt))
    have hLL : (upd H4 L (.lst ([V.ref u0] ++ [V.ref z0, V.ref z1, V.ref z2]))) L = some (.lst ([u0, z0, z1, z2].map V.ref)) := upd_same
    have wof : ∀ {x : Addr} {i j l n : Int}, FourAt CF CR H2 x al a b ⟨i, j, l, n, 1⟩ → Bd 2 ⟨i, j, l, n, 1⟩ → Wo CF CR (upd H4 L (.lst ([V.ref u0] ++ [V.ref z0, V.ref z1, V.ref z2]))) x al a b ⟨i, j, l, n, 1⟩ 2 := fun h hb => ((Wo.of h hb).same (k3.trans s4)).same k5
    have W0 := wof f0 ⟨by decide, by decide, by decide, by decide, by decide⟩
    have W1 := wof f1 ⟨by decide, by decide, by decide, by decide, by decide⟩
    have W2 := wof f2 ⟨by decide, by decide, by decide, by decide, by decide⟩
    have W3 := wof f3 ⟨by decide, by decide, by decide, by decide, by decide⟩
    have Z0 := w0.same k5
    have Z1 := w1.same k5
    have Z2 := w2.same k5
    replace hA := hA.same s15
    replace qT := fun j s z H' (e : Same (upd H4 L (.lst ([V.ref u0] ++ [V.ref z0, V.ref z1, V.ref z2]))) H') => qT j s z H' (s15.trans e)
    clear hA1 f0 f1 f2 f3 htt g0 hL1 w0 w1 w2 k5 s15 s14 s4 s3 k3 s2 s1 wof hL hL0 hr1 qF ht h
    generalize (upd H4 L (.lst ([V.ref u0] ++ [V.ref z0, V.ref z1, V.ref z2]))) = H5 at *
    have us : ∀ (i : Nat) (u : Addr), [u0, u1, u2, u3][i]? = some u → i < 4 ∧ Wo CF CR H5 u al a b (un4 i) 2 ∧ normT a b (un4 i) ≠ 0 := fun i u hu => by
      have nn : normT a b ⟨1, 0, 0, 0, 1⟩ ≠ 0 ∧ normT a b ⟨0, 1, 0, 0, 1⟩ ≠ 0 ∧ normT a b ⟨0, 0, 1, 0, 1⟩ ≠ 0 ∧ normT a b ⟨0, 0, 0, 1, 1⟩ ≠ 0 := by
        have := Int.mul_ne_zero na nb
        unfold normT
        refine ⟨by simp, by simpa using na, by simpa using nb, by simpa using ⟨na, nb⟩⟩
      match i, hu with
      | 0, hu => cases hu; exact ⟨by decide, W0, nn.1⟩
      | 1, hu => cases hu; exact ⟨by decide, W1, nn.2.1⟩
      | 2, hu => cases hu; exact ⟨by decide, W2, nn.2.2.1⟩
      | 3, hu => cases hu; exact ⟨by decide, W3, nn.2.2.2⟩
      | n + 4, hu => simp at hu
    have zs : ∀ (i : Nat) (z : Addr), [u0, z0, z1, z2][i]? = some z → Wo CF CR H5 z al a b (im4 m i) (ledN (4 * k) i) := fun i z hz => by
      match i, hz with
      | 0, hz => cases hz; exact W0
      | 1, hz => cases hz; exact Z0
      | 2, hz => cases hz; exact Z1
      | 3, hz => cases hz; exact Z2
      | n + 4, hz => simp at hz
    clear W0 W1 W2 W3 Z0 Z1 Z2
    have bB : ledB (4 * k) 4 ≤ 2040 := by simp only [ledB, ledN]; omega
    refine ⟨_, rfl, tt, rfl, ⟨_, SqT.of htt5⟩, fun D hD => lc_tup (K := K) (a := tt) (xs := [V.ref u0, V.ref u1, V.ref u2, V.ref u3]) (fun i H' => ∃ ss : List Addr, ss.length = i ∧ (∀ j z, ss[j]? = some z → Wo CF CR H' z al a b (fotS a b m j) 2040) ∧ Same H5 H' ∧ H' D = some (.lst (ss.map V.ref))) ⟨[], rfl, fun j z h => by simp at h, same_upd hD, upd_same⟩ (fun i H' hi hP => SqT.of (hP.choose_spec.2.2.1 _ _ htt5)) (fun i v H' hv hP => ?_) (fun H' hP => ?_)⟩
    · obtain ⟨ss, hsl, hsw, s6, hd⟩ := hP
      obtain ⟨u, eu, rfl⟩ : ∃ u, [u0, u1, u2, u3][i]? = some u ∧ v = .ref u := by
        match i, hv with
        | 0, hv => cases hv; exact ⟨_, rfl, rfl⟩
        | 1, hv => cases hv; exact ⟨_, rfl, rfl⟩
        | 2, hv => cases hv; exact ⟨_, rfl, rfl⟩
        | 3, hv => cases hv; exact ⟨_, rfl, rfl⟩
        | n + 4, hv => simp at hv
      obtain ⟨hi, wu, _⟩ := us i u eu
      refine ⟨rfl, _, rfl, _, rfl, _, rfl, ⟨al, L, tt, u, a, b, im4 m, un4, un4 i, 4 * k, [u0, z0, z1, z2], [u0, u1, u2, u3], rfl, hA.same s6, ba, bb, s6 _ _ hLL, s6 _ _ htt5, rfl, rfl, fun j z e => (zs j z e).same s6, fun j u e => ⟨(us j u e).2.1.same s6, (us j u e).2.2⟩, wu.same s6, by omega, by omega, fun z H7 s7 w7 => ?_⟩⟩
      have hd7 := s7 _ _ hd
      refine ⟨_, hd7, ?_, ss ++ [z], ?_, fun j y hk => ?_, fun d o ed => ?_, ?_⟩
      · rw [List.length_map, hsl]
        exact Nat.lt_of_lt_of_le (by omega : i < 1000000) (by decide)
      · rw [List.length_append, hsl]; rfl
      · rcases Nat.lt_or_ge j ss.length with h | h
        · rw [List.getElem?_append_left h] at hk
          exact ((hsw j y hk).same s7).updL hd7
        · rw [List.getElem?_append_right h] at hk
          have je : j = ss.length := by
            rcases Nat.lt_or_ge (j - ss.length) 1 with c | c
            · omega
            · rw [List.getElem?_eq_none (by simpa using c)] at hk
              cases hk
          rw [je, Nat.sub_self] at hk
          cases hk
          rw [je, hsl]
          exact (w7.mono bB).updL hd7
      · rw [upd_ne (ne_of_none ed hD)]
        exact s7 _ _ (s6 _ _ ed)
      · rw [upd_same, List.map_append]; rfl
    obtain ⟨ss, hsl, hsw, s6, hd⟩ := hP
    replace hsl : ss.length = 4 := hsl
    refine ⟨_, rfl, ?_⟩
    refine ⟨D, rfl, ⟨_, SqL.of hd⟩, fun D2 hD2 => lc_list (K := K) (a := D) (xs := ss.map V.ref) (tt := fun σ H Q => tVar 7 σ H fun x H' => ∃ a, x = V.ref a ∧ Ins H' a CF ∧ spFourBool CF CR [V.ref a] H' (fun v H' => ∃ k, v = V.bl k ∧ Q k H') E0) (fun i H7 => ∃ fs : List Addr, (∀ z ∈ fs, ∃ j, j < 4 ∧ Nz (fotS a b m j) ∧ Wo CF CR H7 z al a b (fotS a b m j) 2040) ∧ (j0 < i → fs ≠ []) ∧ fs.length ≤ i ∧ Same H' H7 ∧ H7 D2 = some (.lst (fs.map V.ref))) ⟨[], fun z h => by simp at h, fun h => absurd h (Nat.not_lt_zero _), Nat.le_refl _, same_upd hD2, upd_same⟩ (fun i H7 hi hP => SqL.of (hP.choose_spec.2.2.2.1 _ _ hd)) (fun i v H7 hv hP => ?_) (fun H7 hP => ?_)⟩
    · obtain ⟨fs, hf, hne, hfl, s7, hd2⟩ := hP
      obtain ⟨z, ez, rfl⟩ : ∃ z, ss[i]? = some z ∧ v = .ref z := by
        rw [List.getElem?_map] at hv
        cases e : ss[i]? with
        | none => rw [e] at hv; cases hv
        | some z => rw [e] at hv; cases hv; exact ⟨z, rfl, rfl⟩
      have hi : i < 4 := hsl ▸ (List.getElem?_eq_some_iff.mp ez).1
      have wz := (hsw i z ez).same s7
      obtain ⟨r, hF, hl, hb⟩ := wz.ex
      refine ⟨rfl, _, rfl, z, rfl, hF.ins, z, al, a, b, r, rfl, hF, decide (Nz (fotS a b m i)), by rw [decide_eq_true_iff, nz_low hl wz.d0], _, rfl, ?_⟩
      by_cases nz : Nz (fotS a b m i)
      · rw [decide_eq_true nz]
        refine ⟨_, rfl, _, hd2, ?_, fs ++ [z], fun y hy => ?_, fun _ e => ?_, ?_, fun d o ed => ?_, ?_⟩
        · rw [List.length_map]
          exact Nat.lt_of_le_of_lt hfl (Nat.lt_of_lt_of_le (by omega : i < 1000000) (by decide))
        · rcases List.mem_append.mp hy with h | h
          · obtain ⟨j, hj, n, wy⟩ := hf y h
            exact ⟨j, hj, n, wy.updL hd2⟩
          · have e : y = z := by simpa using h
            subst e
            exact ⟨i, hi, nz, wz.updL hd2⟩
        · simp at e
        · rw [List.length_append]
          exact Nat.succ_le_succ hfl
        · rw [upd_ne (ne_of_none ed hD2)]
          exact s7 _ _ ed
        · rw [upd_same, List.map_append]; rfl
      · rw [decide_eq_false nz]
        refine ⟨fs, hf, fun hj => hne ?_, Nat.le_succ_of_le hfl, s7, hd2⟩
        rcases Nat.lt_succ_iff_lt_or_eq.mp hj with h | h
        · exact h
        · subst h
          exact absurd nz0 nz
    · obtain ⟨fs, hf, hne, _, s7, hd2⟩ := hP
      have fe : fs ≠ [] := hne (by rw [List.length_map, hsl]; exact hj0)
      obtain ⟨z, rest, rfl⟩ : ∃ z rest, fs = z :: rest := by
        cases fs with
        | nil => exact absurd rfl fe
        | cons z rest => exact ⟨z, rest, rfl⟩
      obtain ⟨j, hj, nj, wj⟩ := hf z (List.mem_cons_self ..)
      refine ⟨_, rfl, D2, _, _, _, rfl, rfl, SqL.of hd2, atI_nat (j := 0) rfl, ⟨z, al, a, b, fotS a b m j, 2040, rfl, (hA.same s6).same s7, wj, by decide, nj, fun s z' H8 s8 pr d1 nzs cop w8 => ?_⟩⟩
      exact qT j s z' H8 ((s6.trans s7).trans s8) hj nj pr d1 nzs cop (w8.mono (by decide))
end
end Sf

namespace Sf
open PySem PySem.Spec PyProof.Rows L2
section
variable {P : Program} {w : World} {K : PySem.W.Frag} {mg : Str → Option Value} {base : Heap} {f : Addr} {fd : FuncData} {CR CA CF CE : Addr}
structure RefP (CF CR CA : Addr) (vs : List V) (H : Hp) (Q : VK) : Prop where
  ex : ∃ (al : Addr) (a b : Int) (v : V), vs = [.ref al, v] ∧ AlgAt CA H al a b ∧ a.natAbs < 2 ^ 10 ∧ b.natAbs < 2 ^ 10 ∧
    ((TabB CR H v false ∧ ∀ H', Same H H' → Q (.bl true) H') ∨ ∃ (t : Addr) (m : Nat → Nat → Int × Int) (k : Nat), v = .ref t ∧ Tab CR H t m ∧ (∀ i j, i < 3 → j < 3 → Bw k (m i j)) ∧ 1 ≤ k ∧ k ≤ 130 ∧
      (IsTrn a b m → ∃ j, j < 4 ∧ Nz (fotS a b m j)) ∧ ∀ (r : Bool) (H' : Hp), Same H H' → (r = true ↔ ¬ IsTrn a b m) → Q (.bl r) H')
def spRef (CF CR CA : Addr) : Sp := fun vs H Q _ => RefP CF CR CA vs H Q
theorem ok_is_refused (F : FnD K "_law_is_refused" "_law_is_refused" s_L_is_refused f fd) (C_P_four_of_turn : CalX P w K mg base 14 "four_of_turn" ["algebra", "table"] (spFot CF CR CA CE)) (E_InvalidOperation : ErrK K CE) (G_InvalidOperation : mg "InvalidOperation" = some (.ref CE)) :
    FnOk P w K mg base CX0 15 f fd ["_law_algebra", "_law_table"] (spRef CF CR CA) := by
  refine F.ok sc_L_is_refused (fun vs H Q E h => ?_) (fun cdv A outer s H vs Q E hr h => ?_)
  · obtain ⟨al, a, b, v, rfl, _⟩ := h.ex; rfl
  · obtain ⟨al, a, b, v, rfl, hA, ba, bb, q⟩ := h.ex
    refine ⟨_, PSs.nox (pss_cons (ps_try_only rfl rfl ⟨rfl, by decide, .inl G_InvalidOperation⟩ takes0 (fun W pn xe tk _ => (pss_one (ps_expr (pe_calX C_P_four_of_turn (hr.mono (by decide)) tk (pa_cons (pv 0) (pa_cons (pv 1) pa_nil)))))) (fun a oe cls d pn _ _ => (pss_one (ps_ret pe_bl))))
      (pss_one (ps_ret pe_bl))), ?_⟩
    rcases q with ⟨hv, q⟩ | ⟨t, m, k, rfl, ht, hB, k1, hk, hj, q⟩
    · exact ⟨_, rfl, _, rfl, ⟨al, a, b, v, rfl, hA, ba, bb, .inl ⟨hv, fun H1 s1 => ⟨true, E_InvalidOperation.me, fun _ _ _ => q _ s1, fun z => Bool.noConfusion z⟩⟩⟩⟩
    · refine ⟨_, rfl, _, rfl, ⟨al, a, b, _, rfl, hA, ba, bb, .inr ⟨t, m, k, rfl, ht, hB, k1, hk, fun c H1 s1 => ⟨true, E_InvalidOperation.me, fun _ _ _ => q true _ s1 ⟨fun _ => c, fun _ => rfl⟩, fun z => Bool.noConfusion z⟩, fun c => ⟨hj c, fun j s z H1 s1 _ _ _ _ _ _ _ => ?_⟩⟩⟩⟩
      exact q false _ s1 ⟨fun z => Bool.noConfusion z, fun z => absurd c z⟩
end
end Sf

namespace Sf
open PySem PySem.Spec PyProof.Rows L2
/-- a table's rows and entries, told by their lowest terms -/
structure Low3 (CR : Addr) (H : Hp) (m : Nat → Nat → Int × Int) (j : Nat) (r : Addr) (i : Nat) (x : Addr) (t u : Int) : Prop where
  row : ∃ x0 x1 x2, H r = some (.tup [.ref x0, .ref x1, .ref x2]) ∧ [x0, x1, x2][j]? = some x
  at_ : RatioAt CR H x t u
  low : LowT (m i j).1 (m i j).2 t u
theorem RowOk.pick {CR : Addr} {H : Hp} {m : Nat → Nat → Int × Int} {i j : Nat} {r : Addr} (h : RowOk CR H m i r) (hj : j < 3) : ∃ x t u, Low3 CR H m j r i x t u ∧ (m i j).2 ≠ 0 := by
  obtain ⟨x0, x1, x2, h0, ⟨⟨t0, u0, e0, l0⟩, n0⟩, ⟨⟨t1, u1, e1, l1⟩, n1⟩, ⟨⟨t2, u2, e2, l2⟩, n2⟩⟩ := h.ex
  have c : j = 0 ∨ j = 1 ∨ j = 2 := by omega
  rcases c with rfl | rfl | rfl
  · exact ⟨x0, t0, u0, ⟨⟨x0, x1, x2, h0, rfl⟩, e0, l0⟩, n0⟩
  · exact ⟨x1, t1, u1, ⟨⟨x0, x1, x2, h0, rfl⟩, e1, l1⟩, n1⟩
  · exact ⟨x2, t2, u2, ⟨⟨x0, x1, x2, h0, rfl⟩, e2, l2⟩, n2⟩
def colB (u : Nat → Int) : Nat → Int
  | 0 => 1
  | i + 1 => colB u i * u i
def colL (e : Nat → Int) : Nat → List Int
  | 0 => [0, 0, 0, 0]
  | i + 1 => (colL e i).set (i + 1) (e i)
section
variable {P : Program} {w : World} {K : PySem.W.Frag} {mg : Str → Option Value} {base : Heap} {f : Addr} {fd : FuncData} {CR CA CF : Addr}
structure LColP (CR : Addr) (vs : List V) (H : Hp) (Q : VK) : Prop where
  ex : ∃ (t : Addr) (j : Nat) (jz : Int) (m : Nat → Nat → Int × Int) (k : Nat), vs = [.ref t, .int jz] ∧ jz = (j : Int) ∧ j < 3 ∧ Tab CR H t m ∧ (∀ i j, i < 3 → j < 3 → Bw k (m i j)) ∧ k ≤ 133 ∧
    ∀ (r : Q5) (v : V) (H' : Hp), Low5 (colM m j) r → Same H H' → LF H' v r → Q v H'
def spLCol (CR : Addr) : Sp := fun vs H Q _ => LColP CR vs H Q
theorem ok_law_column (F : FnD K "_law_column" "_law_column" s_L_column f fd) (T : Glob mg) (O_Ratio : OwnK K CR) (RK : RatioK K CR) (C_L_lowest : Cal P w K mg base 2 "_law_lowest" ["_law_entries", "_law_bottom"] spLowest2) : FnOk P w K mg base CX0 3 f fd ["_law_table", "_law_at"] (spLCol CR) := by
  refine F.ok sc_L_column (fun vs H Q E h => ?_) (fun cdv A outer s H vs Q E hr h => ?_)
  · obtain ⟨t, j, jz, m, k, rfl, _⟩ := h.ex; rfl
  · obtain ⟨t, j, _, m, k, rfl, rfl, hj, ht, hB, hk, q⟩ := h.ex
    have hu := hu_of hr
    refine ⟨_, PSs.nox (pss_cons (ps_par (i := 2) (j := 3) (by rfl) sc_L_column.nd rfl rfl (by decide) rfl rfl (pa_cons (pe_lst (pa_cons pe_int (pa_cons pe_int (pa_cons pe_int (pa_cons pe_int pa_nil))))) (pa_cons pe_int pa_nil)) (by rfl))
      (pss_cons (ps_for PassesOwn.never rfl (pi_tup (pv 0)) (pg_name (i := 4) sc_L_column.nd rfl (Or.inl rfl)) (pss_one (ps_set (i := 3) sc_L_column.nd rfl (Or.inl rfl) (pe_op op_mulW (pv 3) (pe_fld (pe_ix ix_tup (pv 4) (pv 1) (fun _ _ => rfl)) rfl)))))
      (pss_cons (ps_for PassesOwn.never rfl (pi_enumT (by rfl) T.m_enumerate (pa_cons (pv 0) pa_nil)) (pg_tup (by rfl) (pgs_cons (pg_name (i := 5) sc_L_column.nd rfl (Or.inl rfl)) (pgs_cons (pg_name (i := 4) sc_L_column.nd rfl (Or.inl rfl)) pgs_nil))) (pss_one (ps_asg (pe_op op_mulW (pe_fld (pe_ix ix_tup (pv 4) (pv 1) (fun _ _ => rfl)) rfl) (pe_op op_fdivW (pv 3) (pe_fld (pe_ix ix_tup (pv 4) (pv 1) (fun _ _ => rfl)) rfl))) (pg_sub (pv 2) (pe_op op_add (pv 5) pe_int) set_list))))
      (pss_one (ps_ret (pe_cal C_L_lowest (hr.mono (by decide)) (pa_cons (pv 2) (pa_cons (pv 3) pa_nil)))))))), ?_⟩
    obtain ⟨r0, r1, r2, h0, hr0, hr1, hr2⟩ := ht.ex
    obtain ⟨x0, t0, u0, p0, n0⟩ := hr0.pick hj
    obtain ⟨x1, t1, u1, p1, n1⟩ := hr1.pick hj
    obtain ⟨x2, t2, u2, p2, n2⟩ := hr2.pick hj
    have un : ∃ (uf tf : Nat → Int) (xf : Nat → Addr), ∀ (i : Nat) (v : V), [V.ref r0, V.ref r1, V.ref r2][i]? = some v → ∃ r, v = .ref r ∧ i < 3 ∧ Low3 CR H m j r i (xf i) (tf i) (uf i) ∧ (m i j).2 ≠ 0 :=
      ⟨fun i => match i with | 0 => u0 | 1 => u1 | _ => u2, fun i => match i with | 0 => t0 | 1 => t1 | _ => t2, fun i => match i with | 0 => x0 | 1 => x1 | _ => x2, fun i v hv => by
        match i, hv with
        | 0, hv => cases hv; exact ⟨_, rfl, by decide, p0, n0⟩
        | 1, hv => cases hv; exact ⟨_, rfl, by decide, p1, n1⟩
        | 2, hv => cases hv; exact ⟨_, rfl, by decide, p2, n2⟩
        | n + 3, hv => simp at hv⟩
    obtain ⟨uf, tf, xf, at3⟩ := un
    have bd3 : ∀ i, i < 3 → (tf i).natAbs < 2 ^ k ∧ (uf i).natAbs < 2 ^ k ∧ 0 < uf i ∧ (m i j).1 * uf i = tf i * (m i j).2 ∧ (m i j).2 ≠ 0 := fun i hi => by
      obtain ⟨v, hv⟩ : ∃ v, [V.ref r0, V.ref r1, V.ref r2][i]? = some v := ⟨_, List.getElem?_eq_getElem hi⟩
      obtain ⟨r, _, _, l3, nz⟩ := at3 i v hv
      have h := lowT_bd nz l3.low
      have bw := hB i j hi hj
      exact ⟨Nat.lt_of_le_of_lt h.1 bw.1, Nat.lt_of_le_of_lt h.2 bw.2, l3.low.1, l3.low.2.1, nz⟩
    clear p0 p1 p2 n0 n1 n2 hr0 hr1 hr2
    have bB : ∀ i, i ≤ 3 → (colB uf i).natAbs < 2 ^ (k * i + 1) := fun i hi => by
      induction i with
      | zero => exact Nat.one_lt_two_pow (by omega)
      | succ i ih =>
        have h1 := ih (by omega)
        have h2 := (bd3 i (by omega)).2.1
        show (colB uf i * uf i).natAbs < _
        rw [Int.natAbs_mul, show k * (i + 1) + 1 = (k * i + 1) + k by rw [Nat.mul_succ]; omega, Nat.pow_add]
        exact Nat.mul_lt_mul'' h1 h2
    refine ⟨(by show 4 ≤ sizeLine; decide), fun Lf hLf => ?_⟩
    have s1 := same_upd (o := .lst [V.int 0, V.int 0, V.int 0, V.int 0]) hLf
    have e1 : (upd H Lf (.lst [V.int 0, V.int 0, V.int 0, V.int 0])) Lf = some (.lst ((colL (fun i => tf i * (colB uf 3 / uf i)) 0).map V.int)) := upd_same
    have nLf : ∀ {c : Addr} {o : HO}, H c = some o → c ≠ Lf := fun h => ne_of_none h hLf
    generalize (upd H Lf (.lst [V.int 0, V.int 0, V.int 0, V.int 0])) = H1 at *
    refine ⟨_, _, rfl, _, rfl, t, rfl, ⟨_, SqT.of (s1 _ _ h0)⟩, for_tup (K := K) (a := t) (xs := [V.ref r0, V.ref r1, V.ref r2]) (fun i σ H' => ∃ o1, σ = [some (.ref t), some (.int j), some (.ref Lf), some (.int (colB uf i)), o1, none] ∧ H1 = H') ⟨none, rfl, rfl⟩ (fun i σ H' hi ⟨_, _, e⟩ => e ▸ SqT.of (s1 _ _ h0)) ?_ ?_⟩
    · rintro i y σ H' hy ⟨o1, rfl, rfl⟩
      obtain ⟨r, rfl, hi, l3, nz⟩ := at3 i y hy
      obtain ⟨y0, y1, y2, g, gx⟩ := l3.row
      obtain ⟨dx, gr⟩ := l3.at_
      obtain ⟨b1, b2, up, _, _⟩ := bd3 i hi
      refine ⟨_, rfl, _, rfl, _, rfl, r, _, _, .ref (xf i), rfl, rfl, SqT.of (s1 _ _ g), atI_nat (by rw [show [V.ref y0, V.ref y1, V.ref y2] = [y0, y1, y2].map V.ref from rfl, List.getElem?_map, gx]; rfl), xf i, CR, dx, _, .int (uf i), rfl, s1 _ _ gr, RK.own.cls, RK.nb, rfl, _, _, rfl, rfl, wmul (m := 3000) (n := 3000) (lt_mono (bB i (by omega)) (by have := Nat.mul_le_mul hk (show i ≤ 3 by omega); omega)) (lt_mono b2 (by omega)) (by decide) (by decide) (by decide), ?_⟩
      exact ⟨_, rfl, rfl⟩
    · rintro σ H' ⟨o1, rfl, rfl⟩
      refine ⟨_, rfl, t, _, rfl, SqT.of (s1 _ _ h0), ?_⟩
      have keepT : ∀ {c : Addr} {o : HO} {H' : Hp}, H c = some o → Keep Lf H1 H' → H' c = some o := fun e kk => kk _ _ (s1 _ _ e) (nLf e)
      refine for_it (walk_enumT (xs := [V.ref r0, V.ref r1, V.ref r2]) (n := 3) rfl) (fun i σ H' => ∃ o1 o2, σ = [some (.ref t), some (.int j), some (.ref Lf), some (.int (colB uf 3)), o1, o2] ∧ Keep Lf H1 H' ∧ H' Lf = some (.lst ((colL (fun i => tf i * (colB uf 3 / uf i)) i).map V.int))) ⟨_, _, rfl, Keep.refl _ _, e1⟩ (fun i σ H' _ ⟨_, _, _, kk, _⟩ => SqT.of (keepT h0 kk)) ?_ ?_
      · rintro i x σ Ha Hb hi ⟨o1, o2, rfl, ka, hLa⟩ ⟨TT, y1, y2, rfl, hTT, rfl, gy1, gy2⟩
        cases gy1
        obtain ⟨r, rfl, hi, l3, nz⟩ := at3 i y2 gy2
        obtain ⟨y0, y1, y2, g, gx⟩ := l3.row
        obtain ⟨dx, gr⟩ := l3.at_
        obtain ⟨b1, b2, up, _, _⟩ := bd3 i hi
        have sT := same_upd (o := .tup [.int (i : Nat), V.ref r]) hTT
        have kb := ka.trans (Keep.same sT)
        have hLb := sT _ _ hLa
        refine ⟨TT, _, rfl, .inl (.inl upd_same), rfl, _, _, rfl, _, _, rfl, rfl, ?_⟩
        generalize (upd Ha TT (.tup [.int (i : Nat), V.ref r])) = Hc at *
        have ix : [V.ref y0, V.ref y1, V.ref y2][j]? = some (.ref (xf i)) := by rw [show [V.ref y0, V.ref y1, V.ref y2] = [y0, y1, y2].map V.ref from rfl, List.getElem?_map, gx]; rfl
        refine ⟨_, rfl, _, rfl, r, _, _, .ref (xf i), rfl, rfl, SqT.of (keepT g kb), atI_nat ix, xf i, CR, dx, _, .int (tf i), rfl, keepT gr kb, RK.own.cls, RK.nt, rfl, ?_⟩
        refine ⟨_, rfl, _, rfl, _, rfl, r, _, _, .ref (xf i), rfl, rfl, SqT.of (keepT g kb), atI_nat ix, xf i, CR, dx, _, .int (uf i), rfl, keepT gr kb, RK.own.cls, RK.nb, rfl, ?_⟩
        refine ⟨_, _, rfl, rfl, CDivW.of up (lt_mono b2 (by omega)), _, _, rfl, rfl, wmul (m := 3000) (n := 3000) (lt_mono b1 (by omega)) (Nat.lt_of_le_of_lt (Int.natAbs_ediv_le_natAbs _ _) (lt_mono (bB 3 (by omega)) (by omega))) (by decide) (by decide) (by decide), ?_⟩
        have hlen : ∀ n, (colL (fun i => tf i * (colB uf 3 / uf i)) n).length = 4 := fun n => by
          induction n with
          | zero => rfl
          | succ n ih => show ((colL _ n).set _ _).length = 4; rw [List.length_set, ih]
        have hix : ixN (((colL (fun i => tf i * (colB uf 3 / uf i)) i).map V.int).length) (((i : Nat) : Int) + 1) = some (i + 1) := by
          rw [List.length_map, hlen, show ((i : Nat) : Int) + 1 = ((i + 1 : Nat) : Int) by omega]
          exact ixN4 (by omega)
        refine ⟨_, rfl, _, rfl, _, _, rfl, rfl, Lf, _, ((i : Nat) : Int) + 1, i + 1, rfl, rfl, hLb, hix, ?_⟩
        refine ⟨_, _, rfl, fun c o e n => by rw [upd_ne n]; exact kb _ _ e n, ?_⟩
        rw [upd_same]
        show some (HO.lst _) = some (HO.lst _)
        rw [show colL (fun i => tf i * (colB uf 3 / uf i)) (i + 1) = (colL (fun i => tf i * (colB uf 3 / uf i)) i).set (i + 1) (tf i * (colB uf 3 / uf i)) from rfl, List.map_set]
      · rintro σ H' ⟨o1, o2, rfl, kk, hL⟩
        obtain ⟨a0, c0, v0, y0, z0⟩ := bd3 0 (by decide)
        obtain ⟨a1, c1, v1, y1, z1⟩ := bd3 1 (by decide)
        obtain ⟨a2, c2, v2, y2, z2⟩ := bd3 2 (by decide)
        have q0 : colB uf 3 / uf 0 = uf 1 * uf 2 := by
          show 1 * uf 0 * uf 1 * uf 2 / uf 0 = _
          rw [show 1 * uf 0 * uf 1 * uf 2 = uf 0 * (uf 1 * uf 2) by grind]
          exact Int.mul_ediv_cancel_left _ (by omega)
        have q1 : colB uf 3 / uf 1 = uf 0 * uf 2 := by
          show 1 * uf 0 * uf 1 * uf 2 / uf 1 = _
          rw [show 1 * uf 0 * uf 1 * uf 2 = uf 1 * (uf 0 * uf 2) by grind]
          exact Int.mul_ediv_cancel_left _ (by omega)
        have q2 : colB uf 3 / uf 2 = uf 0 * uf 1 := by
          show 1 * uf 0 * uf 1 * uf 2 / uf 2 = _
          rw [show 1 * uf 0 * uf 1 * uf 2 = uf 2 * (uf 0 * uf 1) by grind]
          exact Int.mul_ediv_cancel_left _ (by omega)
        have hL3 : H' Lf = some (.lst (ents ⟨0, tf 0 * (uf 1 * uf 2), tf 1 * (uf 0 * uf 2), tf 2 * (uf 0 * uf 1), colB uf 3⟩)) := by
          rw [hL]
          show some (HO.lst [V.int 0, V.int (tf 0 * (colB uf 3 / uf 0)), V.int (tf 1 * (colB uf 3 / uf 1)), V.int (tf 2 * (colB uf 3 / uf 2))]) = _
          rw [q0, q1, q2]
          rfl
        have dB : colB uf 3 ≠ 0 := by
          show 1 * uf 0 * uf 1 * uf 2 ≠ 0
          exact Int.mul_ne_zero (Int.mul_ne_zero (Int.mul_ne_zero (by decide) (by omega)) (by omega)) (by omega)
        have three : ∀ {x y z : Int}, x.natAbs < 2 ^ k → y.natAbs < 2 ^ k → z.natAbs < 2 ^ k → (x * (y * z)).natAbs < 2 ^ 400 := fun {x y z} h1 h2 h3 => by
          rw [Int.natAbs_mul, Int.natAbs_mul]
          exact Nat.lt_of_lt_of_le (Nat.mul_lt_mul'' h1 (Nat.mul_lt_mul'' h2 h3)) (by rw [← Nat.pow_add, ← Nat.pow_add]; exact Nat.pow_le_pow_right (by decide) (by omega))
        have sH : Same H H' := fun c o e => kk c o (s1 c o e) (nLf e)
        refine ⟨_, rfl, _, rfl, ⟨Lf, ⟨0, tf 0 * (uf 1 * uf 2), tf 1 * (uf 0 * uf 2), tf 2 * (uf 0 * uf 1), colB uf 3⟩, rfl, hL3, dB, Nat.two_pow_pos _, three a0 c1 c2, three a1 c0 c2, three a2 c0 c1, lt_mono (bB 3 (by omega)) (by omega), fun r v H2 hr s2 hv => q r v H2 (low5_mk hr.nrm (Cross.trans ?_ hr.cross dB)) (sH.trans s2) hv⟩⟩
        have B0 : colB uf 3 = uf 0 * (uf 1 * uf 2) := by show 1 * uf 0 * uf 1 * uf 2 = _; grind
        have B1 : colB uf 3 = uf 1 * (uf 0 * uf 2) := by show 1 * uf 0 * uf 1 * uf 2 = _; grind
        have B2 : colB uf 3 = uf 2 * (uf 0 * uf 1) := by show 1 * uf 0 * uf 1 * uf 2 = _; grind
        have g0 : (m 0 j).1 * (m 1 j).2 * (m 2 j).2 * colB uf 3 = tf 0 * (uf 1 * uf 2) * ((m 0 j).2 * (m 1 j).2 * (m 2 j).2) := by rw [B0]; exact col_eq0 y0
        have g1 : (m 1 j).1 * (m 0 j).2 * (m 2 j).2 * colB uf 3 = tf 1 * (uf 0 * uf 2) * ((m 0 j).2 * (m 1 j).2 * (m 2 j).2) := by rw [B1]; exact col_eq1 y1
        have g2 : (m 2 j).1 * (m 0 j).2 * (m 1 j).2 * colB uf 3 = tf 2 * (uf 0 * uf 1) * ((m 0 j).2 * (m 1 j).2 * (m 2 j).2) := by rw [B2]; exact col_eq2 y2
        exact ⟨by show (0 : Int) * _ = 0 * _; rw [Int.zero_mul, Int.zero_mul], g0, g1, g2⟩
end
end Sf

namespace Sf
open PySem PySem.Spec PyProof.Rows L2
theorem lf_dp {K : PySem.W.Frag} {H : Hp} {v : V} {q : Q5} (h : LF H v q) : Dp K H v (.tuple [.tuple ((entI q).map PyData.int), .int q.d]) := by
  obtain ⟨t, e, rfl, h1, h2⟩ := h
  exact .tup (SqT.of h1) (.cons (dp_tup (ns := entI q) (SqT.of h2)) (.cons (.int _) .nil))
theorem lf_eqv (p q : Q5) : PyData.eqv (.tuple [.tuple ((entI p).map PyData.int), .int p.d]) (.tuple [.tuple ((entI q).map PyData.int), .int q.d]) = true ↔ p = q := by
  have e : PyData.eqv (.tuple [.tuple ((entI p).map PyData.int), .int p.d]) (.tuple [.tuple ((entI q).map PyData.int), .int q.d]) = (PyData.eqv (.tuple ((entI p).map PyData.int)) (.tuple ((entI q).map PyData.int)) && (PyData.eqv (.int p.d) (.int q.d) && true)) := by
    conv => lhs; unfold PyData.eqv
    rfl
  have e2 : PyData.eqv (.int p.d) (.int q.d) = decide (p.d = q.d) := by
    unfold PyData.eqv
    rfl
  rw [e, e2, eqv_tups', Bool.and_true, Bool.and_eq_true, decide_eq_true_iff, decide_eq_true_iff]
  obtain ⟨w1, x1, y1, z1, d1⟩ := p
  obtain ⟨w2, x2, y2, z2, d2⟩ := q
  unfold entI
  simp
  constructor
  · rintro ⟨⟨h1, h2, h3, h4⟩, h5⟩
    exact ⟨h1, h2, h3, h4, h5⟩
  · rintro ⟨h1, h2, h3, h4, h5⟩
    exact ⟨⟨h1, h2, h3, h4⟩, h5⟩
theorem rEqD_lf {K : PySem.W.Frag} {H : Hp} {v w : V} {p q : Q5} {R : VK} (hv : LF H v p) (hw : LF H w q) (r : ∀ b : Bool, (b = true ↔ p = q) → R (.bl b) H) : rEqD K v w H R := ⟨_, _, lf_dp hv, lf_dp hw, rfl, rfl, r _ (lf_eqv p q)⟩
theorem rNeD_lf {K : PySem.W.Frag} {H : Hp} {v w : V} {p q : Q5} {R : VK} (hv : LF H v p) (hw : LF H w q) (r : ∀ b : Bool, (b = true ↔ p = q) → R (.bl (!b)) H) : rNeD K v w H R := ⟨_, _, lf_dp hv, lf_dp hw, rfl, rfl, r _ (lf_eqv p q)⟩
theorem low_iff {e f r s : Q5} (h : Low5 e r) (g : Low5 f s) (e0 : e.d ≠ 0) (f0 : f.d ≠ 0) : r = s ↔ Cross e f := by
  constructor
  · intro z
    subst z
    exact h.cross.trans g.cross.symm (by have := h.1; omega)
  · intro c
    exact low5_uni h g c e0 f0
theorem low_prod {a b : Int} {e f p q r : Q5} (h : Low5 e p) (g : Low5 f q) (l : Low5 (prodQ a b p q) r) (e0 : e.d ≠ 0) (f0 : f.d ≠ 0) : Low5 (prodQ a b e f) r := by
  have p0 : p.d ≠ 0 := by have := h.1; omega
  have q0 : q.d ≠ 0 := by have := g.1; omega
  exact low5_mk l.nrm (Cross.trans ((cross_prod h.cross).trans (cross_prod1 g.cross) (Int.mul_ne_zero p0 f0)) l.cross (Int.mul_ne_zero p0 q0))
theorem low_int (n : Int) : Low5 ⟨n, 0, 0, 0, 1⟩ ⟨n, 0, 0, 0, 1⟩ := low5_refl ⟨Int.one_pos, by unfold gcd5; simp⟩
section
variable {P : Program} {w : World} {K : PySem.W.Frag} {mg : Str → Option Value} {base : Heap} {f : Addr} {fd : FuncData} {CR CA CF : Addr}
/-- what the law asks of a table -/
structure DueQ (a b : Int) (m : Nat → Nat → Int × Int) : Prop where
  x : Cross (prodQ a b (colM m 0) (colM m 0)) ⟨a, 0, 0, 0, 1⟩
  y : Cross (prodQ a b (colM m 1) (colM m 1)) ⟨b, 0, 0, 0, 1⟩
  z : Cross (prodQ a b (colM m 0) (colM m 1)) (colM m 2)
  w : Cross (prodQ a b (colM m 1) (colM m 0)) (sclQ (-1) 1 (colM m 2))
structure DueP (CR : Addr) (vs : List V) (H : Hp) (Q : VK) : Prop where
  ex : ∃ (pr t : Addr) (a b : Int) (m : Nat → Nat → Int × Int) (k : Nat), vs = [.ref pr, .ref t] ∧ H pr = some (.tup [.int a, .int b]) ∧ a.natAbs < 2 ^ 10 ∧ b.natAbs < 2 ^ 10 ∧ Tab CR H t m ∧ (∀ i j, i < 3 → j < 3 → Bw k (m i j)) ∧ k ≤ 133 ∧ (∀ j, j < 3 → ∃ e, Cross (colM m j) e ∧ e.d ≠ 0 ∧ Bd 188 e) ∧
    ∀ (r : Bool) (H' : Hp), Same H H' → (r = true ↔ DueQ a b m) → Q (.bl r) H'
def spDue (CR : Addr) : Sp := fun vs H Q _ => DueP CR vs H Q
theorem ok_is_due (F : FnD K "_law_is_due" "_law_is_due" s_L_is_due f fd) (C_L_column : Cal P w K mg base 3 "_law_column" ["_law_table", "_law_at"] (spLCol CR)) (C_L_times : Cal P w K mg base 3 "_law_times" ["_law_pair_here", "_law_one", "_law_other"] spTimes) (C_L_scaled : Cal P w K mg base 3 "_law_scaled" ["_law_one", "_law_top", "_law_bottom"] spLScaled) : FnOk P w K mg base CX0 4 f fd ["_law_pair_here", "_law_table"] (spDue CR) := by
  refine F.ok sc_L_is_due (fun vs H Q E h => ?_) (fun cdv A outer s H vs Q E hr h => ?_)
  · obtain ⟨pr, t, a, b, m, k, rfl, _⟩ := h.ex; rfl
  · obtain ⟨pr, t, a, b, m, k, rfl, hpr, ba, bb, ht, hB, hk, he, q⟩ := h.ex
    refine ⟨_, PSs.nox (pss_cons (ps_par3 (i := 2) (j := 3) (l := 4) (by rfl) sc_L_is_due.nd rfl rfl rfl (by decide) (by decide) (by decide) rfl rfl rfl (pa_cons (pe_cal C_L_column (hr.mono (by decide)) (pa_cons (pv 1) (pa_cons pe_int pa_nil))) (pa_cons (pe_cal C_L_column (hr.mono (by decide)) (pa_cons (pv 1) (pa_cons pe_int pa_nil))) (pa_cons (pe_cal C_L_column (hr.mono (by decide)) (pa_cons (pv 1) (pa_cons pe_int pa_nil))) pa_nil))) (by rfl))
      (pss_cons (ps_if (PW.pt (pw_or (pt_cmpR (op_neD hr.units) (pe_cal C_L_times (hr.mono (by decide)) (pa_cons (pv 0) (pa_cons (pv 2) (pa_cons (pv 2) pa_nil)))) (pe_tup (pa_cons (pe_tup (pa_cons (pe_ix ix_tup (pv 0) pe_int (fun _ _ => rfl)) (pa_cons pe_int (pa_cons pe_int (pa_cons pe_int pa_nil))))) (pa_cons pe_int pa_nil))) (nomark _)) (pw_or1 (pt_cmpR (op_neD hr.units) (pe_cal C_L_times (hr.mono (by decide)) (pa_cons (pv 0) (pa_cons (pv 3) (pa_cons (pv 3) pa_nil)))) (pe_tup (pa_cons (pe_tup (pa_cons (pe_ix ix_tup (pv 0) pe_int (fun _ _ => rfl)) (pa_cons pe_int (pa_cons pe_int (pa_cons pe_int pa_nil))))) (pa_cons pe_int pa_nil))) (nomark _))))) (pss_one (ps_ret pe_bl)) pss_nil)
      (pss_one (ps_ret (pe_and (pe_cmpR (op_eqD hr.units) (pe_cal C_L_times (hr.mono (by decide)) (pa_cons (pv 0) (pa_cons (pv 2) (pa_cons (pv 3) pa_nil)))) (pv 4) (nomark _)) (pe_one (pe_cmpR (op_eqD hr.units) (pe_cal C_L_times (hr.mono (by decide)) (pa_cons (pv 0) (pa_cons (pv 3) (pa_cons (pv 2) pa_nil)))) (pe_cal C_L_scaled (hr.mono (by decide)) (pa_cons (pv 4) (pa_cons (pe_un un_neg pe_int) (pa_cons pe_int pa_nil)))) (nomark _)))))))), ?_⟩
    refine ⟨_, rfl, ⟨t, 0, _, m, k, rfl, rfl, by decide, ht, hB, hk, fun x1 v1 H1 l1 s1 w1 => ?_⟩⟩
    refine ⟨_, rfl, ⟨t, 1, _, m, k, rfl, rfl, by decide, ht.same s1, hB, hk, fun x2 v2 H2 l2 s2 w2 => ?_⟩⟩
    refine ⟨_, rfl, ⟨t, 2, _, m, k, rfl, rfl, by decide, (ht.same s1).same s2, hB, hk, fun x3 v3 H3 l3 s3 w3 => ?_⟩⟩
    have cz : ∀ j, j < 3 → (colM m j).d ≠ 0 := fun j hj => by
      obtain ⟨r0, r1, r2, _, hr0, hr1, hr2⟩ := ht.ex
      obtain ⟨_, _, _, _, n0⟩ := hr0.pick hj
      obtain ⟨_, _, _, _, n1⟩ := hr1.pick hj
      obtain ⟨_, _, _, _, n2⟩ := hr2.pick hj
      exact Int.mul_ne_zero (Int.mul_ne_zero n0 n1) n2
    have lb : ∀ {j : Nat} {x : Q5}, j < 3 → Low5 (colM m j) x → Bd 188 x := fun {j x} hj l => by
      obtain ⟨e, hc, d0, hb⟩ := he j hj
      have cd := cz j hj
      exact low5_bd d0 (low5_mk l.nrm (Cross.trans hc.symm l.cross cd)) hb
    refine ⟨_, _, _, rfl, ?_⟩
    have b1 := lb (by decide) l1
    have b2 := lb (by decide) l2
    have b3 := lb (by decide) l3
    have d1 : x1.d ≠ 0 := by have := l1.1; omega
    have d2 : x2.d ≠ 0 := by have := l2.1; omega
    have d3 : x3.d ≠ 0 := by have := l3.1; omega
    have s123 := (s1.trans s2).trans s3
    have hp3 := s123 _ _ hpr
    replace w1 := (w1.same s2).same s3
    replace w2 := w2.same s3
    refine ⟨_, rfl, _, rfl, _, rfl, ⟨pr, a, b, v1, v1, x1, x1, 188, 188, rfl, hp3, w1, w1, ba, bb, .inl ⟨b1, b1⟩, by decide, d1, d1, fun y1 g1 H4 m1 s4 f1 => ?_⟩⟩
    refine ⟨_, rfl, pr, _, _, .int a, rfl, rfl, SqT.of (s4 _ _ hp3), atI_nat (j := 0) rfl, (by show 4 ≤ sizeLine; decide), fun ea hea => ⟨(by show 2 ≤ sizeLine; decide), fun ta hta => ?_⟩⟩
    have z0 := cz 0 (by decide)
    have z1 := cz 1 (by decide)
    have z2 := cz 2 (by decide)
    have pa := same_upd (o := .tup [V.int a, V.int 0, V.int 0, V.int 0]) hea
    have pb := same_upd (o := .tup [V.ref ea, V.int 1]) hta
    have fa : LF (upd (upd H4 ea (.tup [V.int a, V.int 0, V.int 0, V.int 0])) ta (.tup [V.ref ea, V.int 1])) (.ref ta) ⟨a, 0, 0, 0, 1⟩ := ⟨ta, ea, rfl, upd_same, pb _ _ upd_same⟩
    have s34 := (s4.trans pa).trans pb
    refine rNeD_lf ((f1.same pa).same pb) fa fun e1 he1 => ?_
    generalize (upd (upd H4 ea (.tup [V.int a, V.int 0, V.int 0, V.int 0])) ta (.tup [V.ref ea, V.int 1])) = H5 at *
    have hx := low_iff (low_prod l1 l1 m1 z0 z0) (low_int a) (Int.mul_ne_zero z0 z0) (by show (1 : Int) ≠ 0; decide)
    cases e1 with
    | false => exact ⟨_, rfl, q false _ (s123.trans s34) ⟨fun z => Bool.noConfusion z, fun z => absurd (he1.mpr (hx.mpr z.x)) (by decide)⟩⟩
    | true =>
    have cx := hx.mp (he1.mp rfl)
    have hp5 := s34 _ _ hp3
    replace w1 := w1.same s34
    replace w2 := w2.same s34
    replace w3 := w3.same s34
    refine ⟨_, rfl, _, rfl, _, rfl, _, rfl, ⟨pr, a, b, v2, v2, x2, x2, 188, 188, rfl, hp5, w2, w2, ba, bb, .inl ⟨b2, b2⟩, by decide, d2, d2, fun y2 g2 H6 m2 s6 f2 => ?_⟩⟩
    refine ⟨_, rfl, pr, _, _, .int b, rfl, rfl, SqT.of (s6 _ _ hp5), atI_nat (j := 1) rfl, (by show 4 ≤ sizeLine; decide), fun eb heb => ⟨(by show 2 ≤ sizeLine; decide), fun tb htb => ?_⟩⟩
    have pc := same_upd (o := .tup [V.int b, V.int 0, V.int 0, V.int 0]) heb
    have pd := same_upd (o := .tup [V.ref eb, V.int 1]) htb
    have fb : LF (upd (upd H6 eb (.tup [V.int b, V.int 0, V.int 0, V.int 0])) tb (.tup [V.ref eb, V.int 1])) (.ref tb) ⟨b, 0, 0, 0, 1⟩ := ⟨tb, eb, rfl, upd_same, pd _ _ upd_same⟩
    have s56 := (s6.trans pc).trans pd
    refine rNeD_lf ((f2.same pc).same pd) fb fun e2 he2 => ?_
    generalize (upd (upd H6 eb (.tup [V.int b, V.int 0, V.int 0, V.int 0])) tb (.tup [V.ref eb, V.int 1])) = H7 at *
    have hy := low_iff (low_prod l2 l2 m2 z1 z1) (low_int b) (Int.mul_ne_zero z1 z1) (by show (1 : Int) ≠ 0; decide)
    have S7 := (s123.trans s34).trans s56
    cases e2 with
    | false => exact ⟨_, rfl, q false _ S7 ⟨fun z => Bool.noConfusion z, fun z => absurd (he2.mpr (hy.mpr z.y)) (by decide)⟩⟩
    | true =>
    have cy := hy.mp (he2.mp rfl)
    have hp7 := s56 _ _ hp5
    replace w1 := w1.same s56
    replace w2 := w2.same s56
    replace w3 := w3.same s56
    refine ⟨_, rfl, _, rfl, _, rfl, _, rfl, ⟨pr, a, b, v1, v2, x1, x2, 188, 188, rfl, hp7, w1, w2, ba, bb, .inl ⟨b1, b2⟩, by decide, d1, d2, fun y3 g3 H8 m3 s8 f3 => ?_⟩⟩
    refine ⟨_, rfl, rEqD_lf f3 (w3.same s8) fun e3 he3 => ?_⟩
    have hz := low_iff (low_prod l1 l2 m3 z0 z1) l3 (Int.mul_ne_zero z0 z1) z2
    cases e3 with
    | false => exact ⟨_, rfl, q false _ (S7.trans s8) ⟨fun z => Bool.noConfusion z, fun z => absurd (he3.mpr (hz.mpr z.z)) (by decide)⟩⟩
    | true =>
    have c3 := hz.mp (he3.mp rfl)
    refine ⟨_, rfl, _, rfl, _, rfl, _, rfl, ⟨pr, a, b, v2, v1, x2, x1, 188, 188, rfl, s8 _ _ hp7, w2.same s8, w1.same s8, ba, bb, .inl ⟨b2, b1⟩, by decide, d2, d1, fun y4 g4 H9 m4 s9 f4 => ?_⟩⟩
    refine ⟨_, rfl, _, rfl, ⟨v3, -1, 1, x3, 188, 2, rfl, (w3.same s8).same s9, b3, by decide, by decide, by decide, d3, by decide, fun y5 g5 H10 m5 s10 f5 => ?_⟩⟩
    have h4 : Low5 (sclQ (-1) 1 (colM m 2)) y5 := low5_mk m5.nrm (Cross.trans (cross_scl l3.cross rfl) m5.cross (Int.mul_ne_zero d3 (by decide)))
    have hw := low_iff (low_prod l2 l1 m4 z1 z0) h4 (Int.mul_ne_zero z1 z0) (Int.mul_ne_zero z2 (by decide))
    refine rEqD_lf (f4.same s10) f5 fun e4 he4 => q e4 _ (((S7.trans s8).trans s9).trans s10) ?_
    rw [he4, hw]
    exact ⟨fun z => ⟨cx, cy, c3, z⟩, fun z => z.w⟩
end
end Sf

namespace Sf
open PySem PySem.Spec PyProof.Rows L2
theorem prod_swap {a b : Int} {p q : Q5} (hp : p.w = 0) (hq : q.w = 0) : prodQ a b q p = mateQ (prodQ a b p q) := by
  obtain ⟨w1, x1, y1, z1, d1⟩ := p
  obtain ⟨w2, x2, y2, z2, d2⟩ := q
  dsimp only at hp hq
  subst hp hq
  unfold prodQ mateQ
  simp only [Q5.mk.injEq]
  refine ⟨?_, ?_, ?_, ?_, ?_⟩ <;> grind
theorem due_iff {a b : Int} {m : Nat → Nat → Int × Int} : DueQ a b m ↔ IsTrn a b m := by
  refine ⟨fun h => ⟨h.x, h.y, h.z⟩, fun h => ⟨h.x, h.y, h.z, ?_⟩⟩
  have e : sclQ (-1) 1 (colM m 2) = mateQ (colM m 2) := by
    unfold sclQ mateQ colM colQ
    simp
  rw [prod_swap (p := colM m 0) (q := colM m 1) rfl rfl, e]
  exact cross_mate h.z
end Sf

namespace Sf
open PySem PySem.Spec PyProof.Rows L2
/-- the part of the unit j -/
def cmp4 (j : Nat) (q : Q5) : Int := match j with | 0 => q.w | 1 => q.x | 2 => q.y | _ => q.z
theorem cmp_add {a b : Int} {p q : Q5} (j : Nat) : cmp4 j (addQ a b p q) = cmp4 j p * q.d + cmp4 j q * p.d := by
  match j with
  | 0 => rfl
  | 1 => rfl
  | 2 => rfl
  | j + 3 => rfl
theorem cmp_self {a b : Int} {s : Q5} (j : Nat) : cmp4 j (subQ a b s s) = 0 := by
  match j with
  | 0 => exact Int.sub_self _
  | 1 => exact Int.sub_self _
  | 2 => exact Int.sub_self _
  | j + 3 => exact Int.sub_self _
theorem un4_d (j : Nat) : (un4 j).d = 1 := by
  match j with
  | 0 => rfl
  | 1 => rfl
  | 2 => rfl
  | j + 3 => rfl
theorem ledT_d (a b : Int) (im un : Nat → Q5) (j i : Nat) : (ledT a b im un (un4 j) i).d = (im i).d * normT a b (un i) := by
  show (im i).d * (un4 j).d * normT a b (un i) = _
  rw [un4_d, Int.mul_one]
theorem ledT_sum (a b : Int) (m : Nat → Nat → Int × Int) (i : Nat) (h0 : 0 < i) (hi : i < 4) : cmp4 0 (ledT a b (im4 m) un4 (un4 0) i) + cmp4 1 (ledT a b (im4 m) un4 (un4 1) i) + cmp4 2 (ledT a b (im4 m) un4 (un4 2) i) + cmp4 3 (ledT a b (im4 m) un4 (un4 3) i) = 0 := by
  have key : ∀ q u : Q5, q.w = 0 → (u = ⟨0, 1, 0, 0, 1⟩ ∨ u = ⟨0, 0, 1, 0, 1⟩ ∨ u = ⟨0, 0, 0, 1, 1⟩) → cmp4 0 (prodQ a b (prodQ a b q (un4 0)) (invQ a b u)) + cmp4 1 (prodQ a b (prodQ a b q (un4 1)) (invQ a b u)) + cmp4 2 (prodQ a b (prodQ a b q (un4 2)) (invQ a b u)) + cmp4 3 (prodQ a b (prodQ a b q (un4 3)) (invQ a b u)) = 0 := fun q u hq hu => by
    obtain ⟨w1, x1, y1, z1, d1⟩ := q
    dsimp only at hq
    subst hq
    rcases hu with rfl | rfl | rfl <;> simp [cmp4, prodQ, invQ, un4, unitQ] <;> grind
  have c : i = 1 ∨ i = 2 ∨ i = 3 := by omega
  rcases c with rfl | rfl | rfl
  · exact key _ _ rfl (.inl rfl)
  · exact key _ _ rfl (.inr (.inl rfl))
  · exact key _ _ rfl (.inr (.inr rfl))
theorem ledT_one (a b : Int) (m : Nat → Nat → Int × Int) (j : Nat) (hj : j < 4) : cmp4 j (ledT a b (im4 m) un4 (un4 j) 0) = 1 := by
  have c : j = 0 ∨ j = 1 ∨ j = 2 ∨ j = 3 := by omega
  rcases c with rfl | rfl | rfl | rfl <;> simp [cmp4, ledT, im4, prodQ, invQ, un4, unitQ]
theorem fot_sum (a b : Int) (m : Nat → Nat → Int × Int) : cmp4 0 (fotS a b m 0) + cmp4 1 (fotS a b m 1) + cmp4 2 (fotS a b m 2) + cmp4 3 (fotS a b m 3) = 4 * (((im4 m 1).d * normT a b (un4 1)) * ((im4 m 2).d * normT a b (un4 2)) * ((im4 m 3).d * normT a b (un4 3))) := by
  have e : ∀ j, j < 4 → cmp4 j (fotS a b m j) = ((im4 m 1).d * normT a b (un4 1)) * ((im4 m 2).d * normT a b (un4 2)) * ((im4 m 3).d * normT a b (un4 3)) + cmp4 j (ledT a b (im4 m) un4 (un4 j) 1) * ((im4 m 2).d * normT a b (un4 2)) * ((im4 m 3).d * normT a b (un4 3)) + cmp4 j (ledT a b (im4 m) un4 (un4 j) 2) * ((im4 m 1).d * normT a b (un4 1)) * ((im4 m 3).d * normT a b (un4 3)) + cmp4 j (ledT a b (im4 m) un4 (un4 j) 3) * ((im4 m 1).d * normT a b (un4 1)) * ((im4 m 2).d * normT a b (un4 2)) := fun j hj => by
    have d0 : (subQ a b (un4 j) (un4 j)).d = 1 := by show (un4 j).d * (un4 j).d = 1; rw [un4_d]; rfl
    have t0 : (ledT a b (im4 m) un4 (un4 j) 0).d = 1 := by rw [ledT_d]; show (1 : Int) * normT a b ⟨1, 0, 0, 0, 1⟩ = 1; unfold normT; simp
    have ad : ∀ p q : Q5, (addQ a b p q).d = p.d * q.d := fun _ _ => rfl
    unfold fotS
    show cmp4 j (addQ a b (addQ a b (addQ a b (addQ a b (subQ a b (un4 j) (un4 j)) (ledT a b (im4 m) un4 (un4 j) 0)) (ledT a b (im4 m) un4 (un4 j) 1)) (ledT a b (im4 m) un4 (un4 j) 2)) (ledT a b (im4 m) un4 (un4 j) 3)) = _
    simp only [cmp_add, cmp_self, ad, d0, t0, ledT_one a b m j hj]
    rw [ledT_d a b (im4 m) un4 j 1, ledT_d a b (im4 m) un4 j 2, ledT_d a b (im4 m) un4 j 3]
    generalize (im4 m 1).d * normT a b (un4 1) = A
    generalize (im4 m 2).d * normT a b (un4 2) = B
    generalize (im4 m 3).d * normT a b (un4 3) = C
    grind
  rw [e 0 (by decide), e 1 (by decide), e 2 (by decide), e 3 (by decide)]
  have h1 := ledT_sum a b m 1 (by decide) (by decide)
  have h2 := ledT_sum a b m 2 (by decide) (by decide)
  have h3 := ledT_sum a b m 3 (by decide) (by decide)
  generalize (im4 m 1).d * normT a b (un4 1) = A
  generalize (im4 m 2).d * normT a b (un4 2) = B
  generalize (im4 m 3).d * normT a b (un4 3) = C
  grind
/-- one of the sums is not 0 -/
theorem fot_nz {a b : Int} {m : Nat → Nat → Int × Int} (na : a ≠ 0) (nb : b ≠ 0) (hd : ∀ j, j < 3 → (colM m j).d ≠ 0) : ∃ j, j < 4 ∧ Nz (fotS a b m j) := by
  by_cases c : ∃ j, j < 4 ∧ Nz (fotS a b m j)
  · exact c
  exfalso
  have z : ∀ j, j < 4 → (fotS a b m j).w = 0 ∧ (fotS a b m j).x = 0 ∧ (fotS a b m j).y = 0 ∧ (fotS a b m j).z = 0 := fun j hj => Classical.not_not.mp fun h => c ⟨j, hj, h⟩
  have s := fot_sum a b m
  rw [show cmp4 0 (fotS a b m 0) = 0 from (z 0 (by decide)).1, show cmp4 1 (fotS a b m 1) = 0 from (z 1 (by decide)).2.1, show cmp4 2 (fotS a b m 2) = 0 from (z 2 (by decide)).2.2.1, show cmp4 3 (fotS a b m 3) = 0 from (z 3 (by decide)).2.2.2] at s
  have nab := Int.mul_ne_zero na nb
  have n1 : normT a b (un4 1) ≠ 0 := by show normT a b ⟨0, 1, 0, 0, 1⟩ ≠ 0; unfold normT; simpa using na
  have n2 : normT a b (un4 2) ≠ 0 := by show normT a b ⟨0, 0, 1, 0, 1⟩ ≠ 0; unfold normT; simpa using nb
  have n3 : normT a b (un4 3) ≠ 0 := by show normT a b ⟨0, 0, 0, 1, 1⟩ ≠ 0; unfold normT; simpa using ⟨na, nb⟩
  have h := Int.mul_ne_zero (Int.mul_ne_zero (Int.mul_ne_zero (hd 0 (by decide)) n1) (Int.mul_ne_zero (hd 1 (by decide)) n2)) (Int.mul_ne_zero (hd 2 (by decide)) n3)
  have h4 := Int.mul_ne_zero (show (4 : Int) ≠ 0 by decide) h
  exact h4 s.symm
end Sf

namespace Sf
open PySem PySem.Spec PyProof.Rows L2
/-- a four's images of the units -/
def trF (a b : Int) (f : Q5) (i : Nat) : Q5 := trnQ a b f (un4 i)
/-- the ratio part of the mate of f times the unit c -/
def rpt (a b : Int) (f : Q5) (c : Nat) : Int := match c with | 0 => f.w | 1 => -a * f.x | 2 => -b * f.y | _ => a * b * f.z
theorem led_cmp (a b : Int) (f : Q5) (c j : Nat) (hc : c < 4) (hj : j < 4) : cmp4 j (ledT a b (trF a b f) un4 (un4 c) 0) * (-a * (-b) * (a * b)) + cmp4 j (ledT a b (trF a b f) un4 (un4 c) 1) * (-b * (a * b)) + cmp4 j (ledT a b (trF a b f) un4 (un4 c) 2) * (-a * (a * b)) + cmp4 j (ledT a b (trF a b f) un4 (un4 c) 3) * (-a * (-b)) = cmp4 j f * (4 * rpt a b f c * f.d * (-a * (-b) * (a * b))) := by
  obtain ⟨w, x, y, z, d⟩ := f
  have ec : c = 0 ∨ c = 1 ∨ c = 2 ∨ c = 3 := by omega
  have ej : j = 0 ∨ j = 1 ∨ j = 2 ∨ j = 3 := by omega
  rcases ec with rfl | rfl | rfl | rfl <;> rcases ej with rfl | rfl | rfl | rfl <;> simp only [cmp4, rpt, ledT, trF, trnQ, prodQ, invQ, un4, unitQ, normT] <;> grind
theorem trF_d (a b : Int) (f : Q5) (i : Nat) : (trF a b f i).d = f.d * normT a b f := by
  show f.d * (un4 i).d * normT a b f = _
  rw [un4_d, Int.mul_one]
theorem un4_norm (a b : Int) : normT a b (un4 0) = 1 ∧ normT a b (un4 1) = -a ∧ normT a b (un4 2) = -b ∧ normT a b (un4 3) = a * b := by
  refine ⟨?_, ?_, ?_, ?_⟩ <;> simp [normT, un4, unitQ]
theorem fot_cmp (a b : Int) (f : Q5) (c j : Nat) (hc : c < 4) (hj : j < 4) : cmp4 j (ledS a b (trF a b f) un4 (un4 c) 4) = cmp4 j f * ((f.d * normT a b f) * (f.d * normT a b f) * (f.d * normT a b f) * (4 * rpt a b f c * f.d * (-a * (-b) * (a * b)))) := by
  have d0 : (subQ a b (un4 c) (un4 c)).d = 1 := by show (un4 c).d * (un4 c).d = 1; rw [un4_d]; rfl
  have ad : ∀ p q : Q5, (addQ a b p q).d = p.d * q.d := fun _ _ => rfl
  have k := led_cmp a b f c j hc hj
  obtain ⟨n0, n1, n2, n3⟩ := un4_norm a b
  show cmp4 j (addQ a b (addQ a b (addQ a b (addQ a b (subQ a b (un4 c) (un4 c)) (ledT a b (trF a b f) un4 (un4 c) 0)) (ledT a b (trF a b f) un4 (un4 c) 1)) (ledT a b (trF a b f) un4 (un4 c) 2)) (ledT a b (trF a b f) un4 (un4 c) 3)) = _
  simp only [cmp_add, cmp_self, ad, d0, ledT_d, trF_d, n0, n1, n2, n3]
  generalize cmp4 j (ledT a b (trF a b f) un4 (un4 c) 0) = t0 at *
  generalize cmp4 j (ledT a b (trF a b f) un4 (un4 c) 1) = t1 at *
  generalize cmp4 j (ledT a b (trF a b f) un4 (un4 c) 2) = t2 at *
  generalize cmp4 j (ledT a b (trF a b f) un4 (un4 c) 3) = t3 at *
  have e : cmp4 j f * ((f.d * normT a b f) * (f.d * normT a b f) * (f.d * normT a b f) * (4 * rpt a b f c * f.d * (-a * (-b) * (a * b)))) = (f.d * normT a b f) * (f.d * normT a b f) * (f.d * normT a b f) * (cmp4 j f * (4 * rpt a b f c * f.d * (-a * (-b) * (a * b)))) := by grind
  rw [e, ← k]
  generalize f.d * normT a b f = D
  grind
theorem ledS_cross {a b : Int} {im im' : Nat → Q5} {s : Q5} (h : ∀ i, i < 4 → Cross (im i) (im' i)) : ∀ n, n ≤ 4 → Cross (ledS a b im un4 s n) (ledS a b im' un4 s n)
  | 0, _ => Cross.refl _
  | n + 1, hn => cross_add (ledS_cross h n (by omega)) (cross_prod (cross_prod (h n (by omega))))
theorem ledS_d {a b : Int} (na : a ≠ 0) (nb : b ≠ 0) {im : Nat → Q5} (h : ∀ i, i < 4 → (im i).d ≠ 0) (c : Nat) : ∀ n, n ≤ 4 → (ledS a b im un4 (un4 c) n).d ≠ 0
  | 0, _ => by show (un4 c).d * (un4 c).d ≠ 0; rw [un4_d]; decide
  | n + 1, hn => by
    show (ledS a b im un4 (un4 c) n).d * (ledT a b im un4 (un4 c) n).d ≠ 0
    refine Int.mul_ne_zero (ledS_d na nb h c n (by omega)) ?_
    rw [ledT_d]
    refine Int.mul_ne_zero (h n (by omega)) ?_
    obtain ⟨n0, n1, n2, n3⟩ := un4_norm a b
    have e : n = 0 ∨ n = 1 ∨ n = 2 ∨ n = 3 := by omega
    rcases e with rfl | rfl | rfl | rfl
    · rw [n0]; decide
    · rw [n1]; omega
    · rw [n2]; omega
    · rw [n3]; exact Int.mul_ne_zero na nb
/-- the sum is f times a ratio, if the table is the turn of f -/
theorem fot_prop {a b : Int} {m : Nat → Nat → Int × Int} {f : Q5} {c : Nat} (hm : ∀ i, i < 4 → Cross (im4 m i) (trF a b f i)) (hd : ∀ i, i < 4 → (im4 m i).d ≠ 0) (fd : f.d ≠ 0) (nf : normT a b f ≠ 0) (na : a ≠ 0) (nb : b ≠ 0) (hc : c < 4) (nz : Nz (fotS a b m c)) : Prop5 f (fotS a b m c) := by
  have X : Cross (fotS a b m c) (ledS a b (trF a b f) un4 (un4 c) 4) := ledS_cross hm 4 (by decide)
  have e0 := fot_cmp a b f c 0 hc (by decide)
  have e1 := fot_cmp a b f c 1 hc (by decide)
  have e2 := fot_cmp a b f c 2 hc (by decide)
  have e3 := fot_cmp a b f c 3 hc (by decide)
  have dS : (fotS a b m c).d ≠ 0 := ledS_d na nb hd c 4 (by decide)
  have dT : (ledS a b (trF a b f) un4 (un4 c) 4).d ≠ 0 := ledS_d na nb (fun i _ => by rw [trF_d]; exact Int.mul_ne_zero fd nf) c 4 (by decide)
  generalize ((f.d * normT a b f) * (f.d * normT a b f) * (f.d * normT a b f) * (4 * rpt a b f c * f.d * (-a * (-b) * (a * b)))) = k at *
  generalize ledS a b (trF a b f) un4 (un4 c) 4 = T at *
  obtain ⟨x0, x1, x2, x3⟩ := X
  replace e0 : T.w = f.w * k := e0
  replace e1 : T.x = f.x * k := e1
  replace e2 : T.y = f.y * k := e2
  replace e3 : T.z = f.z * k := e3
  rw [e0] at x0
  rw [e1] at x1
  rw [e2] at x2
  rw [e3] at x3
  have k0 : k * (fotS a b m c).d ≠ 0 := fun z => nz (by
    have h : ∀ {p q : Int}, p * T.d = q * k * (fotS a b m c).d → p = 0 := fun {p q} h => by
      rw [Int.mul_assoc, z, Int.mul_zero] at h
      exact (Int.mul_eq_zero.mp h).resolve_right dT
    exact ⟨h x0, h x1, h x2, h x3⟩)
  exact ⟨T.d, k * (fotS a b m c).d, dT, k0, by rw [x0, Int.mul_assoc], by rw [x1, Int.mul_assoc], by rw [x2, Int.mul_assoc], by rw [x3, Int.mul_assoc]⟩
end Sf

namespace Sf
open PySem PySem.Spec PyProof.Rows L2
theorem trn_w (a b : Int) (f : Q5) (j : Nat) : (trnQ a b f (unitQ j)).w = 0 := by
  obtain ⟨w, x, y, z, d⟩ := f
  match j with
  | 0 => simp only [trnQ, prodQ, invQ, unitQ, normT]; grind
  | 1 => simp only [trnQ, prodQ, invQ, unitQ, normT]; grind
  | j + 2 => simp only [trnQ, prodQ, invQ, unitQ, normT]; grind
theorem trn_one (a b : Int) (f : Q5) : Cross ⟨1, 0, 0, 0, 1⟩ (trnQ a b f ⟨1, 0, 0, 0, 1⟩) := by
  obtain ⟨w, x, y, z, d⟩ := f
  simp only [Cross, trnQ, prodQ, invQ, normT]
  refine ⟨?_, ?_, ?_, ?_⟩ <;> grind
/-- a table worth the turn of f -/
def LikeT (a b : Int) (f : Q5) (m : Nat → Nat → Int × Int) : Prop := ∀ i j, i < 3 → j < 3 → (m i j).2 ≠ 0 ∧ (m i j).1 * (turnM a b f i j).2 = (turnM a b f i j).1 * (m i j).2
theorem like_col {a b : Int} {f : Q5} {m : Nat → Nat → Int × Int} (h : LikeT a b f m) {j : Nat} (hj : j < 3) : Cross (colM m j) (trnQ a b f (unitQ j)) := by
  obtain ⟨n0, h0⟩ := h 0 j (by decide) hj
  obtain ⟨n1, h1⟩ := h 1 j (by decide) hj
  obtain ⟨n2, h2⟩ := h 2 j (by decide) hj
  have hw := trn_w a b f j
  replace h0 : (m 0 j).1 * (trnQ a b f (unitQ j)).d = (trnQ a b f (unitQ j)).x * (m 0 j).2 := h0
  replace h1 : (m 1 j).1 * (trnQ a b f (unitQ j)).d = (trnQ a b f (unitQ j)).y * (m 1 j).2 := h1
  replace h2 : (m 2 j).1 * (trnQ a b f (unitQ j)).d = (trnQ a b f (unitQ j)).z * (m 2 j).2 := h2
  generalize trnQ a b f (unitQ j) = t at *
  have k0 : (m 0 j).1 * (m 1 j).2 * (m 2 j).2 * t.d = t.x * ((m 0 j).2 * (m 1 j).2 * (m 2 j).2) := by grind
  have k1 : (m 1 j).1 * (m 0 j).2 * (m 2 j).2 * t.d = t.y * ((m 0 j).2 * (m 1 j).2 * (m 2 j).2) := by grind
  have k2 : (m 2 j).1 * (m 0 j).2 * (m 1 j).2 * t.d = t.z * ((m 0 j).2 * (m 1 j).2 * (m 2 j).2) := by grind
  exact ⟨by show (0 : Int) * _ = t.w * _; rw [hw, Int.zero_mul, Int.zero_mul], k0, k1, k2⟩
theorem like_im {a b : Int} {f : Q5} {m : Nat → Nat → Int × Int} (h : LikeT a b f m) : ∀ i, i < 4 → Cross (im4 m i) (trF a b f i)
  | 0, _ => trn_one a b f
  | i + 1, hi => like_col h (by omega)
theorem like_d {a b : Int} {f : Q5} {m : Nat → Nat → Int × Int} (h : LikeT a b f m) : ∀ i, i < 4 → (im4 m i).d ≠ 0
  | 0, _ => by show (1 : Int) ≠ 0; decide
  | i + 1, hi => by
    show (m 0 i).2 * (m 1 i).2 * (m 2 i).2 ≠ 0
    exact Int.mul_ne_zero (Int.mul_ne_zero (h 0 i (by decide) (by omega)).1 (h 1 i (by decide) (by omega)).1) (h 2 i (by decide) (by omega)).1
theorem trn_xx (a b : Int) (f : Q5) : Cross (prodQ a b (trnQ a b f (unitQ 0)) (trnQ a b f (unitQ 0))) ⟨a, 0, 0, 0, 1⟩ := by
  obtain ⟨w, x, y, z, d⟩ := f
  simp only [Cross, trnQ, prodQ, invQ, unitQ, normT]
  refine ⟨?_, ?_, ?_, ?_⟩ <;> grind
theorem trn_yy (a b : Int) (f : Q5) : Cross (prodQ a b (trnQ a b f (unitQ 1)) (trnQ a b f (unitQ 1))) ⟨b, 0, 0, 0, 1⟩ := by
  obtain ⟨w, x, y, z, d⟩ := f
  simp only [Cross, trnQ, prodQ, invQ, unitQ, normT]
  refine ⟨?_, ?_, ?_, ?_⟩ <;> grind
theorem trn_xy (a b : Int) (f : Q5) : Cross (prodQ a b (trnQ a b f (unitQ 0)) (trnQ a b f (unitQ 1))) (trnQ a b f (unitQ 2)) := by
  obtain ⟨w, x, y, z, d⟩ := f
  simp only [Cross, trnQ, prodQ, invQ, unitQ, normT]
  refine ⟨?_, ?_, ?_, ?_⟩ <;> grind
/-- such a table is a turn -/
theorem like_trn {a b : Int} {f : Q5} {m : Nat → Nat → Int × Int} (h : LikeT a b f m) (fd : f.d ≠ 0) (nf : normT a b f ≠ 0) : IsTrn a b m := by
  have c0 := like_col h (j := 0) (by decide)
  have c1 := like_col h (j := 1) (by decide)
  have c2 := like_col h (j := 2) (by decide)
  have dt : ∀ j, (trnQ a b f (unitQ j)).d ≠ 0 := fun j => by
    have e : (unitQ j).d = 1 := by
      match j with
      | 0 => rfl
      | 1 => rfl
      | j + 2 => rfl
    show f.d * (unitQ j).d * normT a b f ≠ 0
    rw [e, Int.mul_one]
    exact Int.mul_ne_zero fd nf
  have dm : ∀ j, j < 3 → (colM m j).d ≠ 0 := fun j hj => like_d h (j + 1) (by omega)
  have pp : ∀ {i j : Nat}, i < 3 → j < 3 → Cross (colM m i) (trnQ a b f (unitQ i)) → Cross (colM m j) (trnQ a b f (unitQ j)) → Cross (prodQ a b (colM m i) (colM m j)) (prodQ a b (trnQ a b f (unitQ i)) (trnQ a b f (unitQ j))) := fun {i j} hi hj x y => (cross_prod x).trans (cross_prod1 y) (Int.mul_ne_zero (dt i) (dm j hj))
  have dd : ∀ i j, (prodQ a b (trnQ a b f (unitQ i)) (trnQ a b f (unitQ j))).d ≠ 0 := fun i j => Int.mul_ne_zero (dt i) (dt j)
  exact ⟨(pp (by decide) (by decide) c0 c0).trans (trn_xx a b f) (dd 0 0), (pp (by decide) (by decide) c1 c1).trans (trn_yy a b f) (dd 1 1), ((pp (by decide) (by decide) c0 c1).trans (trn_xy a b f) (dd 0 1)).trans c2.symm (dt 2)⟩
end Sf

namespace Sf
open PySem PySem.Spec PyProof.Rows L2
theorem prop_trans {e f g : Q5} (h : Prop5 e f) (k : Prop5 f g) : Prop5 e g := by
  obtain ⟨u, v, u0, v0, h1, h2, h3, h4⟩ := h
  obtain ⟨s, t, s0, t0, k1, k2, k3, k4⟩ := k
  exact ⟨u * s, v * t, Int.mul_ne_zero u0 s0, Int.mul_ne_zero v0 t0, by grind, by grind, by grind, by grind⟩
/-- f times a ratio by the inverse of f is a ratio -/
theorem prop_ratio {a b : Int} {f s : Q5} (h : Prop5 f s) : (prodQ a b s (invQ a b f)).x = 0 ∧ (prodQ a b s (invQ a b f)).y = 0 ∧ (prodQ a b s (invQ a b f)).z = 0 := by
  obtain ⟨u, v, u0, v0, h1, h2, h3, h4⟩ := h
  obtain ⟨w, x, y, z, d⟩ := f
  obtain ⟨w', x', y', z', d'⟩ := s
  have k : ∀ {c : Int}, c * u = 0 → c = 0 := fun h => (Int.mul_eq_zero.mp h).resolve_right u0
  simp only [prodQ, invQ, normT] at *
  refine ⟨k ?_, k ?_, k ?_⟩ <;> grind
def smul (k : Int) (q : Q5) : Q5 := ⟨q.w * k, q.x * k, q.y * k, q.z * k, 1⟩
theorem trn_smul (a b k : Int) (f : Q5) (j : Nat) : Cross (trnQ a b f (unitQ j)) (trnQ a b (smul k f) (unitQ j)) := by
  obtain ⟨w, x, y, z, d⟩ := f
  match j with
  | 0 => simp only [Cross, smul, trnQ, prodQ, invQ, unitQ, normT]; refine ⟨?_, ?_, ?_, ?_⟩ <;> grind
  | 1 => simp only [Cross, smul, trnQ, prodQ, invQ, unitQ, normT]; refine ⟨?_, ?_, ?_, ?_⟩ <;> grind
  | j + 2 => simp only [Cross, smul, trnQ, prodQ, invQ, unitQ, normT]; refine ⟨?_, ?_, ?_, ?_⟩ <;> grind
/-- a four and its multiples have one turn -/
theorem prop_trn {a b : Int} {f s : Q5} (h : Prop5 f s) (nf : normT a b f ≠ 0) (j : Nat) : Cross (trnQ a b s (unitQ j)) (trnQ a b f (unitQ j)) ∧ normT a b s ≠ 0 := by
  obtain ⟨u, v, u0, v0, h1, h2, h3, h4⟩ := h
  have e : smul u s = smul v f := by unfold smul; rw [h1, h2, h3, h4]
  have nn : normT a b (smul v f) = normT a b f * (v * v) := by unfold normT smul; grind
  have ns : normT a b (smul u s) = normT a b s * (u * u) := by unfold normT smul; grind
  have n0 : normT a b (smul v f) ≠ 0 := by rw [nn]; exact Int.mul_ne_zero nf (Int.mul_ne_zero v0 v0)
  have A := trn_smul a b u s j
  have B := trn_smul a b v f j
  rw [e] at A
  have d0 : (trnQ a b (smul v f) (unitQ j)).d ≠ 0 := by
    have e : (unitQ j).d = 1 := by
      match j with
      | 0 => rfl
      | 1 => rfl
      | j + 2 => rfl
    show 1 * (unitQ j).d * normT a b (smul v f) ≠ 0
    rw [e, Int.mul_one, Int.one_mul]
    exact n0
  refine ⟨A.trans B.symm d0, fun z => ?_⟩
  rw [z, Int.zero_mul, e] at ns
  exact n0 ns
end Sf

namespace Sf
open PySem PySem.Spec PyProof.Rows L2
/-- the turn of f by its closed form -/
def cloM (a b : Int) (f : Q5) (i j : Nat) : Int × Int := (tE a b f i j, normT a b f)
theorem like_clo {a b : Int} {f : Q5} (nf : normT a b f ≠ 0) : LikeT a b f (cloM a b f) := fun i j hi hj => by
  refine ⟨nf, ?_⟩
  rw [turnM_eq a b f i hi j hj]
  show tE a b f i j * (f.d * 1 * normT a b f) = tE a b f i j * f.d * normT a b f
  rw [Int.mul_one, Int.mul_assoc]
theorem clo_bw {a b : Int} {f : Q5} (ba : a.natAbs < 2 ^ 10) (bb : b.natAbs < 2 ^ 10) (bf : EB 41 3 f) : ∀ i j, i < 3 → j < 3 → Bw 127 (cloM a b f i j) := fun i j hi hj => by
  have bu : EB 1 1 (unitQ j) := by
    match j with
    | 0 => exact ⟨by decide, by decide, by decide, by decide, by decide⟩
    | 1 => exact ⟨by decide, by decide, by decide, by decide, by decide⟩
    | j + 2 => exact (⟨by decide, by decide, by decide, by decide, by decide⟩ : EB 1 1 ⟨0, 0, 0, 1, 1⟩)
  have h1 : EB 64 4 (prodQ a b f (unitQ j)) := prodQ_eb (m := 41) (n := 1) (k := 10) ba bb bf bu
  have h2 : EB 127 7 (prodQ a b (prodQ a b f (unitQ j)) (mateQ f)) := prodQ_eb (m := 64) (n := 41) (k := 10) ba bb h1 (mate_eb bf)
  have h3 : EB 104 6 (prodQ a b f (mateQ f)) := prodQ_eb (m := 41) (n := 41) (k := 10) ba bb bf (mate_eb bf)
  have e : normT a b f = (prodQ a b f (mateQ f)).w := by unfold normT prodQ mateQ; grind
  refine ⟨?_, ?_⟩
  · show (ent _ (i + 1)).natAbs < _
    obtain ⟨_, x, y, z, _⟩ := h2
    have c : i = 0 ∨ i = 1 ∨ i = 2 := by omega
    rcases c with rfl | rfl | rfl
    · exact x
    · exact y
    · exact z
  · show (normT a b f).natAbs < _
    rw [e]
    exact lt_mono h3.1 (by decide)
/-- its columns -/
theorem clo_col {a b : Int} {f : Q5} (ba : a.natAbs < 2 ^ 10) (bb : b.natAbs < 2 ^ 10) (bf : EB 41 3 f) (nf : normT a b f ≠ 0) : ∀ j, j < 3 → ∃ e, Cross (colM (cloM a b f) j) e ∧ e.d ≠ 0 ∧ Bd 188 e := fun j hj => by
  have B := clo_bw ba bb bf
  refine ⟨⟨0, tE a b f 0 j, tE a b f 1 j, tE a b f 2 j, normT a b f⟩, ?_, nf, ⟨Nat.two_pow_pos _, lt_mono (B 0 j (by decide) hj).1 (by decide), lt_mono (B 1 j (by decide) hj).1 (by decide), lt_mono (B 2 j (by decide) hj).1 (by decide), lt_mono (B 0 j (by decide) hj).2 (by decide)⟩⟩
  show Cross ⟨0, tE a b f 0 j * normT a b f * normT a b f, tE a b f 1 j * normT a b f * normT a b f, tE a b f 2 j * normT a b f * normT a b f, normT a b f * normT a b f * normT a b f⟩ _
  generalize normT a b f = N
  refine ⟨?_, ?_, ?_, ?_⟩ <;> dsimp only <;> grind
end Sf

namespace Sf
open PySem PySem.Spec PyProof.Rows L2
/-! slices and sums of tuples of any things -/
theorem head_cut (xs : List V) (n : Nat) : cutV xs none (some (n : Int)) = xs.take n := by
  unfold cutV
  rw [HT.sIx_nat, HT.sIx_none, List.drop_zero, Nat.sub_zero]
  by_cases h : n ≤ xs.length
  · rw [Nat.min_eq_left h]
  · rw [Nat.min_eq_right (by omega), List.take_length, List.take_of_length_le (by omega)]
theorem sl_of {K : PySem.W.Frag} {H : Hp} {a : Addr} {xs ys : List V} {n : Nat} {i : Int} {Q : VK} (h : H a = some (.tup xs)) (ei : i = (n : Int)) (ey : xs.take n = ys) (q : ∀ (p : Addr) (H' : Hp), Same H H' → H' p = some (.tup ys) → Q (.ref p) H') : rSlA K (.ref a) none (some i) H Q := by
  subst ei ey
  refine ⟨a, xs, rfl, SqT.of h, fun e => q a H (Same.refl H) ?_, fun _ p hp => q p _ (same_upd hp) (by rw [upd_same, head_cut])⟩
  have c := head_cut xs n
  unfold cutV at c
  rw [e.1, e.2, List.drop_zero, Nat.sub_zero, List.take_length] at c
  rw [h, ← c]
theorem cat_of {K : PySem.W.Frag} {H : Hp} {a b : Addr} {xs ys : List V} {Q : VK} (ha : H a = some (.tup xs)) (hb : H b = some (.tup ys)) (l : xs.length + ys.length ≤ sizeLine) (q : ∀ (p : Addr) (H' : Hp), Same H H' → H' p = some (.tup (xs ++ ys)) → Q (.ref p) H') : rCatA K (.ref a) (.ref b) H Q :=
  ⟨a, b, xs, ys, rfl, rfl, SqT.of ha, SqT.of hb, l, fun e => q b H (Same.refl H) (by rw [e]; exact hb), fun _ e => q a H (Same.refl H) (by rw [e, List.append_nil]; exact ha), fun _ _ p hp => q p _ (same_upd hp) upd_same⟩
end Sf

namespace Sf
open PySem PySem.Spec PyProof.Rows L2
theorem NoTup.keep {H H' : Hp} {p : Addr} {n m : Nat} {v : V} (h : NoTup H v) (s : Sk p n H) (k : Keep p H H') (s' : Sk p m H') : NoTup H' v := by
  rcases h with h | h | h | ⟨a, e, ⟨xs, h⟩ | ⟨xs, h⟩⟩
  · exact .inl h
  · exact .inr (.inl h)
  · exact .inr (.inr (.inl h))
  · refine .inr (.inr (.inr ⟨a, e, .inl ?_⟩))
    by_cases c : a = p
    · obtain ⟨ys, g, _⟩ := s'
      exact ⟨ys, c ▸ g⟩
    · exact ⟨xs, k _ _ h c⟩
  · exact .inr (.inr (.inr ⟨a, e, .inr ⟨xs, keep_at s k h fun _ => HO.noConfusion⟩⟩))
theorem RowB.keep {CR : Addr} {H H' : Hp} {p : Addr} {n m : Nat} {v : V} {b : Bool} (h : RowB CR H v b) (s : Sk p n H) (k : Keep p H H') (s' : Sk p m H') : RowB CR H' v b := by
  have ik : ∀ {x : Addr}, Ins H x CR → Ins H' x CR := fun ⟨dx, fs, e⟩ => ⟨dx, fs, keep_at s k e fun _ => HO.noConfusion⟩
  cases h with
  | yes h i0 i1 i2 => exact .yes (keep_at s k h fun _ => HO.noConfusion) (ik i0) (ik i1) (ik i2)
  | len h l => exact .len (keep_at s k h fun _ => HO.noConfusion) l
  | nons h => exact .nons (keep_at s k h fun _ => HO.noConfusion)
  | out h => exact .out (h.keep s k s')
theorem TabB.keep {CR : Addr} {H H' : Hp} {p : Addr} {n m : Nat} {v : V} {b : Bool} (h : TabB CR H v b) (s : Sk p n H) (k : Keep p H H') (s' : Sk p m H') : TabB CR H' v b := by
  cases h with
  | of h r0 r1 r2 => exact .of (keep_at s k h fun _ => HO.noConfusion) (r0.keep s k s') (r1.keep s k s') (r2.keep s k s')
  | len h l => exact .len (keep_at s k h fun _ => HO.noConfusion) l
  | out h => exact .out (h.keep s k s')
section
variable {P : Program} {w : World} {K : PySem.W.Frag} {mg : Str → Option Value} {base : Heap} {f : Addr} {fd : FuncData} {CR CA CF : Addr}
structure OddP (CR : Addr) (vs : List V) (H : Hp) (Q : VK) : Prop where
  ex : ∃ (p t : Addr) (n : Nat) (m : Nat → Nat → Int × Int), vs = [.ref p, .ref t] ∧ Sk p n H ∧ n ≤ 900000 ∧ Tab CR H t m ∧ ∀ (v : V) (H' : Hp), Keep p H H' → Sk p (n + 1) H' → TabB CR H' v false → Q v H'
def spOdd (CR : Addr) : Sp := fun vs H Q _ => OddP CR vs H Q
theorem ok_law_odd (F : FnD K "_law_odd" "_law_odd" s_L_odd f fd) (T : Glob mg) (C_L_one_of : Cal P w K mg base 2 "_law_one_of" ["_law_bowl_here", "_law_items"] (spOneOf K)) : FnOk P w K mg base CX0 3 f fd ["_law_bowl_here", "_law_turn"] (spOdd CR) := by
  refine F.ok sc_L_odd (fun vs H Q E h => ?_) (fun cdv A outer s H vs Q E hr h => ?_)
  · obtain ⟨p, t, n, m, rfl, _⟩ := h.ex; rfl
  · obtain ⟨p, t, n, m, rfl, sk, hn, ht, q⟩ := h.ex
    refine ⟨_, PSs.nox (pss_cons (ps_set (i := 2) sc_L_odd.nd rfl (Or.inl rfl) (pe_lst (pa_cons pe_non (pa_cons pe_int (pa_cons (pe_slice sl_tupA (pv 1) po_none (po_some pe_int)) (pa_cons (pe_op op_catA (pv 1) (pe_slice sl_tupA (pv 1) po_none (po_some pe_int))) (pa_cons (pe_callTy call_list_of (by rfl) T.m_list (by decide +kernel) (pa_cons (pv 1) pa_nil)) (pa_cons (pe_op op_catA (pe_slice sl_tupA (pv 1) po_none (po_some pe_int)) (pe_tup (pa_cons (pe_callTy call_list_of (by rfl) T.m_list (by decide +kernel) (pa_cons (pe_ix ix_tup (pv 1) pe_int (fun _ _ => rfl)) pa_nil)) pa_nil))) (pa_cons (pe_op op_catA (pe_slice sl_tupA (pv 1) po_none (po_some pe_int)) (pe_tup (pa_cons (pe_slice sl_tupA (pe_ix ix_tup (pv 1) pe_int (fun _ _ => rfl)) po_none (po_some pe_int)) pa_nil))) pa_nil)))))))))
      (pss_one (ps_ret (pe_cal C_L_one_of (hr.mono (by decide)) (pa_cons (pv 0) (pa_cons (pe_op op_cat (pv 2) (pe_lst (pa_cons (pe_op op_catA (pe_slice sl_tupA (pv 1) po_none (po_some pe_int)) (pe_tup (pa_cons (pe_tup (pa_cons pe_non (pa_cons pe_non (pa_cons pe_non pa_nil)))) pa_nil))) (pa_cons pe_str (pa_cons (pe_tup pa_nil) (pa_cons pe_dnewK pa_nil)))))) pa_nil)))))), ?_⟩
    obtain ⟨r0, r1, r2, h0, hr0, hr1, hr2⟩ := ht.ex
    refine ⟨_, rfl, 2, rfl, sl_of (n := 2) h0 rfl rfl fun a3 H1 s1 g3 => ?_⟩
    refine ⟨_, rfl, _, rfl, 1, rfl, sl_of (n := 1) (s1 _ _ h0) rfl rfl fun b4 H2 s2 g4 => ?_⟩
    have t2 := s1.trans s2
    refine cat_of (t2 _ _ h0) g4 (by show 4 ≤ sizeLine; decide) fun a4 H3 s3 g5 => ?_
    have t3 := t2.trans s3
    refine ⟨_, rfl, t, _, rfl, .inr (SqT.of (t3 _ _ h0)), fun a5 h5 => ?_⟩
    have s4 := same_upd (o := .lst [V.ref r0, V.ref r1, V.ref r2]) h5
    have g6 : (upd H3 a5 (.lst [V.ref r0, V.ref r1, V.ref r2])) a5 = some (.lst [V.ref r0, V.ref r1, V.ref r2]) := upd_same
    generalize (upd H3 a5 (.lst [V.ref r0, V.ref r1, V.ref r2])) = H4 at *
    have t4 := t3.trans s4
    refine ⟨_, rfl, 2, rfl, sl_of (n := 2) (t4 _ _ h0) rfl rfl fun b6 H5 s5 g7 => ?_⟩
    have t5 := t4.trans s5
    obtain ⟨x0, x1, x2, hx, _, _, _⟩ := hr2.ex
    refine ⟨_, rfl, t, _, _, _, rfl, rfl, SqT.of (t5 _ _ h0), atI_nat (j := 2) rfl, r2, _, rfl, .inr (SqT.of (t5 _ _ hx)), fun l6 h6 => ?_⟩
    have s6 := same_upd (o := .lst [V.ref x0, V.ref x1, V.ref x2]) h6
    have g8 : (upd H5 l6 (.lst [V.ref x0, V.ref x1, V.ref x2])) l6 = some (.lst [V.ref x0, V.ref x1, V.ref x2]) := upd_same
    generalize (upd H5 l6 (.lst [V.ref x0, V.ref x1, V.ref x2])) = H6 at *
    have t6 := t5.trans s6
    refine ⟨(by show 1 ≤ sizeLine; decide), fun c6 hc6 => ?_⟩
    have s7 := same_upd (o := .tup [V.ref l6]) hc6
    have t7 := t6.trans s7
    refine cat_of (s7 _ _ (s6 _ _ g7)) upd_same (by show 3 ≤ sizeLine; decide) fun a6 H8 s8 g9 => ?_
    have t8 := t7.trans s8
    have g8 := s8 _ _ (s7 _ _ g8)
    refine ⟨_, rfl, 2, rfl, sl_of (n := 2) (t8 _ _ h0) rfl rfl fun b7 H9 s9 g10 => ?_⟩
    have t9 := t8.trans s9
    refine ⟨_, rfl, t, _, _, _, rfl, rfl, SqT.of (t9 _ _ h0), atI_nat (j := 2) rfl, 2, rfl, sl_of (n := 2) (t9 _ _ hx) rfl rfl fun c7 H10 s10 g11 => ?_⟩
    refine ⟨(by show 1 ≤ sizeLine; decide), fun d7 hd7 => ?_⟩
    have s11 := same_upd (o := .tup [V.ref c7]) hd7
    refine cat_of (s11 _ _ (s10 _ _ g10)) upd_same (by show 3 ≤ sizeLine; decide) fun a7 H12 s12 g12 => ?_
    have t12 := ((t9.trans s10).trans s11).trans s12
    have u12 := ((s9.trans s10).trans s11).trans s12
    refine ⟨(by show 7 ≤ sizeLine; decide), fun L hL => ?_⟩
    have s13 := same_upd (o := .lst [V.non, .int 1, .ref a3, .ref a4, .ref a5, .ref a6, .ref a7]) hL
    have gL : (upd H12 L (.lst [V.non, .int 1, .ref a3, .ref a4, .ref a5, .ref a6, .ref a7])) L = some (.lst [V.non, .int 1, .ref a3, .ref a4, .ref a5, .ref a6, .ref a7]) := upd_same
    have G7 := s13 _ _ g12
    have G11 := s13 _ _ (s12 _ _ (s11 _ _ g11))
    have G9 := s13 _ _ (u12 _ _ g9)
    have G8 := s13 _ _ (u12 _ _ g8)
    have u4 := (((((s5.trans s6).trans s7).trans s8).trans u12).trans s13)
    have G6 := u4 _ _ g6
    have G5 := u4 _ _ (s4 _ _ g5)
    have G3 := u4 _ _ (s4 _ _ (s3 _ _ (s2 _ _ g3)))
    have t13 := t12.trans s13
    generalize (upd H12 L (.lst [V.non, .int 1, .ref a3, .ref a4, .ref a5, .ref a6, .ref a7])) = H13 at *
    clear u4 s13 hL u12 g12 s12 s11 hd7 g11 s10 t9 g10 s9 g8 t8 g9 s8 t7 s7 hc6 t6 s6 h6 t5 g7 s5 t4 g6 s4 h5 t3 g5 s3 t2 g4 s2 g3 s1 t12
    refine ⟨_, rfl, _, rfl, ?_⟩
    refine ⟨_, rfl, 2, rfl, sl_of (n := 2) (t13 _ _ h0) rfl rfl fun b8 H14 s14 g14 => ?_⟩
    have t14 := t13.trans s14
    refine ⟨(by show 3 ≤ sizeLine; decide), fun n3 hn3 => ⟨(by show 1 ≤ sizeLine; decide), fun d8 hd8 => ?_⟩⟩
    have s15 := same_upd (o := .tup [V.non, V.non, V.non]) hn3
    have s16 := same_upd (o := .tup [V.ref n3]) hd8
    have gn := s16 _ _ (upd_same (H := H14) (o := .tup [V.non, V.non, V.non]))
    refine cat_of (s16 _ _ (s15 _ _ g14)) upd_same (by show 3 ≤ sizeLine; decide) fun a8 H17 s17 g17 => ?_
    have gn := s17 _ _ gn
    refine ⟨(by show 0 ≤ sizeLine; decide), fun e9 he9 => fun d9 hd9 => ⟨(by show 4 ≤ sizeLine; decide), fun M hM => ?_⟩⟩
    have s18 := same_upd (o := .tup []) he9
    have s19 := same_upd (o := .dK []) hd9
    have s20 := same_upd (o := .lst [V.ref a8, V.str "turn", V.ref e9, V.ref d9]) hM
    have ge := s20 _ _ (s19 _ _ (upd_same (H := H17) (o := .tup [])))
    have gd := s20 _ _ (upd_same (H := upd H17 e9 (.tup [])) (o := .dK []))
    have gM : (upd (upd (upd H17 e9 (.tup [])) d9 (.dK [])) M (.lst [V.ref a8, V.str "turn", V.ref e9, V.ref d9])) M = some (.lst [V.ref a8, V.str "turn", V.ref e9, V.ref d9]) := upd_same
    have u := ((((s14.trans s15).trans s16).trans s17).trans s18).trans (s19.trans s20)
    have w := s18.trans (s19.trans s20)
    generalize (upd (upd (upd H17 e9 (.tup [])) d9 (.dK [])) M (.lst [V.ref a8, V.str "turn", V.ref e9, V.ref d9])) = H20 at *
    have G17 := w _ _ g17
    have Gn := w _ _ gn
    have t20 := t13.trans u
    have G3 := u _ _ G3
    have G5 := u _ _ G5
    have G6 := u _ _ G6
    have G7 := u _ _ G7
    have G8 := u _ _ G8
    have G9 := u _ _ G9
    have G11 := u _ _ G11
    refine ⟨L, M, _, _, rfl, rfl, u _ _ gL, gM, (by show 11 ≤ sizeLine; decide), fun N hN => ?_⟩
    have R0 : RowB CR H20 (.ref r0) true := (hr0.same t20).rowB
    have R1 : RowB CR H20 (.ref r1) true := (hr1.same t20).rowB
    refine one_of_new (sk.same t20) (by omega) hN (by show 1 ≤ 11; decide) (by show 11 ≤ 1000000; decide) fun v H21 hv k21 s21 => ?_
    refine q v H21 ((Keep.same t20).trans k21) s21 (TabB.keep (H := H20) ?_ (sk.same t20) k21 s21)
    have c : v = .non ∨ v = .int 1 ∨ v = .ref a3 ∨ v = .ref a4 ∨ v = .ref a5 ∨ v = .ref a6 ∨ v = .ref a7 ∨ v = .ref a8 ∨ v = .str "turn" ∨ v = .ref e9 ∨ v = .ref d9 := by simpa using hv
    rcases c with rfl | rfl | rfl | rfl | rfl | rfl | rfl | rfl | rfl | rfl | rfl
    · exact .out (.inl rfl)
    · exact .out (.inr (.inl ⟨_, rfl⟩))
    · exact .len G3 (by show 2 ≠ 3; decide)
    · exact .len G5 (by show 4 ≠ 3; decide)
    · exact .out (.inr (.inr (.inr ⟨_, rfl, .inl ⟨_, G6⟩⟩)))
    · exact .of (b0 := true) (b1 := true) (b2 := false) G9 R0 R1 (.out (.inr (.inr (.inr ⟨_, rfl, .inl ⟨_, G8⟩⟩))))
    · exact .of (b0 := true) (b1 := true) (b2 := false) G7 R0 R1 (.len G11 (by show 2 ≠ 3; decide))
    · exact .of (b0 := true) (b1 := true) (b2 := false) G17 R0 R1 (.nons Gn)
    · exact .out (.inr (.inr (.inl ⟨_, rfl⟩)))
    · exact .len ge (by show 0 ≠ 3; decide)
    · exact .out (.inr (.inr (.inr ⟨_, rfl, .inr ⟨_, gd⟩⟩)))
end
end Sf

namespace Sf
open PySem PySem.Spec PyProof.Rows L2
/-! a def that may raise, called where it does not -/
/-- the promise with no way out by an error -/
def calmSp (sp : Sp) : Sp := fun vs H Q _ => sp vs H Q fun _ _ _ => False
theorem calm_ok {P : Program} {w : World} {K : PySem.W.Frag} {mg : Str → Option Value} {base : Heap} {k : Nat} {f : Addr} {fd : FuncData} {ps : List Str} {sp : Sp} (h : FnOk P w K mg base (CX P w) k f fd ps sp) : FnOk P w K mg base CX0 k f fd ps (calmSp sp) where
  len := fun vs H Q _ z => h.len vs H Q _ z
  run := fun A outer s H args us vs Q E hr env bt rv z => codeAny_mono (h.run A outer s H args us vs Q _ hr env bt rv z) fun r s' g => by
    cases r with
    | ok fl => cases fl with
      | ret u => exact g
      | _ => exact g
    | error e =>
      obtain ⟨_, _, _, _, _, _, _, _, _, _, _, _, no⟩ := g
      exact no
def CalX.calm {P : Program} {w : World} {K : PySem.W.Frag} {mg : Str → Option Value} {base : Heap} {k : Nat} {x : Str} {ps : List Str} {sp : Sp} (C : CalX P w K mg base k x ps sp) : Cal P w K mg base k x ps (calmSp sp) := ⟨C.f, C.fd, calm_ok C.ok, C.g, C.kp, C.b⟩
end Sf

namespace Sf
open PySem PySem.Spec PyProof.Rows L2
/-- an operation by either of two rules -/
theorem op_or {X : Cx} {op : Value → Value → Sem Value} {r1 r2 : V → V → Hp → VK → Prop} (h1 : OpR X op r1) (h2 : OpR X op r2) : OpR X op (fun x y H Q => r1 x y H Q ∨ r2 x y H Q) := by
  intro pins s σ H x y u v Q I rx ry h
  rcases h with h | h
  · exact h1 _ _ _ _ _ _ _ _ _ I rx ry h
  · exact h2 _ _ _ _ _ _ _ _ _ I rx ry h
end Sf

namespace Sf
open PySem PySem.Spec PyProof.Rows L2
theorem Rw.like {CR : Addr} {H : Hp} {x : Addr} {t b t' b' : Int} (h : Rw CR H x t b) (n : b' ≠ 0) (e : t' * b = t * b') : Rw CR H x t' b' := by
  obtain ⟨u, v, r, l⟩ := h.ex
  exact ⟨⟨u, v, r, lowT_tr l e h.b0⟩, n⟩
theorem RowOk.like {CR : Addr} {H : Hp} {m m' : Nat → Nat → Int × Int} {i : Nat} {r : Addr} (h : RowOk CR H m i r) (e : ∀ j, j < 3 → (m' i j).2 ≠ 0 ∧ (m' i j).1 * (m i j).2 = (m i j).1 * (m' i j).2) : RowOk CR H m' i r := by
  obtain ⟨x0, x1, x2, h0, h1, h2, h3⟩ := h.ex
  exact ⟨x0, x1, x2, h0, h1.like (e 0 (by decide)).1 (e 0 (by decide)).2, h2.like (e 1 (by decide)).1 (e 1 (by decide)).2, h3.like (e 2 (by decide)).1 (e 2 (by decide)).2⟩
/-- a table told by other denominators -/
theorem Tab.like {CR : Addr} {H : Hp} {m m' : Nat → Nat → Int × Int} {t : Addr} (h : Tab CR H t m) (e : ∀ i j, i < 3 → j < 3 → (m' i j).2 ≠ 0 ∧ (m' i j).1 * (m i j).2 = (m i j).1 * (m' i j).2) : Tab CR H t m' := by
  obtain ⟨r0, r1, r2, h0, h1, h2, h3⟩ := h.ex
  exact ⟨r0, r1, r2, h0, h1.like fun j hj => e 0 j (by decide) hj, h2.like fun j hj => e 1 j (by decide) hj, h3.like fun j hj => e 2 j (by decide) hj⟩
/-- the turn of f by its closed form, with a denominator twice as great -/
def cloM2 (a b : Int) (f : Q5) (i j : Nat) : Int × Int := (2 * tE a b f i j, 2 * normT a b f)
theorem like_clo2 {a b : Int} {f : Q5} (nf : normT a b f ≠ 0) : LikeT a b f (cloM2 a b f) := fun i j hi hj => by
  obtain ⟨_, h⟩ := like_clo nf i j hi hj
  refine ⟨Int.mul_ne_zero (by decide) nf, ?_⟩
  replace h : tE a b f i j * (turnM a b f i j).2 = (turnM a b f i j).1 * normT a b f := h
  show 2 * tE a b f i j * (turnM a b f i j).2 = (turnM a b f i j).1 * (2 * normT a b f)
  rw [Int.mul_assoc, h, Int.mul_left_comm]
theorem Tab.turn {CR : Addr} {H : Hp} {a b : Int} {f : Q5} {t : Addr} {m : Nat → Nat → Int × Int} (h : Tab CR H t (turnM a b f)) (l : LikeT a b f m) : Tab CR H t m := h.like l
/-- a table with one denominator: bounds and columns -/
theorem one_den {D : Int} {e : Nat → Nat → Int} (d0 : D ≠ 0) (be : ∀ i j, i < 3 → j < 3 → (e i j).natAbs < 2 ^ 188) (bd : D.natAbs < 2 ^ 188) : ∀ j, j < 3 → ∃ q, Cross (colM (fun i j => (e i j, D)) j) q ∧ q.d ≠ 0 ∧ Bd 188 q := fun j hj => by
  refine ⟨⟨0, e 0 j, e 1 j, e 2 j, D⟩, ?_, d0, ⟨Nat.two_pow_pos _, be 0 j (by decide) hj, be 1 j (by decide) hj, be 2 j (by decide) hj, bd⟩⟩
  show Cross ⟨0, e 0 j * D * D, e 1 j * D * D, e 2 j * D * D, D * D * D⟩ _
  refine ⟨?_, ?_, ?_, ?_⟩ <;> dsimp only <;> grind
end Sf

namespace Sf
open PySem PySem.Spec PyProof.Rows L2
/-! a comprehension that collects: what is told of each thing holds of all of them at the end -/
theorem keep_upd {D : Addr} {H : Hp} {o : HO} : Keep D H (upd H D o) := Keep.upd
structure GatP (Pz : Nat → V → Hp → Prop) (Pw : V → V → Prop) (H1 : Hp) (D : Addr) (n : Nat) (ys : List V) (H : Hp) : Prop where
  len : ys.length = n
  one : ∀ (i : Nat) (y : V), ys[i]? = some y → Pz i y H
  two : ∀ (i j : Nat) (x y : V), i < j → ys[i]? = some x → ys[j]? = some y → Pw x y
  same : Same H1 H
  at_ : H D = some (.lst ys)
theorem snocV {xs : List V} {x y : V} {k : Nat} (h : (xs ++ [x])[k]? = some y) : xs[k]? = some y ∨ (k = xs.length ∧ y = x) := by
  rcases Nat.lt_or_ge k xs.length with c | c
  · rw [List.getElem?_append_left c] at h
    exact .inl h
  · rw [List.getElem?_append_right c] at h
    have kk : k = xs.length := by
      rcases Nat.lt_or_ge (k - xs.length) 1 with c2 | c2
      · omega
      · rw [List.getElem?_eq_none (by simpa using c2)] at h
        cases h
    rw [kk, Nat.sub_self] at h
    cases h
    exact .inr ⟨kk, rfl⟩
theorem GatP.nil {Pz : Nat → V → Hp → Prop} {Pw : V → V → Prop} {H1 : Hp} {D : Addr} (h : H1 D = none) : ∃ ys, GatP Pz Pw H1 D 0 ys (upd H1 D (.lst [])) :=
  ⟨[], rfl, fun i y e => by simp at e, fun i j x y _ e => by simp at e, same_upd h, upd_same⟩
theorem GatP.snoc {Pz : Nat → V → Hp → Prop} {Pw : V → V → Prop} {H1 H4 H : Hp} {D : Addr} {n : Nat} {ys : List V} {y : V} (h0 : H1 D = none) (st : ∀ i z H H', Pz i z H → (∃ ys, H D = some (.lst ys)) → Keep D H H' → Pz i z H') (c : GatP Pz Pw H1 D n ys H) (s : Same H H4) (p : Pz n y H4) (w : ∀ (j : Nat) (x : V), ys[j]? = some x → Pw x y) :
    ∃ zs, GatP Pz Pw H1 D (n + 1) zs (upd H4 D (.lst (ys ++ [y]))) := by
  have hd := s _ _ c.at_
  refine ⟨ys ++ [y], by rw [List.length_append, c.len]; rfl, fun i z e => ?_, fun i j x z l e1 e2 => ?_, fun b o e => ?_, upd_same⟩
  · rcases snocV e with e | ⟨rfl, rfl⟩
    · exact st _ _ _ _ (st _ _ _ _ (c.one i z e) ⟨_, c.at_⟩ (Keep.same s)) ⟨_, hd⟩ Keep.upd
    · rw [c.len]
      exact st _ _ _ _ p ⟨_, hd⟩ Keep.upd
  · rcases snocV e2 with f2 | ⟨g2, k2⟩
    · rcases snocV e1 with f1 | ⟨g1, k1⟩
      · exact c.two i j x z l f1 f2
      · have hj := (List.getElem?_eq_some_iff.mp f2).1
        omega
    · rcases snocV e1 with f1 | ⟨g1, k1⟩
      · rw [k2]
        exact w i x f1
      · omega
  · rw [upd_ne (ne_of_none e h0)]
    exact s _ _ (c.same _ _ e)
section
variable {K : PySem.W.Frag} {a : Addr} {xs : List V} {g : TG} {tt : TT} {te : TE} {vs : List Nat} {σ : L2.St} {H1 : Hp} {D : Addr} {Qd : Hp → Prop}
/-- what a turn of such a comprehension has to show -/
def GatStep (Pz : Nat → V → Hp → Prop) (Pw : V → V → Prop) (g : TG) (tt : TT) (te : TE) (vs : List Nat) (σ : L2.St) (i : Nat) (x : V) (H : Hp) : Prop :=
  ∀ (R : V → Hp → Prop) (N : Hp → Prop), (∀ y H4, Same H H4 → Pz i y H4 → (∀ j x, Pz j x H → Pw x y) → R y H4) → g x (wipe σ vs) H fun σ2 H2 => wipe σ2 vs = wipe σ vs ∧ tt σ2 H2 fun b H3 => if b = true then te σ2 H3 R else N H3
theorem gat_of {i : Nat} {x : V} {H : Hp} {n : Nat} (Pz : Nat → V → Hp → Prop) (Pw : V → V → Prop) (hD : H1 D = none) (hn : i < 1000) (st : ∀ i z H H', Pz i z H → (∃ ys, H D = some (.lst ys)) → Keep D H H' → Pz i z H') (p : ∃ ys, GatP Pz Pw H1 D i ys H)
    (h : GatStep Pz Pw g tt te vs σ i x H) : g x (wipe σ vs) H fun σ2 H2 => wipe σ2 vs = wipe σ vs ∧ tt σ2 H2 fun b H3 =>
      if b = true then te σ2 H3 fun y H4 => ∃ acc, H4 D = some (.lst acc) ∧ acc.length < sizeLine ∧ (∃ ys, GatP Pz Pw H1 D (i + 1) ys (upd H4 D (.lst (acc ++ [y])))) else (∃ ys, GatP Pz Pw H1 D (i + 1) ys H3) := by
  obtain ⟨ys, c⟩ := p
  refine h _ _ fun y H4 s p w => ⟨ys, s _ _ c.at_, ?_, c.snoc hD st s p fun j x e => w j x (c.one j x e)⟩
  rw [c.len]
  exact Nat.lt_of_lt_of_le (by omega : i < 1000000) (by decide)
theorem gat_tup (Pz : Nat → V → Hp → Prop) (Pw : V → V → Prop) (hD : H1 D = none) (ha : H1 a = some (.tup xs)) (hn : xs.length ≤ 1000) (st : ∀ i z H H', Pz i z H → (∃ ys, H D = some (.lst ys)) → Keep D H H' → Pz i z H')
    (hs : ∀ (i : Nat) (x : V) (H : Hp), xs[i]? = some x → Same H1 H → (∃ ys, H D = some (.lst ys)) → GatStep Pz Pw g tt te vs σ i x H) (hd : ∀ ys H, GatP Pz Pw H1 D xs.length ys H → Qd H) :
    ∃ W : Nat → Nat → Hp → Prop, (∃ m, W 0 m (upd H1 D (.lst []))) ∧ ∀ i m H, W i m H →
      ((Itt K a).stop i H ∧ Qd H) ∨ ((Itt K a).go i H ∧ ∃ Nx : Hp → Prop, (∀ H', Nx H' → ∃ m', m' < m ∧ W (i + 1) m' H') ∧ ∀ x H', (Itt K a).yld i H x H' → g x (wipe σ vs) H' fun σ2 H2 => wipe σ2 vs = wipe σ vs ∧ tt σ2 H2 fun b H3 =>
        if b = true then te σ2 H3 fun y H4 => ∃ acc, H4 D = some (.lst acc) ∧ acc.length < sizeLine ∧ Nx (upd H4 D (.lst (acc ++ [y]))) else Nx H3) :=
  lc_tup (K := K) (a := a) (xs := xs) (fun i H => ∃ ys, GatP Pz Pw H1 D i ys H) (GatP.nil hD) (fun i H _ ⟨ys, c⟩ => SqT.of (c.same _ _ ha)) (fun i x H hx ⟨ys, c⟩ => gat_of (n := xs.length) Pz Pw hD (Nat.lt_of_lt_of_le (List.getElem?_eq_some_iff.mp hx).1 hn) st ⟨ys, c⟩ (hs i x H hx c.same ⟨_, c.at_⟩)) (fun H ⟨ys, c⟩ => hd ys H c)
theorem gat_list (Pz : Nat → V → Hp → Prop) (Pw : V → V → Prop) (hD : H1 D = none) (ha : H1 a = some (.lst xs)) (hn : xs.length ≤ 1000) (st : ∀ i z H H', Pz i z H → (∃ ys, H D = some (.lst ys)) → Keep D H H' → Pz i z H')
    (hs : ∀ (i : Nat) (x : V) (H : Hp), xs[i]? = some x → Same H1 H → (∃ ys, H D = some (.lst ys)) → GatStep Pz Pw g tt te vs σ i x H) (hd : ∀ ys H, GatP Pz Pw H1 D xs.length ys H → Qd H) :
    ∃ W : Nat → Nat → Hp → Prop, (∃ m, W 0 m (upd H1 D (.lst []))) ∧ ∀ i m H, W i m H →
      ((Itl K a).stop i H ∧ Qd H) ∨ ((Itl K a).go i H ∧ ∃ Nx : Hp → Prop, (∀ H', Nx H' → ∃ m', m' < m ∧ W (i + 1) m' H') ∧ ∀ x H', (Itl K a).yld i H x H' → g x (wipe σ vs) H' fun σ2 H2 => wipe σ2 vs = wipe σ vs ∧ tt σ2 H2 fun b H3 =>
        if b = true then te σ2 H3 fun y H4 => ∃ acc, H4 D = some (.lst acc) ∧ acc.length < sizeLine ∧ Nx (upd H4 D (.lst (acc ++ [y]))) else Nx H3) :=
  lc_list (K := K) (a := a) (xs := xs) (fun i H => ∃ ys, GatP Pz Pw H1 D i ys H) (GatP.nil hD) (fun i H _ ⟨ys, c⟩ => SqL.of (c.same _ _ ha)) (fun i x H hx ⟨ys, c⟩ => gat_of (n := xs.length) Pz Pw hD (Nat.lt_of_lt_of_le (List.getElem?_eq_some_iff.mp hx).1 hn) st ⟨ys, c⟩ (hs i x H hx c.same ⟨_, c.at_⟩)) (fun H ⟨ys, c⟩ => hd ys H c)
theorem gat_range {lo : Int} {n : Nat} (Pz : Nat → V → Hp → Prop) (Pw : V → V → Prop) (hD : H1 D = none) (hn : n ≤ 1000) (st : ∀ i z H H', Pz i z H → (∃ ys, H D = some (.lst ys)) → Keep D H H' → Pz i z H')
    (hs : ∀ i H, i < n → Same H1 H → (∃ ys, H D = some (.lst ys)) → GatStep Pz Pw g tt te vs σ i (.int (lo + i)) H) (hd : ∀ ys H, GatP Pz Pw H1 D n ys H → Qd H) :
    ∃ W : Nat → Nat → Hp → Prop, (∃ m, W 0 m (upd H1 D (.lst []))) ∧ ∀ i m H, W i m H →
      ((Itr lo n).stop i H ∧ Qd H) ∨ ((Itr lo n).go i H ∧ ∃ Nx : Hp → Prop, (∀ H', Nx H' → ∃ m', m' < m ∧ W (i + 1) m' H') ∧ ∀ x H', (Itr lo n).yld i H x H' → g x (wipe σ vs) H' fun σ2 H2 => wipe σ2 vs = wipe σ vs ∧ tt σ2 H2 fun b H3 =>
        if b = true then te σ2 H3 fun y H4 => ∃ acc, H4 D = some (.lst acc) ∧ acc.length < sizeLine ∧ Nx (upd H4 D (.lst (acc ++ [y]))) else Nx H3) :=
  lc_range (lo := lo) (n := n) (fun i H => ∃ ys, GatP Pz Pw H1 D i ys H) (GatP.nil hD) (fun i H hi ⟨ys, c⟩ => gat_of (n := n) Pz Pw hD (Nat.lt_of_lt_of_le hi hn) st ⟨ys, c⟩ (hs i H hi c.same ⟨_, c.at_⟩)) (fun H ⟨ys, c⟩ => hd ys H c)
end
end Sf

namespace Sf
open PySem PySem.Spec PyProof.Rows L2
/-- a row of ratios, a list -/
structure RowL (CR : Addr) (H : Hp) (m : Nat → Nat → Int × Int) (i : Nat) (r : Addr) : Prop where
  ex : ∃ x0 x1 x2, H r = some (.lst [.ref x0, .ref x1, .ref x2]) ∧ Rw CR H x0 (m i 0).1 (m i 0).2 ∧ Rw CR H x1 (m i 1).1 (m i 1).2 ∧ Rw CR H x2 (m i 2).1 (m i 2).2
section
variable {P : Program} {w : World} {K : PySem.W.Frag} {mg : Str → Option Value} {base : Heap} {f : Addr} {fd : FuncData} {CR CA CF : Addr}
structure NearP (CR : Addr) (vs : List V) (H : Hp) (Q : VK) : Prop where
  ex : ∃ (p t o : Addr) (n : Nat) (e g : Nat → Nat → Int) (D G : Int), vs = [.ref p, .ref t, .ref o] ∧ Sk p n H ∧ n ≤ 900000 ∧ Tab CR H t (fun i j => (e i j, D)) ∧ Tab CR H o (fun i j => (g i j, G)) ∧ (∃ c, D = 2 * c) ∧ D ≠ 0 ∧ G ≠ 0 ∧ D.natAbs < 2 ^ 128 ∧ G.natAbs < 2 ^ 128 ∧ (∀ i j, i < 3 → j < 3 → (e i j).natAbs < 2 ^ 128) ∧ (∀ i j, i < 3 → j < 3 → (g i j).natAbs < 2 ^ 128) ∧
    ∀ (z : Addr) (H' : Hp) (e' : Nat → Nat → Int) (D' : Int), Keep p H H' → Sk p (n + 4) H' → Tab CR H' z (fun i j => (e' i j, D')) → D' ≠ 0 → D'.natAbs < 2 ^ 130 → (∀ i j, i < 3 → j < 3 → (e' i j).natAbs < 2 ^ 130) → Q (.ref z) H'
def spNear (CR : Addr) : Sp := fun vs H Q _ => NearP CR vs H Q
end
end Sf

namespace Sf
open PySem PySem.Spec PyProof.Rows L2
theorem keepL_at {H H' : Hp} {D c : Addr} {o : HO} (l : ∃ ys, H D = some (.lst ys)) (k : Keep D H H') (h : H c = some o) (ho : ∀ xs, o ≠ .lst xs) : H' c = some o :=
  k _ _ h fun z => by
    obtain ⟨ys, g⟩ := l
    rw [z, g] at h
    exact ho ys (Option.some.inj h).symm
section
variable {CR : Addr} {H H' : Hp} {D : Addr}
theorem RatioAt.keepL {x : Addr} {t b : Int} (l : ∃ ys, H D = some (.lst ys)) (k : Keep D H H') (h : RatioAt CR H x t b) : RatioAt CR H' x t b := let ⟨dx, e⟩ := h; ⟨dx, keepL_at l k e (fun _ => HO.noConfusion)⟩
theorem Rw.keepL {x : Addr} {t b : Int} (h : Rw CR H x t b) (l : ∃ ys, H D = some (.lst ys)) (k : Keep D H H') : Rw CR H' x t b := let ⟨t', b', h1, h2⟩ := h.ex; ⟨⟨t', b', h1.keepL l k, h2⟩, h.b0⟩
theorem RowOk.keepL {m : Nat → Nat → Int × Int} {i : Nat} {r : Addr} (h : RowOk CR H m i r) (l : ∃ ys, H D = some (.lst ys)) (k : Keep D H H') : RowOk CR H' m i r := let ⟨x0, x1, x2, h0, h1, h2, h3⟩ := h.ex; ⟨x0, x1, x2, keepL_at l k h0 (fun _ => HO.noConfusion), h1.keepL l k, h2.keepL l k, h3.keepL l k⟩
theorem RowL.same {m : Nat → Nat → Int × Int} {i : Nat} {r : Addr} (h : RowL CR H m i r) (s : Same H H') : RowL CR H' m i r := let ⟨x0, x1, x2, h0, h1, h2, h3⟩ := h.ex; ⟨x0, x1, x2, s _ _ h0, h1.same s, h2.same s, h3.same s⟩
theorem RowL.keepL {m : Nat → Nat → Int × Int} {i : Nat} {r : Addr} (h : RowL CR H m i r) (n : r ≠ D) (l : ∃ ys, H D = some (.lst ys)) (k : Keep D H H') : RowL CR H' m i r := let ⟨x0, x1, x2, h0, h1, h2, h3⟩ := h.ex; ⟨x0, x1, x2, k _ _ h0 n, h1.keepL l k, h2.keepL l k, h3.keepL l k⟩
/-- a list of three rows, each a list of its own -/
structure LTab (CR : Addr) (H : Hp) (L : Addr) (m : Nat → Nat → Int × Int) : Prop where
  ex : ∃ l0 l1 l2, H L = some (.lst [.ref l0, .ref l1, .ref l2]) ∧ RowL CR H m 0 l0 ∧ RowL CR H m 1 l1 ∧ RowL CR H m 2 l2 ∧ l0 ≠ L ∧ l1 ≠ L ∧ l2 ≠ L
def PzL (CR D : Addr) (m : Nat → Nat → Int × Int) (i : Nat) (z : V) (H : Hp) : Prop := ∃ l, z = .ref l ∧ RowL CR H m i l ∧ l ≠ D
theorem pzL_st {m : Nat → Nat → Int × Int} : ∀ i z H H', PzL CR D m i z H → (∃ ys, H D = some (.lst ys)) → Keep D H H' → PzL CR D m i z H' := fun i z H H' ⟨l, e, h, n⟩ hd k => ⟨l, e, h.keepL n hd k, n⟩
def PzX (CR : Addr) (m : Nat → Nat → Int × Int) (i j : Nat) (z : V) (H : Hp) : Prop := ∃ x, z = .ref x ∧ Rw CR H x (m i j).1 (m i j).2
theorem pzX_st {m : Nat → Nat → Int × Int} {i : Nat} : ∀ j z H H', PzX CR m i j z H → (∃ ys, H D = some (.lst ys)) → Keep D H H' → PzX CR m i j z H' := fun j z H H' ⟨x, e, h⟩ hd k => ⟨x, e, h.keepL hd k⟩
def PzT (CR : Addr) (m : Nat → Nat → Int × Int) (i : Nat) (z : V) (H : Hp) : Prop := ∃ t, z = .ref t ∧ RowOk CR H m i t
theorem pzT_st {m : Nat → Nat → Int × Int} : ∀ i z H H', PzT CR m i z H → (∃ ys, H D = some (.lst ys)) → Keep D H H' → PzT CR m i z H' := fun i z H H' ⟨t, e, h⟩ hd k => ⟨t, e, h.keepL hd k⟩
theorem three_ys {ys : List V} (h : ys.length = 3) : ∃ a b c, ys = [a, b, c] := by
  match ys, h with
  | [a, b, c], _ => exact ⟨a, b, c, rfl⟩
/-- collected rows are a table of lists -/
theorem gat_ltab {m : Nat → Nat → Int × Int} {Pw : V → V → Prop} {H1 : Hp} {ys : List V} (c : GatP (PzL CR D m) Pw H1 D 3 ys H) : LTab CR H D m ∧ ∀ l0 l1 l2, H D = some (.lst [.ref l0, .ref l1, .ref l2]) → Pw (.ref l0) (.ref l1) ∧ Pw (.ref l0) (.ref l2) ∧ Pw (.ref l1) (.ref l2) := by
  obtain ⟨a, b, d, rfl⟩ := three_ys c.len
  obtain ⟨l0, rfl, h0, n0⟩ := c.one 0 a rfl
  obtain ⟨l1, rfl, h1, n1⟩ := c.one 1 b rfl
  obtain ⟨l2, rfl, h2, n2⟩ := c.one 2 d rfl
  refine ⟨⟨l0, l1, l2, c.at_, h0, h1, h2, n0, n1, n2⟩, fun a b d e => ?_⟩
  have e2 := e.symm.trans c.at_
  cases e2
  exact ⟨c.two 0 1 _ _ (by decide) rfl rfl, c.two 0 2 _ _ (by decide) rfl rfl, c.two 1 2 _ _ (by decide) rfl rfl⟩
/-- collected ratios are a row -/
theorem gat_row {m : Nat → Nat → Int × Int} {i : Nat} {Pw : V → V → Prop} {H1 : Hp} {ys : List V} (c : GatP (PzX CR m i) Pw H1 D 3 ys H) : RowL CR H m i D := by
  obtain ⟨a, b, d, rfl⟩ := three_ys c.len
  obtain ⟨x0, rfl, h0⟩ := c.one 0 a rfl
  obtain ⟨x1, rfl, h1⟩ := c.one 1 b rfl
  obtain ⟨x2, rfl, h2⟩ := c.one 2 d rfl
  exact ⟨x0, x1, x2, c.at_, h0, h1, h2⟩
theorem RowL.get {m : Nat → Nat → Int × Int} {i : Nat} {r : Addr} (h : RowL CR H m i r) : ∃ xs : List V, H r = some (.lst xs) ∧ xs.length = 3 ∧ ∀ j x, xs[j]? = some x → PzX CR m i j x H := by
  obtain ⟨x0, x1, x2, h0, h1, h2, h3⟩ := h.ex
  refine ⟨_, h0, rfl, fun j x e => ?_⟩
  match j, e with
  | 0, e => cases e; exact ⟨_, rfl, h1⟩
  | 1, e => cases e; exact ⟨_, rfl, h2⟩
  | 2, e => cases e; exact ⟨_, rfl, h3⟩
  | j + 3, e => simp at e
theorem RowOk.get {m : Nat → Nat → Int × Int} {i : Nat} {r : Addr} (h : RowOk CR H m i r) : ∃ xs : List V, H r = some (.tup xs) ∧ xs.length = 3 ∧ ∀ j x, xs[j]? = some x → PzX CR m i j x H := by
  obtain ⟨x0, x1, x2, h0, h1, h2, h3⟩ := h.ex
  refine ⟨_, h0, rfl, fun j x e => ?_⟩
  match j, e with
  | 0, e => cases e; exact ⟨_, rfl, h1⟩
  | 1, e => cases e; exact ⟨_, rfl, h2⟩
  | 2, e => cases e; exact ⟨_, rfl, h3⟩
  | j + 3, e => simp at e
theorem RowL.mk3 {m : Nat → Nat → Int × Int} {i : Nat} {r : Addr} {xs : List V} (h : H r = some (.lst xs)) (l : xs.length = 3) (p : ∀ j x, xs[j]? = some x → PzX CR m i j x H) : RowL CR H m i r := by
  obtain ⟨a, b, d, rfl⟩ := three_ys l
  obtain ⟨x0, rfl, h0⟩ := p 0 a rfl
  obtain ⟨x1, rfl, h1⟩ := p 1 b rfl
  obtain ⟨x2, rfl, h2⟩ := p 2 d rfl
  exact ⟨x0, x1, x2, h, h0, h1, h2⟩
theorem Tab.get {m : Nat → Nat → Int × Int} {t : Addr} (h : Tab CR H t m) : ∃ xs : List V, H t = some (.tup xs) ∧ xs.length = 3 ∧ ∀ i x, xs[i]? = some x → PzT CR m i x H := by
  obtain ⟨x0, x1, x2, h0, h1, h2, h3⟩ := h.ex
  refine ⟨_, h0, rfl, fun j x e => ?_⟩
  match j, e with
  | 0, e => cases e; exact ⟨_, rfl, h1⟩
  | 1, e => cases e; exact ⟨_, rfl, h2⟩
  | 2, e => cases e; exact ⟨_, rfl, h3⟩
  | j + 3, e => simp at e
theorem LTab.get {m : Nat → Nat → Int × Int} {L : Addr} (h : LTab CR H L m) : ∃ xs : List V, H L = some (.lst xs) ∧ xs.length = 3 ∧ ∀ i x, xs[i]? = some x → PzL CR L m i x H := by
  obtain ⟨x0, x1, x2, h0, h1, h2, h3, n0, n1, n2⟩ := h.ex
  refine ⟨_, h0, rfl, fun j x e => ?_⟩
  match j, e with
  | 0, e => cases e; exact ⟨_, rfl, h1, n0⟩
  | 1, e => cases e; exact ⟨_, rfl, h2, n1⟩
  | 2, e => cases e; exact ⟨_, rfl, h3, n2⟩
  | j + 3, e => simp at e
theorem LTab.mk' {m : Nat → Nat → Int × Int} {L : Addr} {xs : List V} (h : H L = some (.lst xs)) (l : xs.length = 3) (p : ∀ i x, xs[i]? = some x → PzL CR L m i x H) : LTab CR H L m := by
  obtain ⟨a, b, d, rfl⟩ := three_ys l
  obtain ⟨x0, rfl, h0, n0⟩ := p 0 a rfl
  obtain ⟨x1, rfl, h1, n1⟩ := p 1 b rfl
  obtain ⟨x2, rfl, h2, n2⟩ := p 2 d rfl
  exact ⟨x0, x1, x2, h, h0, h1, h2, n0, n1, n2⟩
theorem LTab.same {m : Nat → Nat → Int × Int} {L : Addr} (h : LTab CR H L m) (s : Same H H') : LTab CR H' L m := let ⟨x0, x1, x2, h0, h1, h2, h3, n⟩ := h.ex; ⟨x0, x1, x2, s _ _ h0, h1.same s, h2.same s, h3.same s, n⟩
theorem RowL.ext {m m' : Nat → Nat → Int × Int} {i k : Nat} {r : Addr} (h : RowL CR H m i r) (e : ∀ j, j < 3 → m' k j = m i j) : RowL CR H m' k r := by
  obtain ⟨x0, x1, x2, h0, h1, h2, h3⟩ := h.ex
  exact ⟨x0, x1, x2, h0, by rw [e 0 (by decide)]; exact h1, by rw [e 1 (by decide)]; exact h2, by rw [e 2 (by decide)]; exact h3⟩
end
end Sf
namespace Sf
open PySem PySem.Spec PyProof.Rows L2
theorem rw_neg {CR : Addr} {H : Hp} {x : Addr} {t b : Int} {Q : VK} (hx : Rw CR H x t b) (b2 : b.natAbs < 2 ^ 3000) (q : ∀ (z : Addr) (H' : Hp), Same H H' → Rw CR H' z (-t) b → Q (.ref z) H') : spRatNeg CR [.ref x] H Q E0 := by
  obtain ⟨t', b', r1, l1⟩ := hx.ex
  obtain ⟨u1, u2⟩ := lowT_bd hx.b0 l1
  have z1 : b' ≠ 0 := by have := l1.1; omega
  refine ⟨x, t', b', rfl, r1, z1, lt_mono (Nat.lt_of_le_of_lt u2 b2) (by decide), fun u v z H' hl _ s r => q z H' s ⟨⟨u, v, r, lowT_tr hl ?_ z1⟩, hx.b0⟩⟩
  have e := l1.2.1
  rw [Int.neg_mul, Int.neg_mul, e]
end Sf
namespace Sf
open PySem PySem.Spec PyProof.Rows L2
theorem rw_addI {CR : Addr} {H : Hp} {x : Addr} {t b s : Int} {R : VK} (hx : Rw CR H x t b) (b1 : t.natAbs < 2 ^ 3000) (b2 : b.natAbs < 2 ^ 3000) (b3 : s.natAbs < 10 ^ 60)
    (q : ∀ (z : Addr) (H' : Hp), Same H H' → Rw CR H' z (t + s * b) b → R (.ref z) H') : rOwnI CR (spRatOp CR (fun t b t2 b2 => t * b2 + t2 * b) (fun _ b _ b2 => b * b2)) E0 (.ref x) (.int s) H R := by
  obtain ⟨t', b', r1, l1⟩ := hx.ex
  obtain ⟨u1, u2⟩ := lowT_bd hx.b0 l1
  have z1 : b' ≠ 0 := by have := l1.1; omega
  have e60 : (10 : Nat) ^ 60 < 2 ^ 3000 := by decide +kernel
  refine ⟨x, s, rfl, rfl, hx.ins, ⟨x, .int s, t', b', s, 1, rfl, r1, .int b3, Nat.lt_of_le_of_lt u1 b1, Nat.lt_of_le_of_lt u2 b2, Nat.lt_trans b3 e60, by decide +kernel, by rw [Int.mul_one]; exact z1, fun u v z H' hl hz e hR => ?_⟩⟩
  rw [Int.mul_one, Int.mul_one] at hl
  have e1 := l1.2.1
  exact q z H' e ⟨⟨u, v, hR, lowT_tr hl (by grind) z1⟩, hx.b0⟩
theorem GatP.map {Pz Pz' : Nat → V → Hp → Prop} {Pw Pw' : V → V → Prop} {H1 H : Hp} {D : Addr} {n : Nat} {ys : List V} (c : GatP Pz Pw H1 D n ys H) (f : ∀ i z, Pz i z H → Pz' i z H) (g : ∀ x y, Pw x y → Pw' x y) : GatP Pz' Pw' H1 D n ys H :=
  ⟨c.len, fun i y e => f i y (c.one i y e), fun i j x y l a b => g _ _ (c.two i j x y l a b), c.same, c.at_⟩
section
variable {CR : Addr} {H H' : Hp}
structure LT (CR : Addr) (H : Hp) (L : Addr) (m : Nat → Nat → Int × Int) : Prop where
  ex : ∃ xs : List V, H L = some (.lst xs) ∧ xs.length = 3 ∧ ∀ i x, xs[i]? = some x → ∃ l, x = .ref l ∧ RowL CR H m i l
theorem gat_lt {D : Addr} {m : Nat → Nat → Int × Int} {Pz : Nat → V → Hp → Prop} {Pw : V → V → Prop} {H1 : Hp} {ys : List V} (c : GatP Pz Pw H1 D 3 ys H) (f : ∀ i z, Pz i z H → ∃ l, z = .ref l ∧ RowL CR H m i l) : LT CR H D m :=
  ⟨ys, c.at_, c.len, fun i y e => f i y (c.one i y e)⟩
theorem get_set {xs : List V} {a i : Nat} {v x : V} (h : (xs.set a v)[i]? = some x) : (i = a ∧ x = v) ∨ (i ≠ a ∧ xs[i]? = some x) := by
  rw [List.getElem?_set] at h
  by_cases c : a = i
  · subst c
    rw [if_pos rfl] at h
    by_cases d : a < xs.length
    · rw [if_pos d] at h
      cases h
      exact .inl ⟨rfl, rfl⟩
    · rw [if_neg d] at h
      cases h
  · rw [if_neg c] at h
    exact .inr ⟨fun z => c z.symm, h⟩
/-- a row with one of its ratios put in another's place -/
theorem RowL.put {m m' : Nat → Nat → Int × Int} {i s : Nat} {l z : Addr} {ys : List V} (g : H l = some (.lst ys)) (h : RowL CR H m i l) (hz : Rw CR H z (m' i s).1 (m' i s).2) (e : ∀ j, j < 3 → j ≠ s → m' i j = m i j) : RowL CR (upd H l (.lst (ys.set s (.ref z)))) m' i l := by
  obtain ⟨xs, g2, l3, p⟩ := h.get
  have e2 := g.symm.trans g2
  cases e2
  have k : Keep l H (upd H l (.lst (ys.set s (.ref z)))) := Keep.upd
  refine RowL.mk3 upd_same (by rw [List.length_set]; exact l3) fun j x hx => ?_
  rcases get_set hx with ⟨rfl, rfl⟩ | ⟨n, hx⟩
  · exact ⟨z, rfl, hz.keepL ⟨_, g⟩ k⟩
  · obtain ⟨x', e1, h1⟩ := p j x hx
    have j3 : j < 3 := by rw [← l3]; exact (List.getElem?_eq_some_iff.mp hx).1
    refine ⟨x', e1, ?_⟩
    rw [e j j3 n]
    exact h1.keepL ⟨_, g⟩ k
end
end Sf
namespace Sf
open PySem PySem.Spec PyProof.Rows L2
theorem atI_nat' {α : Type} {xs : List α} {j : Nat} {i : Int} {v : α} (e : i = (j : Int)) (h : xs[j]? = some v) : atI xs i = some v := e ▸ atI_nat h
end Sf

namespace Sf
open PySem PySem.Spec PyProof.Rows L2
section
variable {P : Program} {w : World} {K : PySem.W.Frag} {mg : Str → Option Value} {base : Heap} {f : Addr} {fd : FuncData} {CR CA CF : Addr}
set_option maxHeartbeats 16000000 in
theorem ok_law_near (F : FnD K "_law_near" "_law_near" s_L_near f fd) (T : Glob mg) (C_L_scoop : Cal P w K mg base 1 "_law_scoop" ["_law_bowl_here", "_law_total"] spTake) (C_L_one_of : Cal P w K mg base 2 "_law_one_of" ["_law_bowl_here", "_law_items"] (spOneOf K)) (O_Ratio : OwnK K CR) (NR_Ratio_Add : NoAttr K CR "__radd__") (N_Ratio_2 : CalC P w K mg base 3 "Ratio" CR ["self", "top", "bottom"] [] (spRatInit CR)) (M_Ratio_add : CalM P w K mg base 6 "__add__" CR ["self", "other"] (spRatOp CR (fun t b t2 b2 => t * b2 + t2 * b) (fun _ b _ b2 => b * b2))) (M_Ratio_neg : CalM P w K mg base 6 "__neg__" CR ["self"] (spRatNeg CR)) :
    FnOk P w K mg base CX0 10 f fd ["_law_bowl_here", "_law_turn", "_law_other"] (spNear CR) := by
  refine F.ok sc_L_near (fun vs H Q E h => ?_) (fun cdv A outer s H vs Q E hr h => ?_)
  · obtain ⟨p, t, o, n, e, g, D, G, rfl, _⟩ := h.ex; rfl
  · obtain ⟨p, t, o, n, e, g, D, G, rfl, sk, hn, ht, ho, hD2, d0, g0, bd, bg, be, bge, q⟩ := h.ex
    refine ⟨_, PSs.nox (pss_cons (ps_par3 (i := 3) (j := 4) (l := 5) (by rfl) sc_L_near.nd rfl rfl rfl (by decide) (by decide) (by decide) rfl rfl rfl (pa_cons (pe_cal C_L_scoop (hr.mono (by decide)) (pa_cons (pv 0) (pa_cons pe_int pa_nil))) (pa_cons (pe_cal C_L_scoop (hr.mono (by decide)) (pa_cons (pv 0) (pa_cons pe_int pa_nil))) (pa_cons (pe_cal C_L_scoop (hr.mono (by decide)) (pa_cons (pv 0) (pa_cons pe_int pa_nil))) pa_nil))) (by rfl))
      (pss_cons (ps_setLc (i := 6) rfl sc_L_near.nd rfl rfl (sw_true rfl rfl rfl (by decide +kernel)) (own := [("_law_row", 7)]) (pi_tup (pv 1)) (blkOk_by (N := ["_law_bowl_here", "_law_turn", "_law_other", "_law_way", "_law_at", "_law_spot", "_law_rows", "_law_row", "_law_entry", "_law_to"]) (sc := defScope s_L_near) (by decide +kernel)) (fun _ _ _ _ _ => pg_name (i := 7) sc_L_near.nd rfl (Or.inl rfl)) (fun _ _ _ _ _ => pts_nil) (fun _ _ _ _ _ => (pe_callTy (call_listK (K := K) rfl) (by rfl) T.m_list (by decide +kernel) (pa_cons (pv 7) pa_nil))))
      (Evl.pss_cut (ps_if (pt_cmp (pc_eqI (pv 3) pe_int)) (pss_one (ps_asg (pe_op (op_or (op_own (M_Ratio_add.me.cast (by decide +kernel)) M_Ratio_add.ok (hr.mono (by decide)) M_Ratio_add.b pass0 O_Ratio.sf) (op_ownI (M_Ratio_add.me.cast (by decide +kernel)) M_Ratio_add.ok (hr.mono (by decide)) M_Ratio_add.b pass0 O_Ratio.sf NR_Ratio_Add O_Ratio.si (fo := some (.builtin "int.__add__")) (ro := some (.builtin "int.__radd__")) (by kernel_rfl) (by kernel_rfl))) (pe_ix ix_list (pe_ix ix_list (pv 6) (pv 4) (fun _ _ => rfl)) (pv 5) (fun _ _ => rfl)) (pe_cal C_L_one_of (hr.mono (by decide)) (pa_cons (pv 0) (pa_cons (pe_lst (pa_cons pe_int (pa_cons (pe_un un_neg pe_int) (pa_cons pe_int (pa_cons (pe_new N_Ratio_2 (hr.mono (by decide)) (pa_cons pe_int (pa_cons pe_int pa_nil))) pa_nil))))) pa_nil)))) (pg_sub (pe_ix ix_list (pv 6) (pv 4) (fun _ _ => rfl)) (pv 5) set_list))) (pss_one (ps_if (pt_cmp (pc_eqI (pv 3) pe_int)) (pss_one (ps_asg (pe_lc rfl sc_L_near.nd (own := [("_law_entry", 8)]) (pi_list (pe_ix ix_list (pv 6) (pv 4) (fun _ _ => rfl))) (blkOk_by (N := ["_law_bowl_here", "_law_turn", "_law_other", "_law_way", "_law_at", "_law_spot", "_law_rows", "_law_row", "_law_entry", "_law_to"]) (sc := defScope s_L_near) (by decide +kernel)) (fun _ _ _ _ _ => pg_name (i := 8) sc_L_near.nd rfl (Or.inl rfl)) (fun _ _ _ _ _ => pts_nil) (fun _ _ _ _ _ => (pe_un (un_own M_Ratio_neg.me M_Ratio_neg.ok (hr.mono (by decide)) M_Ratio_neg.b pass0) (pv 8)))) (pg_sub (pv 6) (pv 4) set_list))) (pss_one (ps_if (pt_cmp (pc_eqI (pv 3) pe_int)) (pss_one (ps_setLc (i := 6) rfl sc_L_near.nd rfl rfl (sw_true rfl rfl rfl (by decide +kernel)) (own := [("_law_to", 9)]) (pi_range1 (by rfl) T.m_range (pa_cons pe_int pa_nil)) (blkOk_by (N := ["_law_bowl_here", "_law_turn", "_law_other", "_law_way", "_law_at", "_law_spot", "_law_rows", "_law_row", "_law_entry", "_law_to"]) (sc := defScope s_L_near) (by decide +kernel)) (fun _ _ _ _ _ => pg_name (i := 9) sc_L_near.nd rfl (Or.inr rfl)) (fun _ _ _ _ _ => pts_nil) (fun _ _ _ _ _ => (pe_lc rfl sc_L_near.nd (own := [("_law_row", 7)]) (pi_tupK (K := K) rfl (pv 1)) (blkOk_by (by kernel_rfl)) (fun _ _ _ _ _ => pg_name (i := 7) sc_L_near.nd rfl (Or.inl rfl)) (fun _ _ _ _ _ => pts_nil) (fun _ _ _ _ _ => (pe_ix (r := rIxT K) ix_tup (pv 7) (pv 9) (fun _ _ => rfl))))))) (pss_one (ps_if (pt_cmp (pc_eqI (pv 3) pe_int)) (pss_one (ps_setLc (i := 6) rfl sc_L_near.nd rfl rfl (sw_true rfl rfl rfl (by decide +kernel)) (own := [("_law_row", 7)]) (pi_tup (pv 1)) (blkOk_by (N := ["_law_bowl_here", "_law_turn", "_law_other", "_law_way", "_law_at", "_law_spot", "_law_rows", "_law_row", "_law_entry", "_law_to"]) (sc := defScope s_L_near) (by decide +kernel)) (fun _ _ _ _ _ => pg_name (i := 7) sc_L_near.nd rfl (Or.inl rfl)) (fun _ _ _ _ _ => pts_nil) (fun _ _ _ _ _ => (pe_lc rfl sc_L_near.nd (own := [("_law_entry", 8)]) (pi_tupK (K := K) rfl (pv 7)) (blkOk_by (by kernel_rfl)) (fun _ _ _ _ _ => pg_name (i := 8) sc_L_near.nd rfl (Or.inl rfl)) (fun _ _ _ _ _ => pts_nil) (fun _ _ _ _ _ => (pe_un (un_own M_Ratio_neg.me M_Ratio_neg.ok (hr.mono (by decide)) M_Ratio_neg.b pass0) (pv 8))))))) (pss_one (ps_if (pt_cmp (pc_eqI (pv 3) pe_int)) (pss_one (ps_asg (pe_tup (pa_cons (pe_ix ix_list (pv 6) (pv 5) (fun _ _ => rfl)) (pa_cons (pe_ix ix_list (pv 6) (pv 4) (fun _ _ => rfl)) pa_nil))) (pg_tup (by rfl) (pgs_cons (pg_sub (pv 6) (pv 4) set_list) (pgs_cons (pg_sub (pv 6) (pv 5) set_list) pgs_nil))))) (pss_one (ps_if (pt_cmp (pc_eqI (pv 3) pe_int)) (pss_one (ps_setLc (i := 6) rfl sc_L_near.nd rfl rfl (sw_true rfl rfl rfl (by decide +kernel)) (own := [("_law_row", 7)]) (pi_tup (pv 2)) (blkOk_by (N := ["_law_bowl_here", "_law_turn", "_law_other", "_law_way", "_law_at", "_law_spot", "_law_rows", "_law_row", "_law_entry", "_law_to"]) (sc := defScope s_L_near) (by decide +kernel)) (fun _ _ _ _ _ => pg_name (i := 7) sc_L_near.nd rfl (Or.inl rfl)) (fun _ _ _ _ _ => pts_nil) (fun _ _ _ _ _ => (pe_callTy (call_listK (K := K) rfl) (by rfl) T.m_list (by decide +kernel) (pa_cons (pv 7) pa_nil))))) pss_nil)))))))))))
      (pss_one (ps_ret (pe_callTy call_tuple_of (by rfl) T.m_tuple (by decide +kernel) (pa_cons (pe_lc rfl sc_L_near.nd (own := [("_law_row", 7)]) (pi_list (pv 6)) (blkOk_by (N := ["_law_bowl_here", "_law_turn", "_law_other", "_law_way", "_law_at", "_law_spot", "_law_rows", "_law_row", "_law_entry", "_law_to"]) (sc := defScope s_L_near) (by decide +kernel)) (fun _ _ _ _ _ => pg_name (i := 7) sc_L_near.nd rfl (Or.inl rfl)) (fun _ _ _ _ _ => pts_nil) (fun _ _ _ _ _ => (pe_callTy (call_tupK (K := K) rfl) (by rfl) T.m_tuple (by decide +kernel) (pa_cons (pv 7) pa_nil)))) pa_nil))))))), ?_⟩
    refine ⟨_, rfl, take_of sk (by omega) (by decide) (by decide +kernel) fun v1 H1 a0 a1 k1 s1 _ => ⟨_, rfl, take_of s1 (by omega) (by decide) (by decide +kernel) fun v2 H2 a2 a3 k2 s2 _ => ⟨_, rfl, take_of s2 (by omega) (by decide) (by decide +kernel) fun v3 H3 a4 a5 k3 s3 _ => ⟨_, _, _, rfl, ?_⟩⟩⟩⟩
    obtain ⟨ia, rfl⟩ : ∃ m : Nat, v2 = m := ⟨v2.toNat, by omega⟩
    obtain ⟨is, rfl⟩ : ∃ m : Nat, v3 = m := ⟨v3.toNat, by omega⟩
    have ia3 : ia < 3 := by omega
    have is3 : is < 3 := by omega
    have k13 := (k1.trans k2).trans k3
    replace ht := ht.keep sk k13
    replace ho := ho.keep sk k13
    clear k1 k2 k3 s1 s2 a2 a3 a4 a5
    obtain ⟨xs, hx, lx, px⟩ := ht.get
    obtain ⟨ox, hox, lox, pox⟩ := ho.get
    have skp : ∀ {m : Nat} {H : Hp}, Sk p m H → ∃ ys, H p = some (.lst ys) := fun ⟨ys, e, _⟩ => ⟨ys, e⟩
    have fresh : ∀ {H' : Hp} {l : Addr}, Same H3 H' → H' l = none → H3 l = none := fun {H' l} s hl => by
      cases c : H3 l with
      | none => rfl
      | some o => rw [s _ _ c] at hl; cases hl
    have rows_of : ∀ {mm : Nat → Nat → Int × Int} {H' : Hp} {L : Addr} {i : Nat} {x : V} {R : V → Hp → Prop}, Same H3 H' → PzT CR mm i x H' → (∃ ys, H' L = some (.lst ys)) → (∀ y H4, Same H' H4 → (PzL CR L mm i y H4 ∧ ∀ l, y = .ref l → H3 l = none) → (∀ j x, (PzL CR L mm j x H' ∧ ∀ l, x = .ref l → H3 l = none) → x ≠ y) → R y H4) →
        rListOf K [x] H' R := fun {mm H' L i x R} hs hp hL k => by
      obtain ⟨r, rfl, hr⟩ := hp
      obtain ⟨x0, x1, x2, h0, h1, h2, h3⟩ := hr.ex
      refine ⟨r, _, rfl, .inr (SqT.of h0), fun l hl => ?_⟩
      have s := same_upd (o := .lst [V.ref x0, V.ref x1, V.ref x2]) hl
      have nL : l ≠ L := fun z => by obtain ⟨ys, e⟩ := hL; rw [← z, hl] at e; cases e
      refine k _ _ s ⟨⟨l, rfl, ⟨x0, x1, x2, upd_same, h1.same s, h2.same s, h3.same s⟩, nL⟩, fun l' z => V.ref.inj z ▸ fresh hs hl⟩ fun j y ⟨⟨l', e1, h, _⟩, _⟩ z => ?_
      obtain ⟨_, _, _, h, _⟩ := h.ex
      rw [e1] at z
      rw [V.ref.inj z, hl] at h
      cases h
    refine ⟨_, rfl, t, rfl, ⟨_, SqT.of hx⟩, fun L hL => gat_tup (K := K) (a := t) (xs := xs) (fun i z H' => PzL CR L (fun i j => (e i j, D)) i z H' ∧ ∀ l, z = .ref l → H3 l = none) (fun x y => x ≠ y) hL hx (by omega) (fun i z Ha Hb hp hd k => ⟨pzL_st i z Ha Hb hp.1 hd k, hp.2⟩) (fun i x H' hi hs hd R N k => ⟨rfl, _, rfl, ?_⟩) (fun ys H4 c => ?_)⟩
    · obtain ⟨r, e1, hr⟩ := px i x hi
      exact rows_of hs ⟨r, e1, hr.same hs⟩ hd k
    rw [lx] at c
    have nLp : L ≠ p := (s3.ne hL).symm
    have k34 := c.same
    have s4 := s3.same k34
    have k4 := k13.trans (Keep.same k34)
    have gL := c.at_
    have ly := c.len
    have row : ∀ i x, ys[i]? = some x → ∃ l, x = .ref l ∧ RowL CR H4 (fun i j => (e i j, D)) i l ∧ l ≠ L ∧ H3 l = none := fun i x hi => by
      obtain ⟨⟨l, e1, h, n1⟩, n2⟩ := c.one i x hi
      exact ⟨l, e1, h, n1, n2 l e1⟩
    have two := c.two
    have at3 : ∀ {i : Nat}, i < 3 → ∃ l, ys[i]? = some (.ref l) ∧ RowL CR H4 (fun i j => (e i j, D)) i l ∧ l ≠ L ∧ H3 l = none := fun {i} hi => by
      obtain ⟨x, ex⟩ : ∃ x, ys[i]? = some x := ⟨_, List.getElem?_eq_getElem (by omega)⟩
      obtain ⟨l, rfl, h⟩ := row i x ex
      exact ⟨l, ex, h⟩
    have neP : ∀ {l : Addr}, H3 l = none → l ≠ p := fun h => (s3.ne h).symm
    have kput : ∀ {Ha : Hp} {l : Addr} {u : HO}, H3 l = none → Keep p H Ha → Keep p H (upd Ha l u) := fun {Ha l u} hl k c' o' e' nc => by
      rw [upd_ne (fun z => by rw [← z, k13 _ _ e' nc] at hl; cases hl)]
      exact k _ _ e' nc
    have sput : ∀ {Ha : Hp} {l : Addr} {u : HO} {m : Nat}, H3 l = none → Sk p m Ha → Sk p m (upd Ha l u) := fun {Ha l u m} hl ⟨zs, e1, e2⟩ => ⟨zs, by rw [upd_ne (neP hl).symm]; exact e1, e2⟩
    replace hx := k34 _ _ hx
    replace hox := k34 _ _ hox
    replace px : ∀ i x, xs[i]? = some x → PzT CR (fun i j => (e i j, D)) i x H4 := fun i x h => let ⟨r, e1, h1⟩ := px i x h; ⟨r, e1, h1.same k34⟩
    replace pox : ∀ i x, ox[i]? = some x → PzT CR (fun i j => (g i j, G)) i x H4 := fun i x h => let ⟨r, e1, h1⟩ := pox i x h; ⟨r, e1, h1.same k34⟩
    have rows_of4 : ∀ {mm : Nat → Nat → Int × Int} {H' : Hp} {L : Addr} {i : Nat} {x : V} {R : V → Hp → Prop}, Same H4 H' → PzT CR mm i x H' → (∃ ys, H' L = some (.lst ys)) → (∀ y H4, Same H' H4 → PzL CR L mm i y H4 → (∀ (j : Nat) (x : V), PzL CR L mm j x H' → True) → R y H4) → rListOf K [x] H' R := fun hs hp hL k => rows_of (k34.trans hs) hp hL fun y H5 s a b => k y H5 s a.1 fun _ _ _ => trivial
    clear c rows_of
    have two' : ∀ {i j : Nat} {x y : V}, i ≠ j → ys[i]? = some x → ys[j]? = some y → x ≠ y := fun {i j x y} n h1 h2 => by
      rcases Nat.lt_or_ge i j with c | c
      · exact two i j x y c h1 h2
      · exact (two j i y x (by omega) h2 h1).symm
    refine ⟨fun σ' H' => ∃ (L' : Addr) (e' : Nat → Nat → Int) (D' : Int) (x7 x8 x9 : Option V), σ' = [some (.ref p), some (.ref t), some (.ref o), some (.int v1), some (.int ia), some (.int is), some (.ref L'), x7, x8, x9] ∧ Keep p H H' ∧ Sk p (n + 4) H' ∧ LT CR H' L' (fun i j => (e' i j, D')) ∧ D' ≠ 0 ∧ D'.natAbs < 2 ^ 130 ∧ (∀ i j, i < 3 → j < 3 → (e' i j).natAbs < 2 ^ 130), ?_, fun σ' H' hM => ?_⟩
    · have s4' := s4.mono (show n + 1 + 1 + 1 ≤ n + 4 by omega)
      have bd' : D.natAbs < 2 ^ 130 := Nat.lt_trans bd (by decide)
      have bG' : G.natAbs < 2 ^ 130 := Nat.lt_trans bg (by decide)
      have be' : ∀ i j, i < 3 → j < 3 → (e i j).natAbs < 2 ^ 130 := fun i j hi hj => Nat.lt_trans (be i j hi hj) (by decide)
      have bn' : ∀ i j, i < 3 → j < 3 → (-(e i j)).natAbs < 2 ^ 130 := fun i j hi hj => by rw [Int.natAbs_neg]; exact be' i j hi hj
      have bg' : ∀ i j, i < 3 → j < 3 → (g i j).natAbs < 2 ^ 130 := fun i j hi hj => Nat.lt_trans (bge i j hi hj) (by decide)
      have b3k : D.natAbs < 2 ^ 3000 := Nat.lt_trans bd (by decide +kernel)
      have be3 : ∀ i j, i < 3 → j < 3 → (e i j).natAbs < 2 ^ 3000 := fun i j hi hj => Nat.lt_trans (be i j hi hj) (by decide +kernel)
      refine ⟨_, rfl, _, _, rfl, rfl, _, rfl, ifd (fun c0 => ?_) (fun c0 => ⟨_, rfl, _, _, rfl, rfl, _, rfl, ifd (fun c1 => ?_) (fun c1 => ⟨_, rfl, _, _, rfl, rfl, _, rfl, ifd (fun c2 => ?_) (fun c2 => ⟨_, rfl, _, _, rfl, rfl, _, rfl, ifd (fun c3 => ?_) (fun c3 => ⟨_, rfl, _, _, rfl, rfl, _, rfl, ifd (fun c4 => ?_) (fun c4 => ⟨_, rfl, _, _, rfl, rfl, _, rfl, ifd (fun c5 => ?_) (fun c5 => ?_)⟩)⟩)⟩)⟩)⟩)⟩
      · -- an entry and something
        obtain ⟨l, hl, hr, nl, nlp⟩ := at3 ia3
        obtain ⟨zs, gl, lz, pz⟩ := hr.get
        obtain ⟨x, hxx⟩ : ∃ x, zs[is]? = some x := ⟨_, List.getElem?_eq_getElem (by omega)⟩
        obtain ⟨x, rfl, hxw⟩ := pz is x hxx
        refine ⟨_, rfl, _, rfl, L, ys, _, _, rfl, rfl, SqL.of gL, atI_nat hl, _, rfl, l, zs, _, _, rfl, rfl, SqL.of gl, atI_nat hxx, _, rfl, 1, rfl, fun xr dxr hxr hdxr ndr => new_rat (t := 1) (b := 2) (by decide) (by decide +kernel) (by decide +kernel) hxr hdxr ndr fun t' b' H5 hl5 s5 hR => ⟨rfl, (by show 4 ≤ sizeLine; decide), fun B hB => one_of_new (s4.same s5) (by omega) hB (by show 1 ≤ 4; decide) (by show 4 ≤ 1000000; decide) fun v H6 hv k6 s6 => ?_⟩⟩
        have wr : Rw CR H5 xr 1 2 := ⟨⟨t', b', hR, hl5⟩, by decide⟩
        have p5 := s4.same s5
        have k46 : Keep p H4 H6 := (Keep.same s5).trans k6
        have hxw6 : Rw CR H6 x (e ia is) D := hxw.keep s4 k46
        have wr6 : Rw CR H6 xr 1 2 := wr.keep p5 k6
        have fin : ∀ (z : Addr) (kd : Int) (H7 : Hp), Same H6 H7 → Rw CR H7 z (e ia is + kd) D → kd.natAbs < 2 ^ 129 → H7 L = some (.lst ys) ∧ H7 l = some (.lst zs) ∧ Keep p H (upd H7 l (.lst (zs.set is (.ref z)))) ∧ Sk p (n + 4) (upd H7 l (.lst (zs.set is (.ref z)))) ∧ LT CR (upd H7 l (.lst (zs.set is (.ref z)))) L (fun i j => (if i = ia ∧ j = is then e ia is + kd else e i j, D)) ∧ D ≠ 0 ∧ D.natAbs < 2 ^ 130 ∧ ∀ i j, i < 3 → j < 3 → (if i = ia ∧ j = is then e ia is + kd else e i j).natAbs < 2 ^ 130 := fun z kd H7 s67 wz bk => by
          have k47 : Keep p H4 H7 := k46.trans (Keep.same s67)
          have gL7 := k47 _ _ gL nLp
          have gl7 := k47 _ _ gl (neP nlp)
          refine ⟨gL7, gl7, kput nlp (k4.trans k47), sput nlp (s6.same s67), ⟨ys, ?_, ly, fun i y hy => ?_⟩, d0, bd', fun i j hi hj => ?_⟩
          · rw [upd_ne (Ne.symm nl)]; exact gL7
          · obtain ⟨l', rfl, hr', nl', nlp'⟩ := row i y hy
            have hr7 := hr'.keepL (neP nlp') (skp s4) k47
            by_cases c : i = ia
            · subst c
              rw [hl] at hy
              cases hy
              refine ⟨l, rfl, RowL.put (m := fun i j => (e i j, D)) gl7 hr7 ?_ fun j hj nj => ?_⟩
              · show Rw CR H7 z (if i = i ∧ is = is then e i is + kd else e i is) D
                rw [if_pos ⟨rfl, rfl⟩]
                exact wz
              · show ((if i = i ∧ j = is then e i is + kd else e i j), D) = (e i j, D)
                rw [if_neg (fun z => nj z.2)]
            · refine ⟨l', rfl, (hr7.keepL (D := l) (fun z => two' c hy hl (by rw [z])) ⟨_, gl7⟩ Keep.upd).ext fun j hj => ?_⟩
              show ((if i = ia ∧ j = is then e ia is + kd else e i j), D) = (e i j, D)
              rw [if_neg (fun z => c z.1)]
          · by_cases c : i = ia ∧ j = is
            · rw [if_pos c]
              have h1 := Int.natAbs_add_le (e ia is) kd
              have h2 := be ia is ia3 is3
              omega
            · rw [if_neg c]
              exact be' i j hi hj
        have sm : ∀ i : Int, i.natAbs ≤ 1 → (i * D).natAbs < 2 ^ 129 := fun i h => by
          rw [Int.natAbs_mul]
          have := Nat.mul_le_mul_right D.natAbs h
          omega
        have c : v = .int 1 ∨ v = .int (-1) ∨ v = .int 0 ∨ v = .ref xr := by simpa using hv
        rcases c with rfl | rfl | rfl | rfl
        · refine .inr (rw_addI hxw6 (be3 ia is ia3 is3) b3k (by decide +kernel) fun z H7 s7 w7 => ?_)
          obtain ⟨f1, f2, f3⟩ := fin z _ H7 s7 w7 (sm 1 (by decide))
          exact ⟨_, rfl, _, rfl, L, ys, _, _, rfl, rfl, SqL.of f1, atI_nat hl, _, rfl, l, zs, _, is, rfl, rfl, f2, Evl.ixN_nat (by omega), L, _, D, none, none, none, rfl, f3⟩
        · refine .inr (rw_addI hxw6 (be3 ia is ia3 is3) b3k (by decide +kernel) fun z H7 s7 w7 => ?_)
          obtain ⟨f1, f2, f3⟩ := fin z _ H7 s7 w7 (sm (-1) (by decide))
          exact ⟨_, rfl, _, rfl, L, ys, _, _, rfl, rfl, SqL.of f1, atI_nat hl, _, rfl, l, zs, _, is, rfl, rfl, f2, Evl.ixN_nat (by omega), L, _, D, none, none, none, rfl, f3⟩
        · refine .inr (rw_addI hxw6 (be3 ia is ia3 is3) b3k (by decide +kernel) fun z H7 s7 w7 => ?_)
          obtain ⟨f1, f2, f3⟩ := fin z _ H7 s7 w7 (sm 0 (by decide))
          exact ⟨_, rfl, _, rfl, L, ys, _, _, rfl, rfl, SqL.of f1, atI_nat hl, _, rfl, l, zs, _, is, rfl, rfl, f2, Evl.ixN_nat (by omega), L, _, D, none, none, none, rfl, f3⟩
        · refine .inl (rw_add hxw6 wr6 (be3 ia is ia3 is3) b3k (by decide +kernel) (by decide +kernel) fun z H7 s7 w7 => ?_)
          obtain ⟨hc, hD⟩ := hD2
          have w7' : Rw CR H7 z (e ia is + hc) D := w7.like d0 (by rw [hD]; grind)
          obtain ⟨f1, f2, f3⟩ := fin z _ H7 s7 w7' (by omega)
          exact ⟨_, rfl, _, rfl, L, ys, _, _, rfl, rfl, SqL.of f1, atI_nat hl, _, rfl, l, zs, _, is, rfl, rfl, f2, Evl.ixN_nat (by omega), L, _, D, none, none, none, rfl, f3⟩
      · -- a row turned about
        obtain ⟨l, hl, hr, nl, nlp⟩ := at3 ia3
        obtain ⟨zs, gl, lz, pz⟩ := hr.get
        refine ⟨_, rfl, _, rfl, L, ys, _, _, rfl, rfl, SqL.of gL, atI_nat hl, l, rfl, ⟨_, SqL.of gl⟩, fun D2 hD2' => gat_list (K := K) (a := l) (xs := zs) (PzX CR (fun i j => (-(e i j), D)) ia) (fun _ _ => True) hD2' gl (by omega) pzX_st (fun j x H5 hj hs hd R N k => ⟨rfl, ?_⟩) (fun us H5 c => ?_)⟩
        · obtain ⟨x, rfl, hw⟩ := pz j x hj
          exact ⟨_, rfl, x, rfl, (hw.same hs).ins, rw_neg (hw.same hs) b3k fun z H6 s6 w6 => k _ _ s6 ⟨z, rfl, w6⟩ fun _ _ _ => trivial⟩
        · rw [lz] at c
          have s45 := c.same
          have gL5 := s45 _ _ gL
          have nD : D2 ≠ L := (ne_of_none gL hD2').symm
          refine ⟨_, rfl, _, rfl, L, ys, _, ia, rfl, rfl, gL5, Evl.ixN_nat (by omega), L, (fun i j => if i = ia then -(e i j) else e i j), D, none, none, none, rfl, kput hL (k4.trans (Keep.same s45)), sput hL (s4'.same s45), ⟨_, upd_same, by rw [List.length_set]; exact ly, fun i y hy => ?_⟩, d0, bd', fun i j hi hj => ?_⟩
          · rcases get_set hy with ⟨rfl, rfl⟩ | ⟨n1, hy⟩
            · refine ⟨D2, rfl, ((gat_row c).keepL nD ⟨_, gL5⟩ Keep.upd).ext fun j hj => ?_⟩
              show ((if i = i then _ else _ : Int), D) = _
              rw [if_pos rfl]
            · obtain ⟨l', rfl, hr', nl', nlp'⟩ := row i y hy
              refine ⟨l', rfl, ((hr'.same s45).keepL nl' ⟨_, gL5⟩ Keep.upd).ext fun j hj => ?_⟩
              show ((if i = ia then _ else _ : Int), D) = _
              rw [if_neg n1]
          · show (if i = ia then -(e i j) else e i j).natAbs < 2 ^ 130
            by_cases c : i = ia
            · rw [if_pos c]; exact bn' i j hi hj
            · rw [if_neg c]; exact be' i j hi hj
      · -- rows and columns exchanged
        refine ⟨3, rfl, by decide, by decide, fun D2 hD2' => gat_range (lo := 0) (n := 3) (PzL CR D2 (fun i j => (e j i, D))) (fun _ _ => True) hD2' (by decide) pzL_st (fun i H5 hi hs hd R N k => ⟨rfl, ?_⟩) (fun us H5 c => ?_)⟩
        · refine ⟨_, rfl, t, rfl, ⟨_, SqT.of (hs _ _ hx)⟩, fun D3 hD3 => gat_tup (K := K) (a := t) (xs := xs) (PzX CR (fun i j => (e j i, D)) i) (fun _ _ => True) hD3 (hs _ _ hx) (by omega) pzX_st (fun j x H6 hj hs6 hd6 R N k6 => ⟨rfl, ?_⟩) (fun ws H6 c => ?_)⟩
          · obtain ⟨r, rfl, hr⟩ := px j x hj
            obtain ⟨qs, gr, lq, pq⟩ := ((hr.same hs).same hs6).get
            obtain ⟨y, hy⟩ : ∃ y, qs[i]? = some y := ⟨_, List.getElem?_eq_getElem (by omega)⟩
            obtain ⟨y, rfl, hw⟩ := pq i y hy
            exact ⟨_, rfl, _, rfl, r, qs, _, .ref y, rfl, rfl, SqT.of gr, atI_nat' (by omega) hy, k6 _ _ (Same.refl _) ⟨y, rfl, hw⟩ fun _ _ _ => trivial⟩
          · rw [lx] at c
            have nD : D3 ≠ D2 := fun z => by obtain ⟨qs, e1⟩ := hd; rw [← z, hD3] at e1; cases e1
            exact k _ _ c.same ⟨D3, rfl, gat_row c, nD⟩ fun _ _ _ => trivial
        · exact ⟨D2, (fun i j => e j i), D, none, none, none, rfl, k4.trans (Keep.same c.same), s4'.same c.same, gat_lt c fun i z ⟨l, e1, h, _⟩ => ⟨l, e1, h⟩, d0, bd', fun i j hi hj => be' j i hj hi⟩
      · -- all turned about
        refine ⟨_, rfl, t, rfl, ⟨_, SqT.of hx⟩, fun D2 hD2' => gat_tup (K := K) (a := t) (xs := xs) (PzL CR D2 (fun i j => (-(e i j), D))) (fun _ _ => True) hD2' hx (by omega) pzL_st (fun i x H5 hi hs hd R N k => ⟨rfl, ?_⟩) (fun us H5 c => ?_)⟩
        · obtain ⟨r, rfl, hr⟩ := px i x hi
          obtain ⟨qs, gr, lq, pq⟩ := (hr.same hs).get
          refine ⟨_, rfl, r, rfl, ⟨_, SqT.of gr⟩, fun D3 hD3 => gat_tup (K := K) (a := r) (xs := qs) (PzX CR (fun i j => (-(e i j), D)) i) (fun _ _ => True) hD3 gr (by omega) pzX_st (fun j y H6 hj hs6 hd6 R N k6 => ⟨rfl, ?_⟩) (fun ws H6 c => ?_)⟩
          · obtain ⟨y, rfl, hw⟩ := pq j y hj
            exact ⟨_, rfl, y, rfl, (hw.same hs6).ins, rw_neg (hw.same hs6) b3k fun z H7 s7 w7 => k6 _ _ s7 ⟨z, rfl, w7⟩ fun _ _ _ => trivial⟩
          · rw [lq] at c
            have nD : D3 ≠ D2 := fun z => by obtain ⟨qs, e1⟩ := hd; rw [← z, hD3] at e1; cases e1
            exact k _ _ c.same ⟨D3, rfl, gat_row c, nD⟩ fun _ _ _ => trivial
        · rw [lx] at c
          exact ⟨D2, (fun i j => -(e i j)), D, none, none, none, rfl, k4.trans (Keep.same c.same), s4'.same c.same, gat_lt c fun i z ⟨l, e1, h, _⟩ => ⟨l, e1, h⟩, d0, bd', bn'⟩
      · -- two rows exchanged
        obtain ⟨la, hla, ra, nla, _⟩ := at3 ia3
        obtain ⟨ls, hls, rs, nls, _⟩ := at3 is3
        refine ⟨_, rfl, _, rfl, L, ys, _, _, rfl, rfl, SqL.of gL, atI_nat hls, _, rfl, _, rfl, L, ys, _, _, rfl, rfl, SqL.of gL, atI_nat hla, (by show 2 ≤ sizeLine; decide), fun T5 hT => ?_⟩
        have s5 := same_upd (o := .tup [V.ref ls, V.ref la]) hT
        have gT : (upd H4 T5 (.tup [V.ref ls, V.ref la])) T5 = some (.tup [V.ref ls, V.ref la]) := upd_same
        generalize (upd H4 T5 (.tup [V.ref ls, V.ref la])) = H5 at *
        have gL5 := s5 _ _ gL
        refine ⟨T5, _, rfl, SqT.of gT, rfl, _, _, rfl, _, rfl, _, rfl, L, ys, _, ia, rfl, rfl, gL5, Evl.ixN_nat (by omega), _, _, rfl, _, rfl, _, rfl, L, _, _, is, rfl, rfl, upd_same, Evl.ixN_nat (by rw [List.length_set]; omega), rfl, L, (fun i j => if i = is then e ia j else if i = ia then e is j else e i j), D, none, none, none, rfl, kput hL (kput hL (k4.trans (Keep.same s5))), sput hL (sput hL (s4'.same s5)), ⟨_, upd_same, by rw [List.length_set, List.length_set]; exact ly, fun i y hy => ?_⟩, d0, bd', fun i j hi hj => ?_⟩
        · have kk : Keep L H5 (upd (upd H5 L (.lst (ys.set ia (.ref ls)))) L (.lst ((ys.set ia (.ref ls)).set is (.ref la)))) := Keep.upd.trans Keep.upd
          rcases get_set hy with ⟨rfl, rfl⟩ | ⟨n1, hy⟩
          · refine ⟨la, rfl, ((ra.same s5).keepL nla ⟨_, gL5⟩ kk).ext fun j hj => ?_⟩
            show ((if i = i then _ else _ : Int), D) = _
            rw [if_pos rfl]
          · rcases get_set hy with ⟨rfl, rfl⟩ | ⟨n2, hy⟩
            · refine ⟨ls, rfl, ((rs.same s5).keepL nls ⟨_, gL5⟩ kk).ext fun j hj => ?_⟩
              show ((if i = is then _ else if i = i then _ else _ : Int), D) = _
              rw [if_neg n1, if_pos rfl]
            · obtain ⟨l', rfl, hr', nl', nlp'⟩ := row i y hy
              refine ⟨l', rfl, ((hr'.same s5).keepL nl' ⟨_, gL5⟩ kk).ext fun j hj => ?_⟩
              show ((if i = is then _ else if i = ia then _ else _ : Int), D) = _
              rw [if_neg n1, if_neg n2]
        · show (if i = is then e ia j else if i = ia then e is j else e i j).natAbs < 2 ^ 130
          by_cases c : i = is
          · rw [if_pos c]; exact be' ia j ia3 hj
          · rw [if_neg c]
            by_cases c : i = ia
            · rw [if_pos c]; exact be' is j is3 hj
            · rw [if_neg c]; exact be' i j hi hj
      · -- the other one
        refine ⟨_, rfl, o, rfl, ⟨_, SqT.of hox⟩, fun D2 hD2' => gat_tup (K := K) (a := o) (xs := ox) (PzL CR D2 (fun i j => (g i j, G))) (fun _ _ => True) hD2' hox (by omega) pzL_st (fun i x H5 hi hs hd R N k => ⟨rfl, _, rfl, ?_⟩) (fun us H5 c => ?_)⟩
        · obtain ⟨r, e1, hr⟩ := pox i x hi
          exact rows_of4 hs ⟨r, e1, hr.same hs⟩ hd k
        · rw [lox] at c
          exact ⟨D2, g, G, none, none, none, rfl, k4.trans (Keep.same c.same), s4'.same c.same, gat_lt c fun i z ⟨l, e1, h, _⟩ => ⟨l, e1, h⟩, g0, bG', bg'⟩
      · exact ⟨L, e, D, none, none, none, rfl, k4, s4', ⟨ys, gL, ly, fun i x hi => let ⟨l, e1, h, _⟩ := row i x hi; ⟨l, e1, h⟩⟩, d0, bd', be'⟩
    · obtain ⟨L', e', D', x7, x8, x9, rfl, kM, sM, hL', dM, bM, beM⟩ := hM
      obtain ⟨qs, gq, lq, pq⟩ := hL'.ex
      refine ⟨_, rfl, L', rfl, ⟨_, SqL.of gq⟩, fun D2 hD2' => gat_list (K := K) (a := L') (xs := qs) (PzT CR (fun i j => (e' i j, D'))) (fun _ _ => True) hD2' gq (by omega) pzT_st (fun i x H5 hi hs hd R N k => ⟨rfl, ?_⟩) (fun us H5 c => ?_)⟩
      · obtain ⟨l, rfl, hr⟩ := pq i x hi
        obtain ⟨x0, x1, x2, h0, h1, h2, h3⟩ := (hr.same hs).ex
        refine ⟨_, rfl, l, _, rfl, .inl ⟨SqL.of h0, fun t5 ht5 => ?_⟩⟩
        have s := same_upd (o := .tup [V.ref x0, V.ref x1, V.ref x2]) ht5
        exact k _ _ s ⟨t5, rfl, ⟨x0, x1, x2, upd_same, h1.same s, h2.same s, h3.same s⟩⟩ fun _ _ _ => trivial
      · rw [lq] at c
        refine ⟨D2, us, rfl, .inl ⟨SqL.of c.at_, fun t5 ht5 => ?_⟩⟩
        obtain ⟨y0, y1, y2, rfl⟩ := three_ys c.len
        obtain ⟨r0, rfl, h0⟩ := c.one 0 y0 rfl
        obtain ⟨r1, rfl, h1⟩ := c.one 1 y1 rfl
        obtain ⟨r2, rfl, h2⟩ := c.one 2 y2 rfl
        have s := same_upd (o := .tup [V.ref r0, V.ref r1, V.ref r2]) ht5
        have s6 := c.same.trans s
        exact q t5 _ e' D' (kM.trans (Keep.same s6)) (sM.same s6) ⟨r0, r1, r2, upd_same, h0.same s, h1.same s, h2.same s⟩ dM bM beM
end
end Sf

namespace Sf
open PySem PySem.Spec PyProof.Rows L2
/-- a multiple of f with no common factor is no greater than f -/
theorem cop_le {f s : Q5} (h : Prop5 f s) (c : Cop s) : ∃ k : Int, k ≠ 0 ∧ f.w = s.w * k ∧ f.x = s.x * k ∧ f.y = s.y * k ∧ f.z = s.z * k := by
  obtain ⟨u, v, u0, v0, h1, h2, h3, h4⟩ := h
  have dv : ∀ {i j : Int}, i * u = j * v → v.natAbs ∣ i.natAbs * u.natAbs := fun {i j} e => by
    rw [← Int.natAbs_mul, e, Int.natAbs_mul]
    exact Nat.dvd_mul_left _ _
  have d1 := dv h1
  have d2 := dv h2
  have d3 := dv h3
  have d4 := dv h4
  have g1 : v.natAbs / v.natAbs.gcd u.natAbs = 1 := by
    have gp : 0 < v.natAbs.gcd u.natAbs := Nat.gcd_pos_of_pos_left _ (Int.natAbs_pos.mpr v0)
    have cp : (v.natAbs / v.natAbs.gcd u.natAbs).Coprime (u.natAbs / v.natAbs.gcd u.natAbs) := Nat.coprime_div_gcd_div_gcd gp
    have k : ∀ {n : Nat}, v.natAbs ∣ n * u.natAbs → v.natAbs / v.natAbs.gcd u.natAbs ∣ n := fun {n} d => by
      refine cp.dvd_of_dvd_mul_right ?_
      obtain ⟨p, hp⟩ := Nat.gcd_dvd_left v.natAbs u.natAbs
      obtain ⟨q, hq⟩ := Nat.gcd_dvd_right v.natAbs u.natAbs
      have ep : v.natAbs / v.natAbs.gcd u.natAbs = p := Nat.div_eq_of_eq_mul_right gp hp
      have eq : u.natAbs / v.natAbs.gcd u.natAbs = q := Nat.div_eq_of_eq_mul_right gp hq
      rw [ep, eq]
      refine Nat.dvd_of_mul_dvd_mul_left gp ?_
      rw [← hp, Nat.mul_left_comm, ← hq]
      exact d
    exact c _ (k d1) (k d2) (k d3) (k d4)
  have dvu : v ∣ u := by
    refine Int.natAbs_dvd_natAbs.mp ?_
    have e := Nat.div_mul_cancel (Nat.gcd_dvd_left v.natAbs u.natAbs)
    rw [g1, Nat.one_mul] at e
    have := Nat.gcd_dvd_right v.natAbs u.natAbs
    rw [e] at this
    exact this
  obtain ⟨k, rfl⟩ := dvu
  have fin : ∀ {i j : Int}, i * (v * k) = j * v → j = i * k := fun {i j} e => by
    have : (j - i * k) * v = 0 := by grind
    have := (Int.mul_eq_zero.mp this).resolve_right v0
    omega
  exact ⟨k, fun z => u0 (by rw [z, Int.mul_zero]), fin h1, fin h2, fin h3, fin h4⟩
theorem cop_bd {f s : Q5} {n : Nat} (h : Prop5 f s) (c : Cop s) (d : s.d = 1) (hn : 1 ≤ n) (b : Bd n f) : Bd n s := by
  obtain ⟨k, k0, h1, h2, h3, h4⟩ := cop_le h c
  have le : ∀ {i j : Int}, j = i * k → j.natAbs < 2 ^ n → i.natAbs < 2 ^ n := fun {i j} e l => by
    rw [e, Int.natAbs_mul] at l
    exact Nat.lt_of_le_of_lt (Nat.le_mul_of_pos_right _ (Int.natAbs_pos.mpr k0)) l
  exact ⟨le h1 b.1, le h2 b.2.1, le h3 b.2.2.1, le h4 b.2.2.2.1, by rw [d]; exact Nat.one_lt_two_pow (by omega)⟩
theorem Wo.bd {CF CR : Addr} {H : Hp} {x al : Addr} {a b : Int} {e : Q5} {m n : Nat} (h : Wo CF CR H x al a b e m) (hb : Bd n e) : Wo CF CR H x al a b e n := let ⟨r, h1, h2, _⟩ := h.ex; ⟨⟨r, h1, h2, low5_bd h.d0 h2 hb⟩, h.d0⟩
end Sf

namespace Sf
open PySem PySem.Spec PyProof.Rows L2
theorem norm_nz {a b : Int} {m r : Q5} (hm : Low5 (prodQ a b r (mateQ r)) m) (rd : r.d ≠ 0) (h : m.w ≠ 0) : normT a b r ≠ 0 := fun z => by
  have e := hm.cross.1
  rw [norm_q] at e
  replace e : normT a b r * m.d = m.w * (r.d * r.d) := e
  rw [z, Int.zero_mul] at e
  exact Int.mul_ne_zero h (Int.mul_ne_zero rd rd) e.symm
section
variable {P : Program} {w : World} {K : PySem.W.Frag} {mg : Str → Option Value} {base : Heap} {f : Addr} {fd : FuncData} {CR CA CF CE : Addr}
structure RightP (vs : List V) (H : Hp) (Q : VK) : Prop where
  ex : ∃ (p : Addr) (n : Nat), vs = [.ref p] ∧ Sk p n H ∧ n ≤ 700000 ∧ ∀ (H' : Hp), Keep p H H' → Sk p (n + 60) H' → Q (.bl true) H'
def spRight : Sp := fun vs H Q _ => RightP vs H Q
set_option maxHeartbeats 16000000 in
theorem ok_right (F : FnD K "_law_right" "_law_right" s_L_right f fd) (T : Glob mg) (R : FourK K CF) (C_L_pair : Cal P w K mg base 4 "_law_pair" ["_law_bowl_here"] spLPair) (C_L_drawn : Cal P w K mg base 3 "_law_drawn" ["_law_bowl_here"] spDrawn) (C_L_norm : Cal P w K mg base 4 "_law_norm" ["_law_pair_here", "_law_one"] spLNorm)
    (C_L_is_due : Cal P w K mg base 4 "_law_is_due" ["_law_pair_here", "_law_table"] (spDue CR)) (C_L_near : Cal P w K mg base 10 "_law_near" ["_law_bowl_here", "_law_turn", "_law_other"] (spNear CR)) (C_L_odd : Cal P w K mg base 3 "_law_odd" ["_law_bowl_here", "_law_turn"] (spOdd CR)) (C_L_is_refused : Cal P w K mg base 15 "_law_is_refused" ["_law_algebra", "_law_table"] (spRef CF CR CA))
    (C_P_turn_of : Cal P w K mg base 12 "turn_of" ["four"] (spTurnOf CF CR CA)) (C_P_is_turn : Cal P w K mg base 12 "is_turn" ["algebra", "value"] (spIsTurn CF CR CA)) (C_P_four_of_turn : Cal P w K mg base 14 "four_of_turn" ["algebra", "table"] (calmSp (spFot CF CR CA CE)))
    (N_Algebra_2 : CalC P w K mg base 6 "Algebra" CA ["self", "a", "b"] [] (spAlgInit CA)) (N_Four_3 : CalC P w K mg base 7 "Four" CF ["self", "algebra", "entries", "bottom"] [] (spFourInit CF CR CA))
    (O_Ratio : OwnK K CR) (O_Four : OwnK K CF) (M_Ratio_eq : CalM P w K mg base 2 "__eq__" CR ["self", "value"] (spRatEq CR)) (M_Four_mul : CalM P w K mg base 10 "__mul__" CF ["self", "other"] (spFourOp CF CR CA prodQ)) (M_Four_inverse : CalM P w K mg base 10 "inverse" CF ["self"] (spInverse CF CR CA)) (M_Four_bool : CalM P w K mg base 1 "__bool__" CF ["self"] (spFourBool CF CR)) :
    FnOk P w K mg base CX0 16 f fd ["_law_bowl_here"] spRight := by
  refine F.ok sc_L_right (fun vs H Q E h => ?_) (fun cdv A outer s H vs Q E hr h => ?_)
  · obtain ⟨p, n, rfl, _⟩ := h.ex; rfl
  · obtain ⟨p, n, rfl, hs, hn, q⟩ := h.ex
    refine ⟨_, PSs.nox (pss_cons (ps_par3 (i := 1) (j := 2) (l := 3) (by rfl) sc_L_right.nd rfl rfl rfl (by decide) (by decide) (by decide) rfl rfl rfl (pa_cons (pe_cal C_L_pair (hr.mono (by decide)) (pa_cons (pv 0) pa_nil)) (pa_cons (pe_cal C_L_drawn (hr.mono (by decide)) (pa_cons (pv 0) pa_nil)) (pa_cons (pe_cal C_L_drawn (hr.mono (by decide)) (pa_cons (pv 0) pa_nil)) pa_nil))) (by rfl))
      (pss_cons (ps_set (i := 2) sc_L_right.nd rfl (Or.inl rfl) (pe_cut (pe_ifExp (pt_cmp (pc_neI (pe_ix ix_tup (pe_cal C_L_norm (hr.mono (by decide)) (pa_cons (pv 1) (pa_cons (pv 2) pa_nil))) pe_int (fun _ _ => rfl)) pe_int)) (pv 2) (pe_tup (pa_cons (pe_tup (pa_cons pe_int (pa_cons pe_int (pa_cons pe_int (pa_cons pe_int pa_nil))))) (pa_cons pe_int pa_nil))))))
      (pss_cons (ps_set (i := 3) sc_L_right.nd rfl (Or.inl rfl) (pe_cut (pe_ifExp (pt_cmp (pc_neI (pe_ix ix_tup (pe_cal C_L_norm (hr.mono (by decide)) (pa_cons (pv 1) (pa_cons (pv 3) pa_nil))) pe_int (fun _ _ => rfl)) pe_int)) (pv 3) (pe_tup (pa_cons (pe_tup (pa_cons pe_int (pa_cons pe_int (pa_cons pe_int (pa_cons pe_int pa_nil))))) (pa_cons pe_int pa_nil))))))
      (pss_cons (ps_set (i := 4) sc_L_right.nd rfl (Or.inl rfl) (pe_new N_Algebra_2 (hr.mono (by decide)) (pa_cons (pe_ix ix_tup (pv 1) pe_int (fun _ _ => rfl)) (pa_cons (pe_ix ix_tup (pv 1) pe_int (fun _ _ => rfl)) pa_nil))))
      (pss_cons (ps_par (i := 5) (j := 6) (by rfl) sc_L_right.nd rfl rfl (by decide) rfl rfl (pa_cons (pe_new N_Four_3 (hr.mono (by decide)) (pa_cons (pv 4) (pa_cons (pe_ix ix_tup (pv 2) pe_int (fun _ _ => rfl)) (pa_cons (pe_ix ix_tup (pv 2) pe_int (fun _ _ => rfl)) pa_nil)))) (pa_cons (pe_new N_Four_3 (hr.mono (by decide)) (pa_cons (pv 4) (pa_cons (pe_ix ix_tup (pv 3) pe_int (fun _ _ => rfl)) (pa_cons (pe_ix ix_tup (pv 3) pe_int (fun _ _ => rfl)) pa_nil)))) pa_nil)) (by rfl))
      (pss_cons (ps_par (i := 7) (j := 8) (by rfl) sc_L_right.nd rfl rfl (by decide) rfl rfl (pa_cons (pe_cal C_P_turn_of (hr.mono (by decide)) (pa_cons (pv 5) pa_nil)) (pa_cons (pe_cal C_P_turn_of (hr.mono (by decide)) (pa_cons (pv 6) pa_nil)) pa_nil)) (by rfl))
      (pss_cons (ps_if (PW.pt (pw_or (pt_not (pt_val (pe_cal C_P_is_turn (hr.mono (by decide)) (pa_cons (pv 4) (pa_cons (pv 7) pa_nil))))) (pw_or1 (pt_not (pt_val (pe_cal C_L_is_due (hr.mono (by decide)) (pa_cons (pv 1) (pa_cons (pv 7) pa_nil)))))))) (pss_one (ps_ret pe_bl)) pss_nil)
      (pss_cons (ps_set (i := 9) sc_L_right.nd rfl (Or.inl rfl) (pe_cal C_P_four_of_turn (hr.mono (by decide)) (pa_cons (pv 4) (pa_cons (pv 7) pa_nil))))
      (pss_cons (ps_if (PW.pt (pw_or (pt_not (pt_val (pe_fld (pe_op (op_own (M_Four_mul.me.cast (by decide +kernel)) M_Four_mul.ok (hr.mono (by decide)) M_Four_mul.b pass0 O_Four.sf) (pv 9) (pe_meth0 (pv 5) O_Four.cls M_Four_inverse.me M_Four_inverse.ok (hr.mono (by decide)) M_Four_inverse.b .nil pass0)) rfl))) (pw_or (pt_cmpR (op_tabN M_Ratio_eq.me M_Ratio_eq.ok M_Ratio_eq.b pass0 (hr.mono (by decide))) (pe_cal C_P_turn_of (hr.mono (by decide)) (pa_cons (pv 9) pa_nil)) (pv 7) (nomark _)) (pw_or1 (pt_not (pt_val (pe_callTy (bool_own M_Four_bool.me M_Four_bool.ok (hr.mono (by decide)) M_Four_bool.b pass0) (by rfl) T.m_bool (by decide +kernel) (pa_cons (pv 9) pa_nil)))))))) (pss_one (ps_ret pe_bl)) pss_nil)
      (pss_cons (ps_for PassesOwn.never rfl (pi_range1 (by rfl) T.m_range (pa_cons pe_int pa_nil)) (pg_name (i := 10) sc_L_right.nd rfl (Or.inl rfl)) (pss_cons (ps_set (i := 11) sc_L_right.nd rfl (Or.inl rfl) (pe_cal C_L_near (hr.mono (by decide)) (pa_cons (pv 0) (pa_cons (pv 7) (pa_cons (pv 8) pa_nil)))))
      (pss_cons (ps_set (i := 12) sc_L_right.nd rfl (Or.inl rfl) (pe_cal C_L_is_due (hr.mono (by decide)) (pa_cons (pv 1) (pa_cons (pv 11) pa_nil))))
      (pss_one (ps_if (PW.pt (pw_or (pt_cmpR op_ne (pe_cal C_P_is_turn (hr.mono (by decide)) (pa_cons (pv 4) (pa_cons (pv 11) pa_nil))) (pv 12) (nomark _)) (pw_or1 (pt_cmpR op_eq (pv 12) (pe_cal C_L_is_refused (hr.mono (by decide)) (pa_cons (pv 4) (pa_cons (pv 11) pa_nil))) (nomark _))))) (pss_one (ps_ret pe_bl)) pss_nil)))))
      (pss_cons (ps_set (i := 13) sc_L_right.nd rfl (Or.inl rfl) (pe_cal C_L_odd (hr.mono (by decide)) (pa_cons (pv 0) (pa_cons (pv 7) pa_nil))))
      (pss_one (ps_ret (pe_and (pe_not (pe_cal C_P_is_turn (hr.mono (by decide)) (pa_cons (pv 4) (pa_cons (pv 13) pa_nil)))) (pe_one (pe_cal C_L_is_refused (hr.mono (by decide)) (pa_cons (pv 4) (pa_cons (pv 13) pa_nil)))))))))))))))))), ?_⟩
    refine ⟨_, rfl, ⟨p, n, rfl, hs, by omega, fun a b t H1 a0 b0 a1 b1 k1 s1 ht => ⟨_, rfl, ⟨p, n + 7, rfl, s1, by omega, fun P1 v1 H2 nP eP k2 s2 l1 => ⟨_, rfl, ⟨p, n + 7 + 7, rfl, s2, by omega, fun P2 v2 H3 nQ eQ k3 s3 l2 => ⟨_, _, _, rfl, ?_⟩⟩⟩⟩⟩⟩⟩
    have ba : a.natAbs < 2 ^ 10 := by omega
    have bb : b.natAbs < 2 ^ 10 := by omega
    have ba2 : a.natAbs < 2 ^ 20 := by omega
    have bb2 : b.natAbs < 2 ^ 20 := by omega
    have ht3 := keep_at s1 (k2.trans k3) ht (fun _ => HO.noConfusion)
    replace l1 := l1.keep s2 k3
    have k13 := (k1.trans k2).trans k3
    clear k1 k2 k3 s1 s2 ht
    have dP := nP.1
    have dQ := nQ.1
    refine ⟨fun v H' => ∃ r, LF H' v r ∧ Nrm r ∧ EB 41 3 r ∧ normT a b r ≠ 0 ∧ Same H3 H', ⟨_, rfl, _, rfl, ⟨t, a, b, v1, P1, rfl, ht3, l1, ba, bb, eP, by omega, fun m u H4 hm s4 hu => ⟨u, _, 0, .int m.w, rfl, rfl, SqT.of hu, rfl, _, _, rfl, rfl, _, rfl, ifn (fun c => ?_) (fun c => ?_)⟩⟩⟩, fun v1' H4 hM => ?_⟩
    · exact ⟨_, rfl, P1, l1.same s4, nP, eP, norm_nz hm (by omega) c, s4⟩
    · refine ⟨(by show 4 ≤ sizeLine; decide), fun e he => ⟨(by show 2 ≤ sizeLine; decide), fun c hc => ⟨⟨0, 1, 0, 0, 1⟩, ⟨c, e, rfl, upd_same, by rw [upd_ne (ne_of_none upd_same hc), upd_same]; rfl⟩, ⟨by decide, by decide⟩, ⟨by decide, by decide, by decide, by decide, by decide⟩, ?_, ((s4.trans (same_upd he)).trans (same_upd hc))⟩⟩⟩
      unfold normT
      dsimp only
      omega
    clear l1 nP eP dP
    obtain ⟨P1, l1, nP, eP, zP, s4⟩ := hM
    replace ht3 := s4 _ _ ht3
    replace l2 := l2.same s4
    replace s3 := s3.same s4
    replace k13 := k13.trans (Keep.same s4)
    clear s4 H3
    refine ⟨fun v H' => ∃ r, LF H' v r ∧ Nrm r ∧ EB 41 3 r ∧ normT a b r ≠ 0 ∧ Same H4 H', ⟨_, rfl, _, rfl, ⟨t, a, b, v2, P2, rfl, ht3, l2, ba, bb, eQ, by omega, fun m u H5 hm s5 hu => ⟨u, _, 0, .int m.w, rfl, rfl, SqT.of hu, rfl, _, _, rfl, rfl, _, rfl, ifn (fun c => ?_) (fun c => ?_)⟩⟩⟩, fun v2' H5 hM => ?_⟩
    · exact ⟨_, rfl, P2, l2.same s5, nQ, eQ, norm_nz hm (by omega) c, s5⟩
    · refine ⟨(by show 4 ≤ sizeLine; decide), fun e he => ⟨(by show 2 ≤ sizeLine; decide), fun c hc => ⟨⟨0, 0, 1, 0, 1⟩, ⟨c, e, rfl, upd_same, by rw [upd_ne (ne_of_none upd_same hc), upd_same]; rfl⟩, ⟨by decide, by decide⟩, ⟨by decide, by decide, by decide, by decide, by decide⟩, ?_, ((s5.trans (same_upd he)).trans (same_upd hc))⟩⟩⟩
      unfold normT
      dsimp only
      omega
    clear l2 nQ eQ dQ
    obtain ⟨P2, l2, nQ, eQ, zQ, s5⟩ := hM
    replace ht3 := s5 _ _ ht3
    replace l1 := l1.same s5
    replace s3 := s3.same s5
    replace k13 := k13.trans (Keep.same s5)
    clear s5 H4
    have d1 := nP.1
    have d2 := nQ.1
    have bP : Bd 41 P1 := eP.bd (by decide) (by decide)
    have bQ : Bd 41 P2 := eQ.bd (by decide) (by decide)
    have w60 : (2 : Nat) ^ 199 < 10 ^ 60 := by decide +kernel
    have t60 : ∀ {i : Int}, i.natAbs < 2 ^ 199 → i.natAbs < 10 ^ 60 := fun h => Nat.lt_trans h w60
    have pass : ∀ {q : Q5}, Bd 41 q → Pass60 q := fun h => ⟨t60 (lt_mono h.1 (by decide)), t60 (lt_mono h.2.1 (by decide)), t60 (lt_mono h.2.2.1 (by decide)), t60 (lt_mono h.2.2.2.1 (by decide)), t60 (lt_mono h.2.2.2.2 (by decide))⟩
    refine ⟨_, rfl, t, _, 0, .int a, rfl, rfl, SqT.of ht3, rfl, _, rfl, t, _, 1, .int b, rfl, rfl, SqT.of ht3, rfl, fun al dal hal hdal nda => new_alg a0 b0 (by omega) (by omega) hal hdal nda fun H6 e4 hA => ⟨rfl, ?_⟩⟩
    replace l2 := l2.same e4
    replace ht3 := e4 _ _ ht3
    obtain ⟨t1, e1, rfl, g1, u1⟩ := id (l1.same e4)
    refine ⟨_, rfl, _, rfl, t1, _, 0, .ref e1, rfl, rfl, SqT.of g1, rfl, _, rfl, t1, _, 1, .int P1.d, rfl, rfl, SqT.of g1, rfl, fun x1 dx1 hx1 hdx1 nd1 => new_four (p := P1) hA u1 (by omega) (pass bP) (bd_mono bP (by decide)) (fun r hr => bd_mono (low5_bd (by omega) hr bP) (by decide)) hx1 hdx1 nd1 fun r1 H7 hr1 e5 f1 => ⟨rfl, ?_⟩⟩
    have q1 := low_self nP hr1
    subst q1
    obtain ⟨t2, e2, rfl, g2, u2⟩ := id (l2.same e5)
    refine ⟨_, rfl, _, rfl, t2, _, 0, .ref e2, rfl, rfl, SqT.of g2, rfl, _, rfl, t2, _, 1, .int P2.d, rfl, rfl, SqT.of g2, rfl, fun x2 dx2 hx2 hdx2 nd2 => new_four (p := P2) (hA.same e5) u2 (by omega) (pass bQ) (bd_mono bQ (by decide)) (fun r hr => bd_mono (low5_bd (by omega) hr bQ) (by decide)) hx2 hdx2 nd2 fun r2 H8 hr2 e6 f2 => ⟨rfl, ?_⟩⟩
    have q2 := low_self nQ hr2
    subst q2
    refine ⟨_, _, rfl, ?_⟩
    have e56 := e5.trans e6
    replace hA := hA.same e56
    have w1 := Wo.of (f1.same e6) bP
    have w2 := Wo.of f2 bQ
    have hpr := e56 _ _ ht3
    have K8 : Keep p H H8 := (k13.trans (Keep.same e4)).trans (Keep.same e56)
    have S8 := (s3.same e4).same e56
    clear u1 u2 g1 g2 f1 f2 l2 l1 ht3 hr1 hr2 e56 e4 e5 e6 k13 s3 hs
    refine ⟨_, rfl, ⟨x1, al, a, b, r1, 41, rfl, hA, ba, bb, w1, by decide, zP, fun T1 H9 s9 tab1 => ⟨_, rfl, ⟨x2, al, a, b, r2, 41, rfl, hA.same s9, ba, bb, w2.same s9, by decide, zQ, fun T2 H10 s10 tab2 => ⟨_, _, rfl, ?_⟩⟩⟩⟩⟩
    have lc1 := like_clo (a := a) (b := b) (f := r1) zP
    have trn := like_trn lc1 (by omega) zP
    have bw1 := clo_bw (a := a) (b := b) ba bb eP
    have bw2 := clo_bw (a := a) (b := b) ba bb eQ
    have s810 := s9.trans s10
    replace hA := hA.same s810
    replace w1 := w1.same s810
    replace hpr := s810 _ _ hpr
    replace tab1 := tab1.same s10
    replace K8 := K8.trans (Keep.same s810)
    replace S8 := S8.same s810
    clear w2 s810 s9 s10
    -- the turn is judged a turn
    refine ⟨_, rfl, _, rfl, ⟨al, a, b, .ref T1, rfl, hA, ba, bb, .inr ⟨T1, cloM a b r1, 127, rfl, tab1.turn lc1, bw1, by decide, fun r H11 s11 hr11 => ?_⟩⟩⟩
    have er : r = true := hr11.mpr trn
    subst er
    refine ⟨_, rfl, iteF ⟨_, rfl, _, rfl, ⟨t, T1, a, b, cloM a b r1, 127, rfl, s11 _ _ hpr, ba, bb, (tab1.turn lc1).same s11, bw1, by decide, clo_col ba bb eP zP, fun r H12 s12 hr12 => ?_⟩⟩⟩
    have er : r = true := hr12.mpr (due_iff.mpr trn)
    subst er
    refine ⟨_, rfl, iteF ?_⟩
    have s1112 := s11.trans s12
    replace hA := hA.same s1112
    replace w1 := w1.same s1112
    replace hpr := s1112 _ _ hpr
    replace tab1 := tab1.same s1112
    replace tab2 := tab2.same s1112
    replace K8 := K8.trans (Keep.same s1112)
    replace S8 := S8.same s1112
    clear s1112 s11 s12 hr11 hr12
    -- the four that is told
    refine ⟨_, rfl, _, rfl, ⟨al, a, b, .ref T1, rfl, hA, ba, bb, .inr ⟨T1, cloM a b r1, 127, rfl, tab1.turn lc1, bw1, by decide, by decide, fun c => absurd trn c, fun _ => ⟨fot_nz a0 b0 fun j hj => like_d lc1 (j + 1) (by omega), fun j s z H13 s13 hj nz pr sd nzs cop wz => ?_⟩⟩⟩⟩
    have pfs : Prop5 r1 s := prop_trans (fot_prop (like_im lc1) (like_d lc1) (by omega) zP a0 b0 hj nz) pr
    have wz41 := wz.bd (cop_bd pfs cop sd (by decide) bP)
    have nzS : normT a b s ≠ 0 := (prop_trn pfs zP 0).2
    replace hA := hA.same s13
    replace w1 := w1.same s13
    replace hpr := s13 _ _ hpr
    replace tab1 := tab1.same s13
    replace tab2 := tab2.same s13
    replace K8 := K8.trans (Keep.same s13)
    replace S8 := S8.same s13
    clear s13 wz nz pr
    obtain ⟨dx, e1, tr, nm, rr, g1, _⟩ := w1.fld
    refine ⟨_, rfl, _, rfl, x1, dx, _, rfl, g1, rfl, wo_inverse ba bb hA w1 (by decide) zP fun zi H14 s14 wi => wo_mul ba2 bb2 (hA.same s14) (wz41.same s14) wi (by decide) (by decide) fun zm H15 s15 wm => ?_⟩
    obtain ⟨dm, em, trm, nmm, rm, gm, _, lm, _⟩ := wm.fld
    obtain ⟨px, py, pz⟩ := prop_ratio (a := a) (b := b) pfs
    have z0 : ∀ {i j : Int}, i = 0 → i * rm.d = j * (prodQ a b s (invQ a b r1)).d → j = 0 := fun {i j} h e => by
      rw [h, Int.zero_mul] at e
      exact (Int.mul_eq_zero.mp e.symm).resolve_right wm.d0
    have zz : decide (rm.x = 0 ∧ rm.y = 0 ∧ rm.z = 0) = true := decide_eq_true ⟨z0 px lm.cross.2.1, z0 py lm.cross.2.2.1, z0 pz lm.cross.2.2.2⟩
    rw [zz] at gm
    refine ⟨zm, CF, dm, _, .bl true, rfl, gm, R.own.cls, R.n6, rfl, _, rfl, iteF ?_⟩
    have s1415 := s14.trans s15
    replace hA := hA.same s1415
    replace wz41 := wz41.same s1415
    replace hpr := s1415 _ _ hpr
    replace tab1 := tab1.same s1415
    replace tab2 := tab2.same s1415
    replace K8 := K8.trans (Keep.same s1415)
    replace S8 := S8.same s1415
    clear s1415 s14 s15 wi wm gm lm g1 w1 zz z0
    refine ⟨_, rfl, ⟨z, al, a, b, s, 41, rfl, hA, ba, bb, wz41, by decide, nzS, fun T3 H16 s16 tab3 => ?_⟩⟩
    refine ⟨_, rfl, T3, T1, _, _, rfl, rfl, tab3, tab1.same s16, fun r H17 hr17 s17 => ?_⟩
    have er : r = true := hr17.mpr fun i j hi hj => ent_cross (prop_trn pfs zP j).1 (by omega)
    subst er
    refine ⟨_, rfl, iteF ?_⟩
    have s1617 := s16.trans s17
    replace hA := hA.same s1617
    replace wz41 := wz41.same s1617
    replace hpr := s1617 _ _ hpr
    replace tab1 := tab1.same s1617
    replace tab2 := tab2.same s1617
    replace K8 := K8.trans (Keep.same s1617)
    replace S8 := S8.same s1617
    clear s1617 s16 s17 tab3 hr17
    obtain ⟨rz, fz, lz, _⟩ := wz41.ex
    refine ⟨_, rfl, z, rfl, fz.ins, ⟨z, al, a, b, rz, rfl, fz, true, ⟨fun _ => (nz_low lz wz41.d0).mpr nzs, fun _ => rfl⟩, ⟨true, rfl, _, rfl, iteF ?_⟩⟩⟩
    -- three tables near
    refine ⟨3, rfl, by decide, by decide, ?_⟩
    refine for_range (lo := 0) (n := 3) (fun i σ H' => ∃ o1 o2 o3, σ = [some (.ref p), some (.ref t), some (.ref t1), some (.ref t2), some (.ref al), some (.ref x1), some (.ref x2), some (.ref T1), some (.ref T2), some (.ref z), o1, o2, o3, none] ∧ Keep p H17 H' ∧ Sk p (n + 7 + 7 + 7 + 4 * i) H') ⟨none, none, none, rfl, Keep.refl _ _, S8⟩ ?_ ?_
    · rintro i σ H18 hi ⟨o1, o2, o3, rfl, k18, s18⟩
      have hA18 := hA.keep S8 k18
      have tb1 := (tab1.keep S8 k18).turn (like_clo2 zP)
      have tb2 := (tab2.keep S8 k18).turn (like_clo zQ)
      have hpr18 := keep_at S8 k18 hpr (fun _ => HO.noConfusion)
      have two : ∀ {i : Int}, i.natAbs < 2 ^ 127 → (2 * i).natAbs < 2 ^ 128 := fun {i} h => by
        rw [Int.natAbs_mul]
        have : (2 : Nat) ^ 128 = 2 * 2 ^ 127 := by decide
        show 2 * i.natAbs < _
        omega
      refine ⟨_, rfl, _, rfl, _, rfl, ⟨p, T1, T2, n + 7 + 7 + 7 + 4 * i, fun i j => 2 * tE a b r1 i j, fun i j => tE a b r2 i j, 2 * normT a b r1, normT a b r2, rfl, s18, by omega, tb1, tb2, ⟨_, rfl⟩, by omega, zQ, two (bw1 0 0 (by decide) (by decide)).2, lt_mono (bw2 0 0 (by decide) (by decide)).2 (by decide), fun i j hi hj => two (bw1 i j hi hj).1, fun i j hi hj => lt_mono (bw2 i j hi hj).1 (by decide), fun z3 H19 e' D' k19 s19 tb3 dz bz be => ?_⟩⟩
      have hA19 := hA18.keep s18 k19
      have hpr19 := keep_at s18 k19 hpr18 (fun _ => HO.noConfusion)
      have bw3 : ∀ i j, i < 3 → j < 3 → Bw 130 ((fun i j => (e' i j, D')) i j) := fun i j hi hj => ⟨be i j hi hj, bz⟩
      have oned := one_den (D := D') (e := e') dz (fun i j hi hj => lt_mono (be i j hi hj) (by decide)) (lt_mono bz (by decide))
      have cd3 : ∀ j, j < 3 → (colM (fun i j => (e' i j, D')) j).d ≠ 0 := fun j hj => Int.mul_ne_zero (Int.mul_ne_zero dz dz) dz
      refine ⟨_, rfl, _, rfl, ⟨t, z3, a, b, (fun i j => (e' i j, D')), 130, rfl, hpr19, ba, bb, tb3, bw3, by decide, oned, fun due H20 s20 hr20 => ?_⟩⟩
      refine ⟨_, rfl, _, rfl, ⟨al, a, b, .ref z3, rfl, hA19.same s20, ba, bb, .inr ⟨z3, (fun i j => (e' i j, D')), 130, rfl, tb3.same s20, bw3, by decide, fun r21 H21 s21 hr21 => ?_⟩⟩⟩
      have er : r21 = due := by rw [Bool.eq_iff_iff, hr21, hr20, due_iff]
      subst er
      refine ⟨_, rfl, rfl, _, rfl, ?_⟩
      rw [decide_eq_true (rfl : V.bl r21 = V.bl r21)]
      refine iteF ?_
      refine ⟨_, rfl, _, rfl, _, rfl, ⟨al, a, b, .ref z3, rfl, (hA19.same s20).same s21, ba, bb, .inr ⟨z3, (fun i j => (e' i j, D')), 130, rfl, (tb3.same s20).same s21, bw3, by decide, by decide, fun _ => fot_nz a0 b0 cd3, fun r22 H22 s22 hr22 => ?_⟩⟩⟩
      have er : r22 = !r21 := by
        rw [Bool.eq_iff_iff, hr22, ← hr21]
        cases r21 <;> simp
      subst er
      refine ⟨rfl, _, rfl, ?_⟩
      have nn : ¬ V.bl r21 = V.bl (!r21) := fun z => by
        cases r21 <;> cases z
      rw [decide_eq_false nn]
      refine iteF ?_
      exact ⟨_, _, _, rfl, ((k18.trans k19).trans (Keep.same s20)).trans ((Keep.same s21).trans (Keep.same s22)), (((s19.same s20).same s21).same s22).mono (by omega)⟩
    · rintro σ H18 ⟨o1, o2, o3, rfl, k18, s18⟩
      have hA18 := hA.keep S8 k18
      refine ⟨_, rfl, _, rfl, ⟨p, T1, _, _, rfl, s18, by omega, tab1.keep S8 k18, fun v H19 k19 s19 tb => ?_⟩⟩
      have hA19 := hA18.keep s18 k19
      refine ⟨_, rfl, _, rfl, ⟨al, a, b, v, rfl, hA19, ba, bb, .inl ⟨tb, fun H20 s20 => ?_⟩⟩⟩
      refine ⟨_, rfl, _, rfl, ?_⟩
      refine ⟨_, rfl, _, rfl, ⟨al, a, b, v, rfl, hA19.same s20, ba, bb, .inl ⟨tb.same s20, fun H21 s21 => ?_⟩⟩⟩
      exact q H21 (((K8.trans k18).trans k19).trans ((Keep.same s20).trans (Keep.same s21))) (((s19.same s20).same s21).mono (by omega))
end
end Sf

namespace Sf
open PySem PySem.Spec PyProof.Rows L2
/-! len of a set of ints -/
section
variable {X : Cx}
def rLenSet (w : World) : List V → Hp → VK → Prop := fun xs H Q => ∃ (q : Addr) (S : Int → Bool) (n : Nat), xs = [.ref q] ∧ H q = some (SetO w q S n) ∧ ∀ ks : List Int, ks.Nodup → (∀ k, S k = true ↔ k ∈ ks) → Q (.int (ks.length : Nat)) H
theorem cr_lenSet : CallR X (.builtin "len") (rLenSet X.w) := by
  intro pins s σ H xs us Q I r h
  obtain ⟨q, S, n, rfl, hq, h⟩ := h
  rw [Vals.ref1 r]
  obtain ⟨o, es, ep, t, ho, hx, hd, hg, hn, hS, hb, hf, hz, hr, ht⟩ := setO_get I hq
  have hk := h (es.toList.map keyOf) hn hS
  rw [List.length_map, Array.length_toList] at hk
  exact call_len_set ho hx hd hf (by unfold scanBound at hb; omega) ⟨.int ((es.size : Nat) : Int), H, I.tok _, ⟨_, rfl⟩, hk⟩
end
end Sf

namespace Sf
open PySem PySem.Spec PyProof.Rows L2
theorem tail_cut (xs : List V) (n : Nat) (h : n ≤ xs.length) : cutV xs (some (n : Int)) none = xs.drop n := by
  unfold cutV
  rw [HT.sIx_nat, HT.sIx_none, Nat.min_eq_left h]
  exact List.take_of_length_le (by rw [List.length_drop]; omega)
theorem sl_from {K : PySem.W.Frag} {H : Hp} {a : Addr} {xs ys : List V} {n : Nat} {i : Int} {Q : VK} (h : H a = some (.tup xs)) (ei : i = (n : Int)) (n0 : 0 < n) (hn : n ≤ xs.length) (ey : xs.drop n = ys) (q : ∀ (p : Addr) (H' : Hp), Same H H' → H' p = some (.tup ys) → Q (.ref p) H') : rSlA K (.ref a) (some i) none H Q := by
  subst ei ey
  refine ⟨a, xs, rfl, SqT.of h, fun e => absurd e.1 (by rw [HT.sIx_nat, Nat.min_eq_left hn]; omega), fun _ p hp => q p _ (same_upd hp) (by rw [upd_same, tail_cut xs n hn])⟩
end Sf

namespace Sf
open PySem PySem.Spec PyProof.Rows L2
theorem new_rw {CR : Addr} {H : Hp} {t b : Int} {R : VK} {x dx : Addr} (b0 : b ≠ 0) (t1 : t.natAbs < 10 ^ 60) (b1 : b.natAbs < 10 ^ 60) (hx : H x = none) (hd : H dx = none) (nd : dx ≠ x) (q : ∀ (H' : Hp), Same H H' → Rw CR H' x t b → R .non H') :
    RatInitP CR [.ref x, .int t, .int b] (upd (upd H dx (.own x)) x (.ins CR dx [])) R := new_rat b0 t1 b1 hx hd nd fun t' b' H' hl s hR => q H' s ⟨⟨t', b', hR, hl⟩, b0⟩
theorem row_new {CR : Addr} {H : Hp} {m : Nat → Nat → Int × Int} {i : Nat} {r x0 x1 x2 : Addr} (h : H r = none) (h0 : Rw CR H x0 (m i 0).1 (m i 0).2) (h1 : Rw CR H x1 (m i 1).1 (m i 1).2) (h2 : Rw CR H x2 (m i 2).1 (m i 2).2) : RowOk CR (upd H r (.tup [.ref x0, .ref x1, .ref x2])) m i r ∧ Same H (upd H r (.tup [.ref x0, .ref x1, .ref x2])) := by
  have s := same_upd (o := .tup [V.ref x0, V.ref x1, V.ref x2]) h
  exact ⟨⟨x0, x1, x2, upd_same, h0.same s, h1.same s, h2.same s⟩, s⟩
/-- the table that changes nothing; i to j to k to i; such by other rows -/
def idM (i j : Nat) : Int × Int := (if i = j then 1 else 0, 1)
def cyM (i j : Nat) : Int × Int := (if i = (j + 1) % 3 then 1 else 0, 1)
def swM (i j : Nat) : Int × Int := (if (i = 0 ∧ j = 0) ∨ (i = 1 ∧ j = 2) ∨ (i = 2 ∧ j = 1) then 1 else 0, 1)
instance (p q : Q5) : Decidable (Cross p q) := by unfold Cross; infer_instance
theorem id_bw : ∀ i j, i < 3 → j < 3 → Bw 1 (idM i j) := fun i j _ _ => ⟨by unfold idM; dsimp only; split <;> decide, by show (1 : Int).natAbs < 2 ^ 1; decide⟩
theorem cy_bw : ∀ i j, i < 3 → j < 3 → Bw 1 (cyM i j) := fun i j _ _ => ⟨by unfold cyM; dsimp only; split <;> decide, by show (1 : Int).natAbs < 2 ^ 1; decide⟩
theorem sw_bw : ∀ i j, i < 3 → j < 3 → Bw 1 (swM i j) := fun i j _ _ => ⟨by unfold swM; dsimp only; split <;> decide, by show (1 : Int).natAbs < 2 ^ 1; decide⟩
theorem id_trn : IsTrn (-1) (-1) idM := ⟨by decide, by decide, by decide⟩
theorem cy_trn : IsTrn (-1) (-1) cyM := ⟨by decide, by decide, by decide⟩
theorem sw_trn : ¬ IsTrn (-1) (-1) swM := fun h => absurd h.z (by decide)
theorem cy_trn2 : ¬ IsTrn (-1) (-11) cyM := fun h => absurd h.x (by decide)
theorem id_fot : ∀ j, j < 4 → (fotS (-1) (-1) idM j).x = 0 ∧ (fotS (-1) (-1) idM j).y = 0 ∧ (fotS (-1) (-1) idM j).z = 0
  | 0, _ => by decide
  | 1, _ => by decide
  | 2, _ => by decide
  | 3, _ => by decide
  | j + 4, h => by omega
theorem cy_fot : ∀ j, j < 4 → (fotS (-1) (-1) cyM j).x.natAbs = (fotS (-1) (-1) cyM j).w.natAbs ∧ (fotS (-1) (-1) cyM j).y.natAbs = (fotS (-1) (-1) cyM j).w.natAbs ∧ (fotS (-1) (-1) cyM j).z.natAbs = (fotS (-1) (-1) cyM j).w.natAbs
  | 0, _ => by decide
  | 1, _ => by decide
  | 2, _ => by decide
  | 3, _ => by decide
  | j + 4, h => by omega
section
variable {P : Program} {w : World} {K : PySem.W.Frag} {mg : Str → Option Value} {base : Heap} {f : Addr} {fd : FuncData} {CR CA CF CE : Addr}
def spLaw (K : PySem.W.Frag) : Sp := fun vs H Q _ => ∃ (a : Addr) (ns : List Int), vs = [.ref a] ∧ SqL K H a (ns.map V.int) ∧ ns.length ≤ 63 ∧ ∀ H', Q (.bl true) H'
set_option maxHeartbeats 16000000 in
theorem ok_law (F : FnD K "law" "law" s_L_law f fd) (T : Glob mg) (R : FourK K CF) (C_L_bowl : Cal P w K mg base 1 "_law_bowl" ["_law_script", "_law_at"] (spSack K)) (C_L_right : Cal P w K mg base 16 "_law_right" ["_law_bowl_here"] spRight) (C_P_is_turn : Cal P w K mg base 12 "is_turn" ["algebra", "value"] (spIsTurn CF CR CA)) (C_P_four_of_turn : Cal P w K mg base 14 "four_of_turn" ["algebra", "table"] (calmSp (spFot CF CR CA CE)))
    (N_Algebra_2 : CalC P w K mg base 6 "Algebra" CA ["self", "a", "b"] [] (spAlgInit CA)) (N_Ratio_1 : CalC P w K mg base 3 "Ratio" CR ["self", "top", "bottom"] [.int 1] (spRatInit CR)) (O_Four : OwnK K CF) :
    FnOk P w K mg base CX0 17 f fd ["_law_script"] (spLaw K) := by
  refine F.ok sc_L_law (fun vs H Q E h => ?_) (fun cdv A outer s H vs Q E hr h => ?_)
  · obtain ⟨a, ns, rfl, _⟩ := h; rfl
  · obtain ⟨a, ns, rfl, hS, hl, q⟩ := h
    refine ⟨_, PSs.nox (pss_cons (ps_for PassesOwn.never rfl (pi_range1 (by rfl) T.m_range (pa_cons (pe_callB (call_max2 rfl) (by rfl) T.m_max (by decide +kernel) (pa_cons pe_int (pa_cons (pe_callB (call_min2 rfl) (by rfl) T.m_min (by decide +kernel) (pa_cons pe_int (pa_cons (pe_callB call_len_seq (by rfl) T.m_len (by decide +kernel) (pa_cons (pv 0) pa_nil)) pa_nil))) pa_nil))) pa_nil)) (pg_name (i := 1) sc_L_law.nd rfl (Or.inl rfl)) (pss_cons (ps_set (i := 2) sc_L_law.nd rfl (Or.inl rfl) (pe_cal C_L_bowl (hr.mono (by decide)) (pa_cons (pv 0) (pa_cons (pv 1) pa_nil))))
      (pss_one (ps_if (PW.pt (pw_or (pt_not (pt_val (pe_cal C_L_right (hr.mono (by decide)) (pa_cons (pv 2) pa_nil)))) (pw_or1 (pt_not (pt_val (pe_cal C_L_right (hr.mono (by decide)) (pa_cons (pv 2) pa_nil))))))) (pss_one (ps_ret pe_bl)) pss_nil))))
      (pss_cons (ps_set (i := 3) sc_L_law.nd rfl (Or.inl rfl) (pe_new N_Algebra_2 (hr.mono (by decide)) (pa_cons (pe_un un_neg pe_int) (pa_cons (pe_un un_neg pe_int) pa_nil))))
      (pss_cons (ps_set (i := 4) sc_L_law.nd rfl (Or.inl rfl) (pe_callTy call_tuple_of (by rfl) T.m_tuple (by decide +kernel) (pa_cons (pe_lc rfl sc_L_law.nd (own := [("_law_at", 1)]) (pi_range1 (by rfl) T.m_range (pa_cons pe_int pa_nil)) (blkOk_by (N := ["_law_script", "_law_at", "_law_bowl_here", "_law_algebra", "_law_idle", "_law_to", "_law_half", "_law_told", "_law_four", "_law_entry"]) (sc := defScope s_L_law) (by decide +kernel)) (fun _ _ _ _ _ => pg_name (i := 1) sc_L_law.nd rfl (Or.inr rfl)) (fun _ _ _ _ _ => pts_nil) (fun _ _ _ _ _ => (pe_callTy (call_tupK (K := K) rfl) (by rfl) T.m_tuple (by decide +kernel) (pa_cons (pe_lc rfl sc_L_law.nd (own := [("_law_to", 5)]) (pi_range1 (by rfl) T.m_range (pa_cons pe_int pa_nil)) (blkOk_by (by kernel_rfl)) (fun _ _ _ _ _ => pg_name (i := 5) sc_L_law.nd rfl (Or.inl rfl)) (fun _ _ _ _ _ => pts_nil) (fun _ _ _ _ _ => (pe_new N_Ratio_1 (hr.mono (by decide)) (pa_cons (pe_callTy call_int1 (by rfl) T.m_int (by decide +kernel) (pa_cons (pe_cmp (pc_eqI (pv 1) (pv 5)) rfl) pa_nil)) pa_nil)))) pa_nil)))) pa_nil)))
      (pss_cons (ps_set (i := 6) sc_L_law.nd rfl (Or.inl rfl) (pe_tup (pa_cons (pe_tup (pa_cons (pe_new N_Ratio_1 (hr.mono (by decide)) (pa_cons pe_int pa_nil)) (pa_cons (pe_new N_Ratio_1 (hr.mono (by decide)) (pa_cons pe_int pa_nil)) (pa_cons (pe_new N_Ratio_1 (hr.mono (by decide)) (pa_cons pe_int pa_nil)) pa_nil)))) (pa_cons (pe_tup (pa_cons (pe_new N_Ratio_1 (hr.mono (by decide)) (pa_cons pe_int pa_nil)) (pa_cons (pe_new N_Ratio_1 (hr.mono (by decide)) (pa_cons pe_int pa_nil)) (pa_cons (pe_new N_Ratio_1 (hr.mono (by decide)) (pa_cons pe_int pa_nil)) pa_nil)))) (pa_cons (pe_tup (pa_cons (pe_new N_Ratio_1 (hr.mono (by decide)) (pa_cons pe_int pa_nil)) (pa_cons (pe_new N_Ratio_1 (hr.mono (by decide)) (pa_cons pe_int pa_nil)) (pa_cons (pe_new N_Ratio_1 (hr.mono (by decide)) (pa_cons pe_int pa_nil)) pa_nil)))) pa_nil)))))
      (pss_cons (ps_set (i := 7) sc_L_law.nd rfl (Or.inl rfl) (pe_lst (pa_cons (pe_fld (pe_cal C_P_four_of_turn (hr.mono (by decide)) (pa_cons (pv 3) (pa_cons (pv 4) pa_nil))) rfl) (pa_cons (pe_cal C_P_is_turn (hr.mono (by decide)) (pa_cons (pv 3) (pa_cons (pv 6) pa_nil))) (pa_cons (pe_cal C_P_is_turn (hr.mono (by decide)) (pa_cons (pv 3) (pa_cons (pe_op op_catA (pe_slice sl_tupA (pv 6) (po_some pe_int) po_none) (pe_slice sl_tupA (pv 6) po_none (po_some pe_int))) pa_nil))) pa_nil)))))
      (pss_cons (ps_set (i := 7) sc_L_law.nd rfl (Or.inl rfl) (pe_op op_cat (pv 7) (pe_lst (pa_cons (pe_cal C_P_is_turn (hr.mono (by decide)) (pa_cons (pv 3) (pa_cons (pe_tup (pa_cons (pe_ix ix_tup (pv 6) pe_int (fun _ _ => rfl)) (pa_cons (pe_ix ix_tup (pv 6) pe_int (fun _ _ => rfl)) (pa_cons (pe_ix ix_tup (pv 6) pe_int (fun _ _ => rfl)) pa_nil)))) pa_nil))) (pa_cons (pe_cal C_P_is_turn (hr.mono (by decide)) (pa_cons (pe_new N_Algebra_2 (hr.mono (by decide)) (pa_cons (pe_un un_neg pe_int) (pa_cons (pe_un un_neg pe_int) pa_nil))) (pa_cons (pv 6) pa_nil))) pa_nil)))))
      (pss_cons (ps_set (i := 8) sc_L_law.nd rfl (Or.inl rfl) (pe_cal C_P_four_of_turn (hr.mono (by decide)) (pa_cons (pv 3) (pa_cons (pv 6) pa_nil))))
      (pss_one (ps_ret (pe_and (pe_cmpR (op_eqD hr.units) (pv 7) (pe_lst (pa_cons pe_bl (pa_cons pe_bl (pa_cons pe_bl (pa_cons pe_bl (pa_cons pe_bl pa_nil)))))) (nomark _)) (pe_one (pe_cmp (pc_eqI (pe_callB cr_lenSet (by rfl) T.m_len (by decide +kernel) (pa_cons (pe_callTy (cr_setL rfl) (by rfl) T.m_set (by decide +kernel) (pa_cons (pe_lc rfl sc_L_law.nd (own := [("_law_entry", 9)]) (pi_tup (pe_fld (pv 8) rfl)) (blkOk_by (N := ["_law_script", "_law_at", "_law_bowl_here", "_law_algebra", "_law_idle", "_law_to", "_law_half", "_law_told", "_law_four", "_law_entry"]) (sc := defScope s_L_law) (by decide +kernel)) (fun _ _ _ _ _ => pg_name (i := 9) sc_L_law.nd rfl (Or.inl rfl)) (fun _ _ _ _ _ => pts_nil) (fun _ _ _ _ _ => (pe_callB call_abs (by rfl) T.m_abs (by decide +kernel) (pa_cons (pv 9) pa_nil)))) pa_nil)) pa_nil)) pe_int) rfl)))))))))))), ?_⟩
    have hT : ∀ n : Nat, ∃ t : Nat, (if (if (n : Int) < 3 then (n : Int) else 3) > 1 then (if (n : Int) < 3 then (n : Int) else 3) else 1) = (t : Int) ∧ t ≤ 3 := fun n => by
      by_cases c : n < 3
      · by_cases c2 : n > 1
        · exact ⟨n, by rw [if_pos (by omega : (n : Int) < 3), if_pos (by omega)], by omega⟩
        · exact ⟨1, by rw [if_pos (by omega : (n : Int) < 3), if_neg (by omega)]; rfl, by omega⟩
      · exact ⟨3, by rw [if_neg (by omega : ¬ (n : Int) < 3), if_pos (by decide)]; rfl, by omega⟩
    obtain ⟨t, et, ht⟩ := hT (ns.map V.int).length
    refine ⟨_, rfl, a, _, rfl, .inl hS, _, _, rfl, _, _, rfl, (t : Int), ?_, by omega, by omega, ?_⟩
    · rw [← et]
    refine for_range (lo := 0) (n := t) (fun i σ H' => ∃ v1 v2, σ = [some (.ref a), v1, v2, none, none, none, none, none, none, none] ∧ Same H H') ⟨none, none, rfl, Same.refl H⟩ ?_ ?_
    · rintro i σ H0 hi ⟨v1, v2, rfl, hs0⟩
      refine ⟨_, rfl, _, rfl, a, ns, i, by rw [Int.zero_add]; rfl, hs0.seq hS, hl, by omega, fun p xs H1 e1 hpn hp1 hxs => ?_⟩
      have s1 : Sk p 0 H1 := ⟨xs, hp1, hxs⟩
      refine ⟨_, rfl, ⟨p, 0, rfl, s1, by decide, fun H2 k2 s2 => ⟨_, rfl, iteF ⟨_, rfl, ⟨p, 60, rfl, s2, by decide, fun H3 k3 s3 => ⟨_, rfl, iteF ?_⟩⟩⟩⟩⟩⟩
      refine ⟨_, _, rfl, fun b o e => ?_⟩
      have e1' := e1 _ _ (hs0 _ _ e)
      have nb : b ≠ p := fun z => by
        rw [z] at e
        have := hs0 _ _ e
        rw [hpn] at this
        cases this
      exact k3 _ _ (k2 _ _ e1' nb) nb
    · rintro σ H0 ⟨v1, v2, rfl, hs0⟩
      refine ⟨1, rfl, 1, rfl, fun al dal hal hdal nda => new_alg (by decide) (by decide) (by decide) (by decide) hal hdal nda fun H1 e1 hA => ⟨rfl, ?_⟩⟩
      have o60 : ∀ {i : Int}, i.natAbs ≤ 1 → i.natAbs < 10 ^ 60 := fun h => Nat.lt_of_le_of_lt h (by decide +kernel)
      refine ⟨3, rfl, by decide, by decide, fun D hD => gat_range (lo := 0) (n := 3) (PzT CR idM) (fun _ _ => True) hD (by decide) pzT_st (fun i H2 hi hs hd Rc N k => ⟨rfl, ?_⟩) (fun us H2 c => ?_)⟩
      · refine ⟨3, rfl, by decide, by decide, fun D3 hD3 => gat_range (lo := 0) (n := 3) (PzX CR idM i) (fun _ _ => True) hD3 (by decide) pzX_st (fun j H3 hj hs3 hd3 Rc N k3 => ⟨rfl, ?_⟩) (fun ws H3 c => ?_)⟩
        · have ei : (if decide ((0 : Int) + (i : Nat) = 0 + (j : Nat)) = true then 1 else 0 : Int) = (idM i j).1 := by
            unfold idM
            dsimp only
            by_cases c : i = j
            · rw [if_pos c, if_pos (by simp [c])]
            · rw [if_neg c, if_neg (by simp; omega)]
          have b1 : (idM i j).1.natAbs ≤ 1 := by unfold idM; dsimp only; split <;> decide
          refine ⟨_, rfl, _, rfl, _, _, rfl, rfl, .inr ⟨_, rfl, fun x dx hx hdx nd => new_rw (t := if decide ((0 : Int) + (i : Nat) = 0 + (j : Nat)) = true then 1 else 0) (b := 1) (by decide) (o60 (by rw [ei]; exact b1)) (by decide +kernel) hx hdx nd fun H4 s4 w4 => ⟨rfl, k3 _ _ s4 ⟨x, rfl, by rw [ei] at w4; exact w4⟩ fun _ _ _ => trivial⟩⟩⟩
        · obtain ⟨y0, y1, y2, rfl⟩ := three_ys c.len
          obtain ⟨r0, rfl, h0⟩ := c.one 0 y0 rfl
          obtain ⟨r1, rfl, h1⟩ := c.one 1 y1 rfl
          obtain ⟨r2, rfl, h2⟩ := c.one 2 y2 rfl
          refine ⟨D3, _, rfl, .inl ⟨SqL.of c.at_, fun t5 ht5 => ?_⟩⟩
          obtain ⟨ro, s5⟩ := row_new (m := idM) (i := i) ht5 h0 h1 h2
          exact k _ _ (c.same.trans s5) ⟨t5, rfl, ro⟩ fun _ _ _ => trivial
      obtain ⟨y0, y1, y2, rfl⟩ := three_ys c.len
      obtain ⟨r0, rfl, h0⟩ := c.one 0 y0 rfl
      obtain ⟨r1, rfl, h1⟩ := c.one 1 y1 rfl
      obtain ⟨r2, rfl, h2⟩ := c.one 2 y2 rfl
      refine ⟨D, _, rfl, .inl ⟨SqL.of c.at_, fun t0 ht0 => ?_⟩⟩
      have s0 := same_upd (o := .tup [V.ref r0, V.ref r1, V.ref r2]) ht0
      have tid : Tab CR (upd H2 t0 (.tup [V.ref r0, V.ref r1, V.ref r2])) t0 idM := ⟨r0, r1, r2, upd_same, h0.same s0, h1.same s0, h2.same s0⟩
      replace hA := (hA.same c.same).same s0
      generalize (upd H2 t0 (.tup [V.ref r0, V.ref r1, V.ref r2])) = H3 at *
      clear c h0 h1 h2 s0 ht0 hD
      refine fun x0 d0 g0 e0 n0 => new_rw (t := 0) (b := 1) (by decide) (by decide +kernel) (by decide +kernel) g0 e0 n0 fun H4 s4 w0 => ⟨rfl, fun x1 d1 g1 e1 n1 => new_rw (t := 0) (b := 1) (by decide) (by decide +kernel) (by decide +kernel) g1 e1 n1 fun H5 s5 w1 => ⟨rfl, fun x2 d2 g2 e2 n2 => new_rw (t := 1) (b := 1) (by decide) (by decide +kernel) (by decide +kernel) g2 e2 n2 fun H6 s6 w2 => ⟨rfl, (by show 3 ≤ sizeLine; decide), fun ra hra => ?_⟩⟩⟩
      obtain ⟨ro0, sr⟩ := row_new (m := cyM) (i := 0) hra ((w0.same s5).same s6) (w1.same s6) w2
      have s36 := ((s4.trans s5).trans s6).trans sr
      replace hA := hA.same s36
      replace tid := tid.same s36
      generalize (upd H6 ra (.tup [V.ref x0, V.ref x1, V.ref x2])) = H7 at *
      clear w0 w1 w2 s4 s5 s6 sr s36 g0 e0 n0 g1 n1 e2 n2 g2 hra
      refine fun x3 d3 g0 e0 n0 => new_rw (t := 1) (b := 1) (by decide) (by decide +kernel) (by decide +kernel) g0 e0 n0 fun H8 s4 w0 => ⟨rfl, fun x4 d4 g1 e1 n1 => new_rw (t := 0) (b := 1) (by decide) (by decide +kernel) (by decide +kernel) g1 e1 n1 fun H9 s5 w1 => ⟨rfl, fun x5 d5 g2 e2 n2 => new_rw (t := 0) (b := 1) (by decide) (by decide +kernel) (by decide +kernel) g2 e2 n2 fun H10 s6 w2 => ⟨rfl, (by show 3 ≤ sizeLine; decide), fun rb hrb => ?_⟩⟩⟩
      obtain ⟨ro1, sr⟩ := row_new (m := cyM) (i := 1) hrb ((w0.same s5).same s6) (w1.same s6) w2
      have s36 := ((s4.trans s5).trans s6).trans sr
      replace hA := hA.same s36
      replace tid := tid.same s36
      replace ro0 := ro0.same s36
      generalize (upd H10 rb (.tup [V.ref x3, V.ref x4, V.ref x5])) = H11 at *
      clear w0 w1 w2 s4 s5 s6 sr s36 g0 e0 n0 g1 n1 e2 n2 g2 hrb
      refine fun x6 d6 g0 e0 n0 => new_rw (t := 0) (b := 1) (by decide) (by decide +kernel) (by decide +kernel) g0 e0 n0 fun H12 s4 w0 => ⟨rfl, fun x7 d7 g1 e1 n1 => new_rw (t := 1) (b := 1) (by decide) (by decide +kernel) (by decide +kernel) g1 e1 n1 fun H13 s5 w1 => ⟨rfl, fun x8 d8 g2 e2 n2 => new_rw (t := 0) (b := 1) (by decide) (by decide +kernel) (by decide +kernel) g2 e2 n2 fun H14 s6 w2 => ⟨rfl, (by show 3 ≤ sizeLine; decide), fun rc hrc => ⟨(by show 3 ≤ sizeLine; decide), fun th hth => ?_⟩⟩⟩⟩
      obtain ⟨ro2, sr⟩ := row_new (m := cyM) (i := 2) hrc ((w0.same s5).same s6) (w1.same s6) w2
      have sth := same_upd (o := .tup [V.ref ra, V.ref rb, V.ref rc]) hth
      have s36 := (((s4.trans s5).trans s6).trans sr).trans sth
      replace hA := hA.same s36
      replace tid := tid.same s36
      replace ro0 := ro0.same s36
      replace ro1 := ro1.same s36
      replace ro2 := ro2.same sth
      have gth := upd_same (H := (upd H14 rc (.tup [V.ref x6, V.ref x7, V.ref x8]))) (a := th) (o := .tup [V.ref ra, V.ref rb, V.ref rc])
      generalize (upd (upd H14 rc (.tup [V.ref x6, V.ref x7, V.ref x8])) th (.tup [V.ref ra, V.ref rb, V.ref rc])) = H15 at *
      clear w0 w1 w2 s4 s5 s6 sr s36 g0 e0 n0 g1 n1 e2 n2 g2 hrc hth sth
      have tcy : Tab CR H15 th cyM := ⟨ra, rb, rc, gth, ro0, ro1, ro2⟩
      -- what is told of them
      refine ⟨_, rfl, _, rfl, ⟨al, -1, -1, .ref t0, rfl, hA, by decide, by decide, .inr ⟨t0, idM, 1, rfl, tid, id_bw, by decide, by decide, fun c => absurd id_trn c, fun _ => ⟨⟨0, by decide, by decide⟩, fun j s z H16 s16 hj nz pr sd nzs cop wz => ?_⟩⟩⟩⟩
      obtain ⟨dz, ez, trz, nmz, rz, gz, _, lz, _⟩ := wz.fld
      obtain ⟨f1, f2, f3⟩ := id_fot j hj
      obtain ⟨u, v, u0, v0, p1, p2, p3, p4⟩ := pr
      have z0 : ∀ {i k l m : Int}, l = 0 → k * u = l * v → k * rz.d = m * s.d → m = 0 := fun {i k l m} h e1 e2 => by
        rw [h, Int.zero_mul] at e1
        rw [(Int.mul_eq_zero.mp e1).resolve_right u0, Int.zero_mul, sd, Int.mul_one] at e2
        exact e2.symm
      have zz : decide (rz.x = 0 ∧ rz.y = 0 ∧ rz.z = 0) = true := decide_eq_true ⟨z0 (i := 0) f1 p2 lz.cross.2.1, z0 (i := 0) f2 p3 lz.cross.2.2.1, z0 (i := 0) f3 p4 lz.cross.2.2.2⟩
      rw [zz] at gz
      refine ⟨z, CF, dz, _, .bl true, rfl, gz, R.own.cls, R.n6, rfl, ?_⟩
      replace hA := hA.same s16
      replace tcy := tcy.same s16
      replace gth := s16 _ _ gth
      replace ro0 := ro0.same s16
      replace ro1 := ro1.same s16
      replace ro2 := ro2.same s16
      clear s16 wz gz lz zz z0 p1 p2 p3 p4 f1 f2 f3 nz cop nzs tid
      refine ⟨_, rfl, _, rfl, ⟨al, -1, -1, .ref th, rfl, hA, by decide, by decide, .inr ⟨th, cyM, 1, rfl, tcy, cy_bw, by decide, fun r1 H17 s17 hr1 => ?_⟩⟩⟩
      have er : r1 = true := hr1.mpr cy_trn
      subst er
      refine ⟨_, rfl, _, rfl, 1, rfl, ?_⟩
      unfold tNoPart
      refine sl_from (n := 1) (i := 1) (s17 _ _ gth) rfl (by decide) (by show 1 ≤ 3; decide) rfl fun a3 H18 s18 g3 => ?_
      refine ⟨_, rfl, 1, rfl, sl_of (n := 1) (s18 _ _ (s17 _ _ gth)) rfl rfl fun a4 H19 s19 g4 => ?_⟩
      refine cat_of (s19 _ _ g3) g4 (by show 3 ≤ sizeLine; decide) fun a5 H20 s20 g5 => ?_
      have s1720 := ((s17.trans s18).trans s19).trans s20
      replace hA := hA.same s1720
      replace tcy := tcy.same s1720
      replace gth := s1720 _ _ gth
      replace ro0 := ro0.same s1720
      replace ro1 := ro1.same s1720
      replace ro2 := ro2.same s1720
      clear s1720 s17 s18 s19 s20 g3 g4
      have rext : ∀ {m m' : Nat → Nat → Int × Int} {i i' : Nat} {r : Addr}, RowOk CR H20 m i r → (∀ j, j < 3 → m' i' j = m i j) → RowOk CR H20 m' i' r := fun h e => by
        obtain ⟨y0, y1, y2, h0, h1, h2, h3⟩ := h.ex
        exact ⟨y0, y1, y2, h0, by rw [e 0 (by decide)]; exact h1, by rw [e 1 (by decide)]; exact h2, by rw [e 2 (by decide)]; exact h3⟩
      have tid2 : Tab CR H20 a5 idM := ⟨rb, rc, ra, g5, rext ro1 (three rfl rfl rfl), rext ro2 (three rfl rfl rfl), rext ro0 (three rfl rfl rfl)⟩
      refine ⟨al, -1, -1, .ref a5, rfl, hA, by decide, by decide, .inr ⟨a5, idM, 1, rfl, tid2, id_bw, by decide, fun r2 H21 s21 hr2 => ?_⟩⟩
      have er : r2 = true := hr2.mpr id_trn
      subst er
      refine ⟨(by show 3 ≤ sizeLine; decide), fun L1 hL1 => ?_⟩
      have sL1 := same_upd (o := .lst [V.bl true, .bl true, .bl true]) hL1
      have gL1 : (upd H21 L1 (.lst [V.bl true, .bl true, .bl true])) L1 = some (.lst [V.bl true, .bl true, .bl true]) := upd_same
      have s2022 := s21.trans sL1
      generalize (upd H21 L1 (.lst [V.bl true, .bl true, .bl true])) = H22 at *
      replace hA := hA.same s2022
      replace tcy := tcy.same s2022
      replace gth := s2022 _ _ gth
      replace ro0 := ro0.same s2022
      replace ro1 := ro1.same s2022
      replace ro2 := ro2.same s2022
      clear s2022 s21 sL1 hL1 tid2 g5 hr2 rext
      refine ⟨_, rfl, _, rfl, _, rfl, th, _, _, _, rfl, rfl, SqT.of gth, atI_nat (j := 1) rfl, _, rfl, th, _, _, _, rfl, rfl, SqT.of gth, atI_nat (j := 0) rfl, _, rfl, th, _, _, _, rfl, rfl, SqT.of gth, atI_nat (j := 2) rfl, (by show 3 ≤ sizeLine; decide), fun a6 ha6 => ?_⟩
      have s6 := same_upd (o := .tup [V.ref rb, V.ref ra, V.ref rc]) ha6
      have g6 : (upd H22 a6 (.tup [V.ref rb, V.ref ra, V.ref rc])) a6 = some (.tup [V.ref rb, V.ref ra, V.ref rc]) := upd_same
      generalize (upd H22 a6 (.tup [V.ref rb, V.ref ra, V.ref rc])) = H23 at *
      have rext : ∀ {m m' : Nat → Nat → Int × Int} {i i' : Nat} {r : Addr}, RowOk CR H22 m i r → (∀ j, j < 3 → m' i' j = m i j) → RowOk CR H23 m' i' r := fun h e => by
        obtain ⟨y0, y1, y2, h0, h1, h2, h3⟩ := (h.same s6).ex
        exact ⟨y0, y1, y2, h0, by rw [e 0 (by decide)]; exact h1, by rw [e 1 (by decide)]; exact h2, by rw [e 2 (by decide)]; exact h3⟩
      have tsw : Tab CR H23 a6 swM := ⟨rb, ra, rc, g6, rext ro1 (three rfl rfl rfl), rext ro0 (three rfl rfl rfl), rext ro2 (three rfl rfl rfl)⟩
      refine ⟨al, -1, -1, .ref a6, rfl, hA.same s6, by decide, by decide, .inr ⟨a6, swM, 1, rfl, tsw, sw_bw, by decide, fun r3 H24 s24 hr3 => ?_⟩⟩
      have er : r3 = false := by
        cases r3 with
        | false => rfl
        | true => exact absurd (hr3.mp rfl) sw_trn
      subst er
      have s2224 := s6.trans s24
      replace hA := hA.same s2224
      replace tcy := tcy.same s2224
      replace gL1 := s2224 _ _ gL1
      clear s2224 s6 s24 rext tsw g6 ro0 ro1 ro2 gth hr3 ha6
      refine ⟨1, rfl, 11, rfl, fun be dbe hbe hdbe ndb => new_alg (by decide) (by decide) (by decide) (by decide) hbe hdbe ndb fun H25 s25 hB => ⟨rfl, _, rfl, ⟨be, -1, -11, .ref th, rfl, hB, by decide, by decide, .inr ⟨th, cyM, 1, rfl, tcy.same s25, cy_bw, by decide, fun r4 H26 s26 hr4 => ?_⟩⟩⟩⟩
      have er : r4 = false := by
        cases r4 with
        | false => rfl
        | true => exact absurd (hr4.mp rfl) cy_trn2
      subst er
      refine ⟨(by show 2 ≤ sizeLine; decide), fun L2 hL2 => ?_⟩
      have s27 := same_upd (o := .lst [V.bl false, .bl false]) hL2
      have s2427 := (s25.trans s26).trans s27
      refine ⟨L1, L2, _, _, rfl, rfl, s2427 _ _ gL1, upd_same, (by show 5 ≤ sizeLine; decide), fun N hN => ?_⟩
      have s28 := same_upd (o := .lst ([V.bl true, .bl true, .bl true] ++ [V.bl false, .bl false])) hN
      have gN : (upd (upd H26 L2 (.lst [V.bl false, .bl false])) N (.lst ([V.bl true, .bl true, .bl true] ++ [V.bl false, .bl false]))) N = some (.lst ([V.bl true, .bl true, .bl true] ++ [V.bl false, .bl false])) := upd_same
      generalize (upd (upd H26 L2 (.lst [V.bl false, .bl false])) N (.lst ([V.bl true, .bl true, .bl true] ++ [V.bl false, .bl false]))) = H28 at *
      have s2428 := s2427.trans s28
      replace hA := hA.same s2428
      replace tcy := tcy.same s2428
      clear s2428 s2427 s25 s26 s27 s28 hN hL2 gL1 hB hr4
      refine ⟨_, rfl, _, rfl, ⟨al, -1, -1, .ref th, rfl, hA, by decide, by decide, .inr ⟨th, cyM, 1, rfl, tcy, cy_bw, by decide, by decide, fun c => absurd cy_trn c, fun _ => ⟨⟨0, by decide, by decide⟩, fun j s z H29 s29 hj nz pr sd nzs cop wz => ?_⟩⟩⟩⟩
      obtain ⟨dz, ez, trz, nmz, rz, gz, uz, lz, _⟩ := wz.fld
      obtain ⟨f1, f2, f3⟩ := cy_fot j hj
      obtain ⟨u, v, u0, v0, p1, p2, p3, p4⟩ := pr
      have rp : 0 < rz.d := lz.1
      have abs_eq : ∀ {i k l m n o : Int}, l.natAbs = o.natAbs → k * u = l * v → n * u = o * v → k * rz.d = i * s.d → n * rz.d = m * s.d → i.natAbs = m.natAbs := fun {i k l m n o} e e1 e2 e3 e4 => by
        rw [sd, Int.mul_one] at e3 e4
        rw [← e3, ← e4, Int.natAbs_mul, Int.natAbs_mul]
        have q1 : k.natAbs * u.natAbs = n.natAbs * u.natAbs := by
          rw [← Int.natAbs_mul, ← Int.natAbs_mul, e1, e2, Int.natAbs_mul, Int.natAbs_mul, e]
        rw [Nat.eq_of_mul_eq_mul_right (Int.natAbs_pos.mpr u0) q1]
      have ax : rz.x.natAbs = rz.w.natAbs := abs_eq f1 p2 p1 lz.cross.2.1 lz.cross.1
      have ay : rz.y.natAbs = rz.w.natAbs := abs_eq f2 p3 p1 lz.cross.2.2.1 lz.cross.1
      have az : rz.z.natAbs = rz.w.natAbs := abs_eq f3 p4 p1 lz.cross.2.2.2 lz.cross.1
      have gN' := s29 _ _ gN
      refine ⟨_, rfl, (by show 5 ≤ sizeLine; decide), fun L3 hL3 => ?_⟩
      have n3 : N ≠ L3 := ne_of_none gN' hL3
      have s30 := same_upd (o := .lst [V.bl true, .bl true, .bl true, .bl false, .bl false]) hL3
      refine ⟨.list [.bool true, .bool true, .bool true, .bool false, .bool false], .list [.bool true, .bool true, .bool true, .bool false, .bool false], .lst (SqL.of (s30 _ _ gN')) (.cons (.bl _) (.cons (.bl _) (.cons (.bl _) (.cons (.bl _) (.cons (.bl _) .nil))))), .lst (SqL.of upd_same) (.cons (.bl _) (.cons (.bl _) (.cons (.bl _) (.cons (.bl _) (.cons (.bl _) .nil))))), rfl, rfl, ?_⟩
      rw [show PyData.eqv (.list [.bool true, .bool true, .bool true, .bool false, .bool false]) (.list [.bool true, .bool true, .bool true, .bool false, .bool false]) = true by decide +kernel]
      refine ⟨_, rfl, ?_⟩
      have gz' := s30 _ _ gz
      have uz' := s30 _ _ uz
      have at4 : ∀ (i : Nat) (x : V), (ents rz)[i]? = some x → ∃ n : Int, x = V.int n ∧ n.natAbs = rz.w.natAbs := fun i x h => by
        match i, h with
        | 0, h => cases h; exact ⟨_, rfl, rfl⟩
        | 1, h => cases h; exact ⟨_, rfl, ax⟩
        | 2, h => cases h; exact ⟨_, rfl, ay⟩
        | 3, h => cases h; exact ⟨_, rfl, az⟩
        | i + 4, h => exact absurd h (by show ([] : List V)[i]? ≠ some x; simp)
      refine ⟨_, rfl, z, CF, dz, _, .ref ez, rfl, gz', R.own.cls, R.n2, rfl, ez, rfl, ⟨_, SqT.of uz'⟩, fun D2 hD2 => gat_tup (K := K) (a := ez) (xs := ents rz) (fun _ y _ => y = .int rz.w.natAbs) (fun _ _ => True) hD2 uz' (by show 4 ≤ 1000; decide) (fun _ _ _ _ h _ _ => h) (fun i x H31 hi hs hd Rc N2 k => ⟨rfl, ?_⟩) (fun us H31 c => ?_)⟩
      · obtain ⟨n, rfl, hn⟩ := at4 i x hi
        refine ⟨_, rfl, n, rfl, k _ _ (Same.refl _) ?_ fun _ _ _ => trivial⟩
        show V.int (if n < 0 then -n else n) = V.int rz.w.natAbs
        congr 1
        split <;> omega
      · have lu : us = (List.replicate 4 (rz.w.natAbs : Int)).map V.int := by
          have l4 : us.length = 4 := c.len
          match us, l4, c.one with
          | [a1, a2, a3, a4], _, h1 =>
            have b1 := h1 0 a1 rfl
            have b2 := h1 1 a2 rfl
            have b3 := h1 2 a3 rfl
            have b4 := h1 3 a4 rfl
            rw [b1, b2, b3, b4]
            rfl
        have gD := c.at_
        rw [lu] at gD
        refine ⟨D2, _, rfl, SqL.of gD, (by rw [List.length_replicate]; decide), fun sq n hn hq => ⟨sq, _, n, rfl, upd_same, fun ks nd hks => ?_⟩⟩
        have mem : ∀ k, k ∈ ks ↔ k = (rz.w.natAbs : Int) := fun k => by
          rw [← hks k, decide_eq_true_iff, List.mem_replicate]
          simp
        have l1 : ks.length = 1 := by
          match ks, nd, mem with
          | [], _, m => exact absurd ((m _).mpr rfl) (by simp)
          | [_], _, _ => rfl
          | a1 :: a2 :: rest, nd, m =>
            have e1 := (m a1).mp (by simp)
            have e2 := (m a2).mp (by simp)
            rw [List.nodup_cons] at nd
            exact absurd (by rw [e1, e2]; simp) nd.1
        rw [l1]
        exact ⟨_, _, rfl, rfl, q _⟩
end
end Sf

namespace Sf
open PySem PySem.Spec PyProof.Rows L2
theorem facts {P : Program} {w : World} {K : PySem.W.Frag} {h : Heap} {mg : Str → Option Value} {f : Addr} (X : K.In h) (G : h.Ns mainGlobals mg) (hfa : mg ("law" : Str) = some (.ref f)) (c : He.SaysD fa fn K) (z : ex K = true) :
    ∃ fd : FuncData, (∀ (s : Shared) (v : Value), BindsTo s fd ⟨[v], []⟩ [("_law_script", v)]) ∧ ∀ base : Heap, K.In base → base.Ns mainGlobals mg → FnOk P w K mg base CX0 17 f fd ["_law_script"] (spLaw K) := by
  obtain ⟨fd_L_bowl, F_L_bowl⟩ := c.def_ 0 (d := d_L_bowl) rfl
  have g_L_bowl := He.glo_ok X G (c.fact 0 (f := .glo "_law_bowl") rfl)
  obtain ⟨fd_L_scoop, F_L_scoop⟩ := c.def_ 1 (d := d_L_scoop) rfl
  have g_L_scoop := He.glo_ok X G (c.fact 1 (f := .glo "_law_scoop") rfl)
  obtain ⟨fd_L_one_of, F_L_one_of⟩ := c.def_ 2 (d := d_L_one_of) rfl
  have g_L_one_of := He.glo_ok X G (c.fact 2 (f := .glo "_law_one_of") rfl)
  obtain ⟨fd_L_number, F_L_number⟩ := c.def_ 3 (d := d_L_number) rfl
  have g_L_number := He.glo_ok X G (c.fact 3 (f := .glo "_law_number") rfl)
  obtain ⟨fd_L_pair, F_L_pair⟩ := c.def_ 4 (d := d_L_pair) rfl
  have g_L_pair := He.glo_ok X G (c.fact 4 (f := .glo "_law_pair") rfl)
  obtain ⟨fd_L_common, F_L_common⟩ := c.def_ 5 (d := d_L_common) rfl
  have g_L_common := He.glo_ok X G (c.fact 5 (f := .glo "_law_common") rfl)
  obtain ⟨fd_L_lowest, F_L_lowest⟩ := c.def_ 6 (d := d_L_lowest) rfl
  have g_L_lowest := He.glo_ok X G (c.fact 6 (f := .glo "_law_lowest") rfl)
  obtain ⟨fd_L_drawn, F_L_drawn⟩ := c.def_ 7 (d := d_L_drawn) rfl
  have g_L_drawn := He.glo_ok X G (c.fact 7 (f := .glo "_law_drawn") rfl)
  obtain ⟨fd_L_times, F_L_times⟩ := c.def_ 8 (d := d_L_times) rfl
  have g_L_times := He.glo_ok X G (c.fact 8 (f := .glo "_law_times") rfl)
  obtain ⟨fd_L_mate, F_L_mate⟩ := c.def_ 9 (d := d_L_mate) rfl
  have g_L_mate := He.glo_ok X G (c.fact 9 (f := .glo "_law_mate") rfl)
  obtain ⟨fd_L_norm, F_L_norm⟩ := c.def_ 10 (d := d_L_norm) rfl
  have g_L_norm := He.glo_ok X G (c.fact 10 (f := .glo "_law_norm") rfl)
  obtain ⟨fd_L_column, F_L_column⟩ := c.def_ 11 (d := d_L_column) rfl
  have g_L_column := He.glo_ok X G (c.fact 11 (f := .glo "_law_column") rfl)
  obtain ⟨fd_L_scaled, F_L_scaled⟩ := c.def_ 12 (d := d_L_scaled) rfl
  have g_L_scaled := He.glo_ok X G (c.fact 12 (f := .glo "_law_scaled") rfl)
  obtain ⟨fd_L_is_due, F_L_is_due⟩ := c.def_ 13 (d := d_L_is_due) rfl
  have g_L_is_due := He.glo_ok X G (c.fact 13 (f := .glo "_law_is_due") rfl)
  obtain ⟨fd_P_is_integer, F_P_is_integer⟩ := c.def_ 14 (d := d_P_is_integer) rfl
  have g_P_is_integer := He.glo_ok X G (c.fact 14 (f := .glo "is_integer") rfl)
  obtain ⟨fd_P_is_passed, F_P_is_passed⟩ := c.def_ 15 (d := d_P_is_passed) rfl
  have g_P_is_passed := He.glo_ok X G (c.fact 15 (f := .glo "is_passed") rfl)
  obtain ⟨fd_P_lowest_terms, F_P_lowest_terms⟩ := c.def_ 16 (d := d_P_lowest_terms) rfl
  have g_P_lowest_terms := He.glo_ok X G (c.fact 16 (f := .glo "lowest_terms") rfl)
  obtain ⟨fd_P_sign_of, F_P_sign_of⟩ := c.def_ 17 (d := d_P_sign_of) rfl
  have g_P_sign_of := He.glo_ok X G (c.fact 17 (f := .glo "sign_of") rfl)
  obtain ⟨fd_P_Ratio___init__, F_P_Ratio___init__⟩ := c.def_ 18 (d := d_P_Ratio___init__) rfl
  obtain ⟨fd_P_is_fraction, F_P_is_fraction⟩ := c.def_ 19 (d := d_P_is_fraction) rfl
  have g_P_is_fraction := He.glo_ok X G (c.fact 18 (f := .glo "is_fraction") rfl)
  obtain ⟨fd_P_terms_of, F_P_terms_of⟩ := c.def_ 20 (d := d_P_terms_of) rfl
  have g_P_terms_of := He.glo_ok X G (c.fact 19 (f := .glo "terms_of") rfl)
  obtain ⟨fd_P_made_ratio, F_P_made_ratio⟩ := c.def_ 21 (d := d_P_made_ratio) rfl
  have g_P_made_ratio := He.glo_ok X G (c.fact 20 (f := .glo "made_ratio") rfl)
  obtain ⟨fd_P_Ratio___add__, F_P_Ratio___add__⟩ := c.def_ 22 (d := d_P_Ratio___add__) rfl
  obtain ⟨fd_P_Ratio___neg__, F_P_Ratio___neg__⟩ := c.def_ 23 (d := d_P_Ratio___neg__) rfl
  obtain ⟨fd_L_near, F_L_near⟩ := c.def_ 24 (d := d_L_near) rfl
  have g_L_near := He.glo_ok X G (c.fact 21 (f := .glo "_law_near") rfl)
  obtain ⟨fd_L_odd, F_L_odd⟩ := c.def_ 25 (d := d_L_odd) rfl
  have g_L_odd := He.glo_ok X G (c.fact 22 (f := .glo "_law_odd") rfl)
  obtain ⟨fd_P_check_algebra, F_P_check_algebra⟩ := c.def_ 26 (d := d_P_check_algebra) rfl
  have g_P_check_algebra := He.glo_ok X G (c.fact 23 (f := .glo "check_algebra") rfl)
  obtain ⟨fd_P_is_row, F_P_is_row⟩ := c.def_ 27 (d := d_P_is_row) rfl
  have g_P_is_row := He.glo_ok X G (c.fact 24 (f := .glo "is_row") rfl)
  obtain ⟨fd_P_is_table, F_P_is_table⟩ := c.def_ 28 (d := d_P_is_table) rfl
  have g_P_is_table := He.glo_ok X G (c.fact 25 (f := .glo "is_table") rfl)
  obtain ⟨fd_P_lowest_entries, F_P_lowest_entries⟩ := c.def_ 29 (d := d_P_lowest_entries) rfl
  have g_P_lowest_entries := He.glo_ok X G (c.fact 26 (f := .glo "lowest_entries") rfl)
  obtain ⟨fd_P_is_passed_entries, F_P_is_passed_entries⟩ := c.def_ 30 (d := d_P_is_passed_entries) rfl
  have g_P_is_passed_entries := He.glo_ok X G (c.fact 27 (f := .glo "is_passed_entries") rfl)
  obtain ⟨fd_P_norm_of, F_P_norm_of⟩ := c.def_ 31 (d := d_P_norm_of) rfl
  have g_P_norm_of := He.glo_ok X G (c.fact 28 (f := .glo "norm_of") rfl)
  obtain ⟨fd_P_Four___init__, F_P_Four___init__⟩ := c.def_ 32 (d := d_P_Four___init__) rfl
  obtain ⟨fd_P_made_four, F_P_made_four⟩ := c.def_ 33 (d := d_P_made_four) rfl
  have g_P_made_four := He.glo_ok X G (c.fact 29 (f := .glo "made_four") rfl)
  obtain ⟨fd_P_four_of_column, F_P_four_of_column⟩ := c.def_ 34 (d := d_P_four_of_column) rfl
  have g_P_four_of_column := He.glo_ok X G (c.fact 30 (f := .glo "four_of_column") rfl)
  obtain ⟨fd_P_images_of, F_P_images_of⟩ := c.def_ 35 (d := d_P_images_of) rfl
  have g_P_images_of := He.glo_ok X G (c.fact 31 (f := .glo "images_of") rfl)
  obtain ⟨fd_P_Algebra___eq__, F_P_Algebra___eq__⟩ := c.def_ 36 (d := d_P_Algebra___eq__) rfl
  obtain ⟨fd_P_check_operands, F_P_check_operands⟩ := c.def_ 37 (d := d_P_check_operands) rfl
  have g_P_check_operands := He.glo_ok X G (c.fact 32 (f := .glo "check_operands") rfl)
  obtain ⟨fd_P_product_entries, F_P_product_entries⟩ := c.def_ 38 (d := d_P_product_entries) rfl
  have g_P_product_entries := He.glo_ok X G (c.fact 33 (f := .glo "product_entries") rfl)
  obtain ⟨fd_P_Four___mul__, F_P_Four___mul__⟩ := c.def_ 39 (d := d_P_Four___mul__) rfl
  obtain ⟨fd_P_Four___eq__, F_P_Four___eq__⟩ := c.def_ 40 (d := d_P_Four___eq__) rfl
  obtain ⟨fd_P_check_ratio, F_P_check_ratio⟩ := c.def_ 41 (d := d_P_check_ratio) rfl
  have g_P_check_ratio := He.glo_ok X G (c.fact 34 (f := .glo "check_ratio") rfl)
  obtain ⟨fd_P_Four_scaled, F_P_Four_scaled⟩ := c.def_ 42 (d := d_P_Four_scaled) rfl
  obtain ⟨fd_P_Algebra_basis, F_P_Algebra_basis⟩ := c.def_ 43 (d := d_P_Algebra_basis) rfl
  obtain ⟨fd_P_is_turn, F_P_is_turn⟩ := c.def_ 44 (d := d_P_is_turn) rfl
  have g_P_is_turn := He.glo_ok X G (c.fact 35 (f := .glo "is_turn") rfl)
  obtain ⟨fd_P_Four___add__, F_P_Four___add__⟩ := c.def_ 45 (d := d_P_Four___add__) rfl
  obtain ⟨fd_P_Four___neg__, F_P_Four___neg__⟩ := c.def_ 46 (d := d_P_Four___neg__) rfl
  obtain ⟨fd_P_Four___sub__, F_P_Four___sub__⟩ := c.def_ 47 (d := d_P_Four___sub__) rfl
  obtain ⟨fd_P_Ratio___bool__, F_P_Ratio___bool__⟩ := c.def_ 48 (d := d_P_Ratio___bool__) rfl
  obtain ⟨fd_P_mate_entries, F_P_mate_entries⟩ := c.def_ 49 (d := d_P_mate_entries) rfl
  have g_P_mate_entries := He.glo_ok X G (c.fact 36 (f := .glo "mate_entries") rfl)
  obtain ⟨fd_P_Four_inverse, F_P_Four_inverse⟩ := c.def_ 50 (d := d_P_Four_inverse) rfl
  obtain ⟨fd_P_led_sum, F_P_led_sum⟩ := c.def_ 51 (d := d_P_led_sum) rfl
  have g_P_led_sum := He.glo_ok X G (c.fact 37 (f := .glo "led_sum") rfl)
  obtain ⟨fd_P_primitive, F_P_primitive⟩ := c.def_ 52 (d := d_P_primitive) rfl
  have g_P_primitive := He.glo_ok X G (c.fact 38 (f := .glo "primitive") rfl)
  obtain ⟨fd_P_Four___bool__, F_P_Four___bool__⟩ := c.def_ 53 (d := d_P_Four___bool__) rfl
  obtain ⟨fd_P_four_of_turn, F_P_four_of_turn⟩ := c.def_ 54 (d := d_P_four_of_turn) rfl
  have g_P_four_of_turn := He.glo_ok X G (c.fact 39 (f := .glo "four_of_turn") rfl)
  obtain ⟨fd_L_is_refused, F_L_is_refused⟩ := c.def_ 55 (d := d_L_is_refused) rfl
  have g_L_is_refused := He.glo_ok X G (c.fact 40 (f := .glo "_law_is_refused") rfl)
  obtain ⟨fd_P_check_four, F_P_check_four⟩ := c.def_ 56 (d := d_P_check_four) rfl
  have g_P_check_four := He.glo_ok X G (c.fact 41 (f := .glo "check_four") rfl)
  obtain ⟨fd_P_check_fours, F_P_check_fours⟩ := c.def_ 57 (d := d_P_check_fours) rfl
  have g_P_check_fours := He.glo_ok X G (c.fact 42 (f := .glo "check_fours") rfl)
  obtain ⟨fd_P_turned, F_P_turned⟩ := c.def_ 58 (d := d_P_turned) rfl
  have g_P_turned := He.glo_ok X G (c.fact 43 (f := .glo "turned") rfl)
  obtain ⟨fd_P_entry_of, F_P_entry_of⟩ := c.def_ 59 (d := d_P_entry_of) rfl
  have g_P_entry_of := He.glo_ok X G (c.fact 44 (f := .glo "entry_of") rfl)
  obtain ⟨fd_P_turn_of, F_P_turn_of⟩ := c.def_ 60 (d := d_P_turn_of) rfl
  have g_P_turn_of := He.glo_ok X G (c.fact 45 (f := .glo "turn_of") rfl)
  obtain ⟨fd_P_check_number, F_P_check_number⟩ := c.def_ 61 (d := d_P_check_number) rfl
  have g_P_check_number := He.glo_ok X G (c.fact 46 (f := .glo "check_number") rfl)
  obtain ⟨fd_P_stripped, F_P_stripped⟩ := c.def_ 62 (d := d_P_stripped) rfl
  have g_P_stripped := He.glo_ok X G (c.fact 47 (f := .glo "stripped") rfl)
  obtain ⟨fd_P_next_divisor, F_P_next_divisor⟩ := c.def_ 63 (d := d_P_next_divisor) rfl
  have g_P_next_divisor := He.glo_ok X G (c.fact 48 (f := .glo "next_divisor") rfl)
  obtain ⟨fd_P_prime_powers, F_P_prime_powers⟩ := c.def_ 64 (d := d_P_prime_powers) rfl
  have g_P_prime_powers := He.glo_ok X G (c.fact 49 (f := .glo "prime_powers") rfl)
  obtain ⟨fd_P_factors, F_P_factors⟩ := c.def_ 65 (d := d_P_factors) rfl
  have g_P_factors := He.glo_ok X G (c.fact 50 (f := .glo "factors") rfl)
  obtain ⟨fd_P_quarter, F_P_quarter⟩ := c.def_ 66 (d := d_P_quarter) rfl
  have g_P_quarter := He.glo_ok X G (c.fact 51 (f := .glo "quarter") rfl)
  obtain ⟨fd_P_eighth, F_P_eighth⟩ := c.def_ 67 (d := d_P_eighth) rfl
  have g_P_eighth := He.glo_ok X G (c.fact 52 (f := .glo "eighth") rfl)
  obtain ⟨fd_P_sign_at_two, F_P_sign_at_two⟩ := c.def_ 68 (d := d_P_sign_at_two) rfl
  have g_P_sign_at_two := He.glo_ok X G (c.fact 53 (f := .glo "sign_at_two") rfl)
  obtain ⟨fd_P_power_modulo, F_P_power_modulo⟩ := c.def_ 69 (d := d_P_power_modulo) rfl
  have g_P_power_modulo := He.glo_ok X G (c.fact 54 (f := .glo "power_modulo") rfl)
  obtain ⟨fd_P_rest_sign, F_P_rest_sign⟩ := c.def_ 70 (d := d_P_rest_sign) rfl
  have g_P_rest_sign := He.glo_ok X G (c.fact 55 (f := .glo "rest_sign") rfl)
  obtain ⟨fd_P_sign_at_odd, F_P_sign_at_odd⟩ := c.def_ 71 (d := d_P_sign_at_odd) rfl
  have g_P_sign_at_odd := He.glo_ok X G (c.fact 56 (f := .glo "sign_at_odd") rfl)
  obtain ⟨fd_P_sign, F_P_sign⟩ := c.def_ 72 (d := d_P_sign) rfl
  have g_P_sign := He.glo_ok X G (c.fact 57 (f := .glo "sign") rfl)
  obtain ⟨fd_P_signed_places, F_P_signed_places⟩ := c.def_ 73 (d := d_P_signed_places) rfl
  have g_P_signed_places := He.glo_ok X G (c.fact 58 (f := .glo "signed_places") rfl)
  obtain ⟨fd_P_product_of_primes, F_P_product_of_primes⟩ := c.def_ 74 (d := d_P_product_of_primes) rfl
  have g_P_product_of_primes := He.glo_ok X G (c.fact 59 (f := .glo "product_of_primes") rfl)
  obtain ⟨fd_P_Algebra___init__, F_P_Algebra___init__⟩ := c.def_ 75 (d := d_P_Algebra___init__) rfl
  obtain ⟨fd_P_Ratio___eq__, F_P_Ratio___eq__⟩ := c.def_ 76 (d := d_P_Ratio___eq__) rfl
  obtain ⟨fd_L_right, F_L_right⟩ := c.def_ 77 (d := d_L_right) rfl
  have g_L_right := He.glo_ok X G (c.fact 60 (f := .glo "_law_right") rfl)
  obtain ⟨fd_L_law, F_L_law⟩ := c.def_ 78 (d := d_L_law) rfl
  have g_L_law := He.glo_ok X G (c.fact 61 (f := .glo "law") rfl)
  have e := hfa.symm.trans g_L_law
  cases e
  have z0 := z
  obtain ⟨y1, z1⟩ := He.ba z0
  obtain ⟨y2, z2⟩ := He.ba z1
  obtain ⟨y3, z3⟩ := He.ba z2
  obtain ⟨y4, z4⟩ := He.ba z3
  obtain ⟨y5, z5⟩ := He.ba z4
  obtain ⟨y6, z6⟩ := He.ba z5
  have own_Ratio : OwnK K (He.ga K "Ratio") := ownB_ok (He.cls_ok (c.fact 83 (f := .cls "Ratio") rfl)) y3
  have own_Algebra : OwnK K (He.ga K "Algebra") := ownB_ok (He.cls_ok (c.fact 92 (f := .cls "Algebra") rfl)) y4
  have own_Four : OwnK K (He.ga K "Four") := ownB_ok (He.cls_ok (c.fact 100 (f := .cls "Four") rfl)) y5
  have err_InvalidOperation : ErrK K (He.ga K "InvalidOperation") := errB_ok y6
  have T : Glob mg := ⟨He.free_ok X G (c.fact 62 (f := .free "isinstance") rfl), He.free_ok X G (c.fact 63 (f := .free "int") rfl), He.free_ok X G (c.fact 64 (f := .free "bool") rfl), He.free_ok X G (c.fact 65 (f := .free "abs") rfl), He.free_ok X G (c.fact 66 (f := .free "str") rfl), He.free_ok X G (c.fact 67 (f := .free "sorted") rfl), He.free_ok X G (c.fact 68 (f := .free "tuple") rfl), He.free_ok X G (c.fact 69 (f := .free "set") rfl), He.free_ok X G (c.fact 70 (f := .free "len") rfl), He.free_ok X G (c.fact 71 (f := .free "zip") rfl), He.free_ok X G (c.fact 72 (f := .free "any") rfl), He.free_ok X G (c.fact 73 (f := .free "all") rfl), He.free_ok X G (c.fact 74 (f := .free "range") rfl), He.free_ok X G (c.fact 75 (f := .free "max") rfl), He.free_ok X G (c.fact 76 (f := .free "enumerate") rfl), He.free_ok X G (c.fact 77 (f := .free "list") rfl), He.free_ok X G (c.fact 78 (f := .free "min") rfl), gblB_ok X G y1, gblB_ok X G y2, He.int_ok X G (c.fact 79 (f := .int "TOO_LONG" 1000000000000000000000000000000000000000000000000000000000000) rfl), He.int_ok X G (c.fact 80 (f := .int "MAX_NUMBER" 1000000000) rfl), He.int_ok X G (c.fact 81 (f := .int "MAX_POWER" 1000) rfl)⟩
  obtain ⟨us_P_Ratio___init___1, dv_P_Ratio___init___1, bd_P_Ratio___init___1⟩ := F_P_Ratio___init__.binds1 (ps := ["self", "top", "bottom"]) 2 0 (fun e => by cases e) rfl fun _ _ _ _ _ _ _ us its hl hi => match us, hl, its, hi with | [_, _], _, [_], _ => ⟨_, rfl, rfl⟩
  obtain ⟨us_P_Ratio___init___2, dv_P_Ratio___init___2, bd_P_Ratio___init___2⟩ := F_P_Ratio___init__.binds1 (ps := ["self", "top", "bottom"]) 3 1 (fun e => by cases e) rfl fun _ _ _ _ _ _ _ us its hl hi => match us, hl, its, hi with | [_, _, _], _, [_], _ => ⟨_, rfl, rfl⟩
  obtain ⟨us_P_Four___init___2, dv_P_Four___init___2, bd_P_Four___init___2⟩ := F_P_Four___init__.binds1 (ps := ["self", "algebra", "entries", "bottom"]) 3 0 (fun e => by cases e) rfl fun _ _ _ _ _ _ _ us its hl hi => match us, hl, its, hi with | [_, _, _], _, [_], _ => ⟨_, rfl, rfl⟩
  obtain ⟨us_P_Four___init___3, dv_P_Four___init___3, bd_P_Four___init___3⟩ := F_P_Four___init__.binds1 (ps := ["self", "algebra", "entries", "bottom"]) 4 1 (fun e => by cases e) rfl fun _ _ _ _ _ _ _ us its hl hi => match us, hl, its, hi with | [_, _, _, _], _, [_], _ => ⟨_, rfl, rfl⟩
  have b := FunD.bindsA (ps := ["_law_script"]) F_L_law fun _ _ _ _ _ _ us hl => match us, hl with | [_], _ => rfl
  refine ⟨fd_L_law, fun s v => b s [v] rfl, fun base _ _ => ?_⟩
  have C_L_bowl : Cal P w K mg base 1 "_law_bowl" ["_law_script", "_law_at"] (spSack K) := ⟨_, fd_L_bowl, ok_bowl F_L_bowl T, g_L_bowl, F_L_bowl.kp, F_L_bowl.bindsN fun _ _ _ _ _ _ us hl => match us, hl with | [_, _], _ => rfl⟩
  have C_L_scoop : Cal P w K mg base 1 "_law_scoop" ["_law_bowl_here", "_law_total"] spTake := ⟨_, fd_L_scoop, ok_scoop F_L_scoop T, g_L_scoop, F_L_scoop.kp, F_L_scoop.bindsN fun _ _ _ _ _ _ us hl => match us, hl with | [_, _], _ => rfl⟩
  have C_L_one_of : Cal P w K mg base 2 "_law_one_of" ["_law_bowl_here", "_law_items"] (spOneOf K) := ⟨_, fd_L_one_of, ok_one_of F_L_one_of T C_L_scoop, g_L_one_of, F_L_one_of.kp, F_L_one_of.bindsN fun _ _ _ _ _ _ us hl => match us, hl with | [_, _], _ => rfl⟩
  have C_L_number : Cal P w K mg base 3 "_law_number" ["_law_bowl_here"] spNumber := ⟨_, fd_L_number, ok_number F_L_number T C_L_one_of C_L_scoop, g_L_number, F_L_number.kp, F_L_number.bindsN fun _ _ _ _ _ _ us hl => match us, hl with | [_], _ => rfl⟩
  have C_L_pair : Cal P w K mg base 4 "_law_pair" ["_law_bowl_here"] spLPair := ⟨_, fd_L_pair, ok_l_pair F_L_pair T C_L_one_of C_L_scoop C_L_number, g_L_pair, F_L_pair.kp, F_L_pair.bindsN fun _ _ _ _ _ _ us hl => match us, hl with | [_], _ => rfl⟩
  have C_L_common : Cal P w K mg base 1 "_law_common" ["_law_one", "_law_other"] spCommon := ⟨_, fd_L_common, ok_common F_L_common T, g_L_common, F_L_common.kp, F_L_common.bindsN fun _ _ _ _ _ _ us hl => match us, hl with | [_, _], _ => rfl⟩
  have C_L_lowest : Cal P w K mg base 2 "_law_lowest" ["_law_entries", "_law_bottom"] spLowest2 := ⟨_, fd_L_lowest, ok_lowest F_L_lowest T C_L_common, g_L_lowest, F_L_lowest.kp, F_L_lowest.bindsN fun _ _ _ _ _ _ us hl => match us, hl with | [_, _], _ => rfl⟩
  have C_L_drawn : Cal P w K mg base 3 "_law_drawn" ["_law_bowl_here"] spDrawn := ⟨_, fd_L_drawn, ok_drawn F_L_drawn T C_L_one_of C_L_scoop C_L_lowest, g_L_drawn, F_L_drawn.kp, F_L_drawn.bindsN fun _ _ _ _ _ _ us hl => match us, hl with | [_], _ => rfl⟩
  have C_L_times : Cal P w K mg base 3 "_law_times" ["_law_pair_here", "_law_one", "_law_other"] spTimes := ⟨_, fd_L_times, ok_times F_L_times T C_L_lowest, g_L_times, F_L_times.kp, F_L_times.bindsN fun _ _ _ _ _ _ us hl => match us, hl with | [_, _, _], _ => rfl⟩
  have C_L_mate : Cal P w K mg base 1 "_law_mate" ["_law_one"] spLMate := ⟨_, fd_L_mate, ok_l_mate F_L_mate T, g_L_mate, F_L_mate.kp, F_L_mate.bindsN fun _ _ _ _ _ _ us hl => match us, hl with | [_], _ => rfl⟩
  have C_L_norm : Cal P w K mg base 4 "_law_norm" ["_law_pair_here", "_law_one"] spLNorm := ⟨_, fd_L_norm, ok_l_norm F_L_norm T C_L_times C_L_mate, g_L_norm, F_L_norm.kp, F_L_norm.bindsN fun _ _ _ _ _ _ us hl => match us, hl with | [_, _], _ => rfl⟩
  have C_L_column : Cal P w K mg base 3 "_law_column" ["_law_table", "_law_at"] (spLCol (He.ga K "Ratio")) := ⟨_, fd_L_column, ok_law_column F_L_column T own_Ratio (⟨own_Ratio, He.noat_ok (c.fact 84 (f := .noat "Ratio" "top") rfl), He.noat_ok (c.fact 85 (f := .noat "Ratio" "bottom") rfl), He.noat_ok (c.fact 86 (f := .noat "Ratio" "sign") rfl)⟩ : RatioK K (He.ga K "Ratio")) C_L_lowest, g_L_column, F_L_column.kp, F_L_column.bindsN fun _ _ _ _ _ _ us hl => match us, hl with | [_, _], _ => rfl⟩
  have C_L_scaled : Cal P w K mg base 3 "_law_scaled" ["_law_one", "_law_top", "_law_bottom"] spLScaled := ⟨_, fd_L_scaled, ok_l_scaled F_L_scaled T C_L_lowest, g_L_scaled, F_L_scaled.kp, F_L_scaled.bindsN fun _ _ _ _ _ _ us hl => match us, hl with | [_, _, _], _ => rfl⟩
  have C_L_is_due : Cal P w K mg base 4 "_law_is_due" ["_law_pair_here", "_law_table"] (spDue (He.ga K "Ratio")) := ⟨_, fd_L_is_due, ok_is_due F_L_is_due C_L_column C_L_times C_L_scaled, g_L_is_due, F_L_is_due.kp, F_L_is_due.bindsN fun _ _ _ _ _ _ us hl => match us, hl with | [_, _], _ => rfl⟩
  have C_P_is_integer : Cal P w K mg base 1 "is_integer" ["value"] (spIsInt K) := ⟨_, fd_P_is_integer, ok_is_integer F_P_is_integer T, g_P_is_integer, F_P_is_integer.kp, F_P_is_integer.bindsN fun _ _ _ _ _ _ us hl => match us, hl with | [_], _ => rfl⟩
  have C_P_is_passed : Cal P w K mg base 2 "is_passed" ["value"] (spPassed K) := ⟨_, fd_P_is_passed, ok_is_passed F_P_is_passed T C_P_is_integer, g_P_is_passed, F_P_is_passed.kp, F_P_is_passed.bindsN fun _ _ _ _ _ _ us hl => match us, hl with | [_], _ => rfl⟩
  have C_P_lowest_terms : Cal P w K mg base 1 "lowest_terms" ["top", "bottom"] spLowest := ⟨_, fd_P_lowest_terms, ok_lowest_terms F_P_lowest_terms T, g_P_lowest_terms, F_P_lowest_terms.kp, F_P_lowest_terms.bindsN fun _ _ _ _ _ _ us hl => match us, hl with | [_, _], _ => rfl⟩
  have C_P_sign_of : Cal P w K mg base 1 "sign_of" ["number"] spSignOf := ⟨_, fd_P_sign_of, ok_sign_of F_P_sign_of , g_P_sign_of, F_P_sign_of.kp, F_P_sign_of.bindsN fun _ _ _ _ _ _ us hl => match us, hl with | [_], _ => rfl⟩
  have OK_P_Ratio___init__ : FnOk P w K mg base CX0 3 _ fd_P_Ratio___init__ ["self", "top", "bottom"] (spRatInit (He.ga K "Ratio")) := ok_Ratio_init F_P_Ratio___init__ (⟨own_Ratio, He.noat_ok (c.fact 84 (f := .noat "Ratio" "top") rfl), He.noat_ok (c.fact 85 (f := .noat "Ratio" "bottom") rfl), He.noat_ok (c.fact 86 (f := .noat "Ratio" "sign") rfl)⟩ : RatioK K (He.ga K "Ratio")) C_P_is_passed C_P_lowest_terms C_P_sign_of
  have C_P_is_fraction : Cal P w K mg base 3 "is_fraction" ["value"] (spRatV (He.ga K "Ratio") (.bl true)) := ⟨_, fd_P_is_fraction, ok_is_fraction F_P_is_fraction T (⟨own_Ratio, He.noat_ok (c.fact 84 (f := .noat "Ratio" "top") rfl), He.noat_ok (c.fact 85 (f := .noat "Ratio" "bottom") rfl), He.noat_ok (c.fact 86 (f := .noat "Ratio" "sign") rfl)⟩ : RatioK K (He.ga K "Ratio")) (He.glo_ok X G (c.fact 82 (f := .glo "Ratio") rfl)) C_P_is_passed, g_P_is_fraction, F_P_is_fraction.kp, F_P_is_fraction.bindsN fun _ _ _ _ _ _ us hl => match us, hl with | [_], _ => rfl⟩
  have C_P_terms_of : Cal P w K mg base 1 "terms_of" ["ratio"] (spTermsOf (He.ga K "Ratio")) := ⟨_, fd_P_terms_of, ok_terms_of F_P_terms_of T (⟨own_Ratio, He.noat_ok (c.fact 84 (f := .noat "Ratio" "top") rfl), He.noat_ok (c.fact 85 (f := .noat "Ratio" "bottom") rfl), He.noat_ok (c.fact 86 (f := .noat "Ratio" "sign") rfl)⟩ : RatioK K (He.ga K "Ratio")) (He.glo_ok X G (c.fact 82 (f := .glo "Ratio") rfl)), g_P_terms_of, F_P_terms_of.kp, F_P_terms_of.bindsN fun _ _ _ _ _ _ us hl => match us, hl with | [_], _ => rfl⟩
  have C_P_made_ratio : Cal P w K mg base 5 "made_ratio" ["top", "bottom"] (spMadeRatio (He.ga K "Ratio")) := ⟨_, fd_P_made_ratio, ok_made_ratio F_P_made_ratio (⟨own_Ratio, He.noat_ok (c.fact 84 (f := .noat "Ratio" "top") rfl), He.noat_ok (c.fact 85 (f := .noat "Ratio" "bottom") rfl), He.noat_ok (c.fact 86 (f := .noat "Ratio" "sign") rfl)⟩ : RatioK K (He.ga K "Ratio")) C_P_lowest_terms C_P_sign_of (⟨_, fd_P_Ratio___init__, us_P_Ratio___init___1, OK_P_Ratio___init__, He.mkr_ok (c.fact 87 (f := .mkr "Ratio") rfl), (He.glo_ok X G (c.fact 82 (f := .glo "Ratio") rfl)), bd_P_Ratio___init___1, dv_P_Ratio___init___1⟩ : CalC P w K mg base 3 "Ratio" (He.ga K "Ratio") ["self", "top", "bottom"] [.int 1] (spRatInit (He.ga K "Ratio"))), g_P_made_ratio, F_P_made_ratio.kp, F_P_made_ratio.bindsN fun _ _ _ _ _ _ us hl => match us, hl with | [_, _], _ => rfl⟩
  have OK_P_Ratio___add__ : FnOk P w K mg base CX0 6 _ fd_P_Ratio___add__ ["self", "other"] (spRatOp (He.ga K "Ratio") (fun t b t2 b2 => t * b2 + t2 * b) (fun _ b _ b2 => b * b2)) := ok_Ratio_add F_P_Ratio___add__ (⟨own_Ratio, He.noat_ok (c.fact 84 (f := .noat "Ratio" "top") rfl), He.noat_ok (c.fact 85 (f := .noat "Ratio" "bottom") rfl), He.noat_ok (c.fact 86 (f := .noat "Ratio" "sign") rfl)⟩ : RatioK K (He.ga K "Ratio")) C_P_is_fraction C_P_terms_of C_P_made_ratio
  have OK_P_Ratio___neg__ : FnOk P w K mg base CX0 6 _ fd_P_Ratio___neg__ ["self"] (spRatNeg (He.ga K "Ratio")) := ok_Ratio_neg F_P_Ratio___neg__ (⟨own_Ratio, He.noat_ok (c.fact 84 (f := .noat "Ratio" "top") rfl), He.noat_ok (c.fact 85 (f := .noat "Ratio" "bottom") rfl), He.noat_ok (c.fact 86 (f := .noat "Ratio" "sign") rfl)⟩ : RatioK K (He.ga K "Ratio")) C_P_made_ratio
  have C_L_near : Cal P w K mg base 10 "_law_near" ["_law_bowl_here", "_law_turn", "_law_other"] (spNear (He.ga K "Ratio")) := ⟨_, fd_L_near, ok_law_near F_L_near T C_L_scoop C_L_one_of own_Ratio (He.noat_ok (c.fact 88 (f := .noat "Ratio" "__radd__") rfl)) (⟨_, fd_P_Ratio___init__, us_P_Ratio___init___2, OK_P_Ratio___init__, He.mkr_ok (c.fact 87 (f := .mkr "Ratio") rfl), (He.glo_ok X G (c.fact 82 (f := .glo "Ratio") rfl)), bd_P_Ratio___init___2, dv_P_Ratio___init___2⟩ : CalC P w K mg base 3 "Ratio" (He.ga K "Ratio") ["self", "top", "bottom"] [] (spRatInit (He.ga K "Ratio"))) (⟨_, fd_P_Ratio___add__, OK_P_Ratio___add__, He.meth_ok (c.fact 89 (f := .meth "Ratio" "__add__") rfl), F_P_Ratio___add__.bindsN fun _ _ _ _ _ _ us hl => match us, hl with | [_, _], _ => rfl⟩ : CalM P w K mg base 6 "__add__" (He.ga K "Ratio") ["self", "other"] (spRatOp (He.ga K "Ratio") (fun t b t2 b2 => t * b2 + t2 * b) (fun _ b _ b2 => b * b2))) (⟨_, fd_P_Ratio___neg__, OK_P_Ratio___neg__, He.meth_ok (c.fact 90 (f := .meth "Ratio" "__neg__") rfl), F_P_Ratio___neg__.bindsN fun _ _ _ _ _ _ us hl => match us, hl with | [_], _ => rfl⟩ : CalM P w K mg base 6 "__neg__" (He.ga K "Ratio") ["self"] (spRatNeg (He.ga K "Ratio"))), g_L_near, F_L_near.kp, F_L_near.bindsN fun _ _ _ _ _ _ us hl => match us, hl with | [_, _, _], _ => rfl⟩
  have C_L_odd : Cal P w K mg base 3 "_law_odd" ["_law_bowl_here", "_law_turn"] (spOdd (He.ga K "Ratio")) := ⟨_, fd_L_odd, ok_law_odd F_L_odd T C_L_one_of, g_L_odd, F_L_odd.kp, F_L_odd.bindsN fun _ _ _ _ _ _ us hl => match us, hl with | [_, _], _ => rfl⟩
  have C_P_check_algebra : Cal P w K mg base 1 "check_algebra" ["value"] (spIsAlg (He.ga K "Algebra")) := ⟨_, fd_P_check_algebra, ok_check_algebra F_P_check_algebra T (⟨own_Algebra, He.noat_ok (c.fact 93 (f := .noat "Algebra" "places") rfl), He.noat_ok (c.fact 94 (f := .noat "Algebra" "a") rfl), He.noat_ok (c.fact 95 (f := .noat "Algebra" "b") rfl), He.noat_ok (c.fact 96 (f := .noat "Algebra" "discriminant") rfl), He.noat_ok (c.fact 97 (f := .noat "Algebra" "is_tables") rfl), He.noat_ok (c.fact 98 (f := .noat "Algebra" "is_definite") rfl)⟩ : AlgK K (He.ga K "Algebra")) (He.glo_ok X G (c.fact 91 (f := .glo "Algebra") rfl)), g_P_check_algebra, F_P_check_algebra.kp, F_P_check_algebra.bindsN fun _ _ _ _ _ _ us hl => match us, hl with | [_], _ => rfl⟩
  have C_P_is_row : Cal P w K mg base 2 "is_row" ["value"] (spIsRow (He.ga K "Ratio")) := ⟨_, fd_P_is_row, ok_is_row F_P_is_row T own_Ratio (He.glo_ok X G (c.fact 82 (f := .glo "Ratio") rfl)), g_P_is_row, F_P_is_row.kp, F_P_is_row.bindsN fun _ _ _ _ _ _ us hl => match us, hl with | [_], _ => rfl⟩
  have C_P_is_table : Cal P w K mg base 3 "is_table" ["value"] (spIsTable (He.ga K "Ratio")) := ⟨_, fd_P_is_table, ok_is_table F_P_is_table T C_P_is_row, g_P_is_table, F_P_is_table.kp, F_P_is_table.bindsN fun _ _ _ _ _ _ us hl => match us, hl with | [_], _ => rfl⟩
  have C_P_lowest_entries : Cal P w K mg base 1 "lowest_entries" ["entries", "bottom"] spLowE := ⟨_, fd_P_lowest_entries, ok_lowest_entries F_P_lowest_entries T, g_P_lowest_entries, F_P_lowest_entries.kp, F_P_lowest_entries.bindsN fun _ _ _ _ _ _ us hl => match us, hl with | [_, _], _ => rfl⟩
  have C_P_is_passed_entries : Cal P w K mg base 3 "is_passed_entries" ["value"] spPassE := ⟨_, fd_P_is_passed_entries, ok_is_passed_entries F_P_is_passed_entries T C_P_is_passed, g_P_is_passed_entries, F_P_is_passed_entries.kp, F_P_is_passed_entries.bindsN fun _ _ _ _ _ _ us hl => match us, hl with | [_], _ => rfl⟩
  have C_P_norm_of : Cal P w K mg base 6 "norm_of" ["algebra", "entries", "bottom"] (spNorm (He.ga K "Ratio") (He.ga K "Algebra")) := ⟨_, fd_P_norm_of, ok_norm_of F_P_norm_of (⟨own_Algebra, He.noat_ok (c.fact 93 (f := .noat "Algebra" "places") rfl), He.noat_ok (c.fact 94 (f := .noat "Algebra" "a") rfl), He.noat_ok (c.fact 95 (f := .noat "Algebra" "b") rfl), He.noat_ok (c.fact 96 (f := .noat "Algebra" "discriminant") rfl), He.noat_ok (c.fact 97 (f := .noat "Algebra" "is_tables") rfl), He.noat_ok (c.fact 98 (f := .noat "Algebra" "is_definite") rfl)⟩ : AlgK K (He.ga K "Algebra")) C_P_made_ratio, g_P_norm_of, F_P_norm_of.kp, F_P_norm_of.bindsN fun _ _ _ _ _ _ us hl => match us, hl with | [_, _, _], _ => rfl⟩
  have OK_P_Four___init__ : FnOk P w K mg base CX0 7 _ fd_P_Four___init__ ["self", "algebra", "entries", "bottom"] (spFourInit (He.ga K "Four") (He.ga K "Ratio") (He.ga K "Algebra")) := ok_Four_init F_P_Four___init__ T (⟨own_Four, He.noat_ok (c.fact 101 (f := .noat "Four" "algebra") rfl), He.noat_ok (c.fact 102 (f := .noat "Four" "entries") rfl), He.noat_ok (c.fact 103 (f := .noat "Four" "bottom") rfl), He.noat_ok (c.fact 104 (f := .noat "Four" "trace") rfl), He.noat_ok (c.fact 105 (f := .noat "Four" "norm") rfl), He.noat_ok (c.fact 106 (f := .noat "Four" "is_ratio") rfl)⟩ : FourK K (He.ga K "Four")) C_P_check_algebra C_P_is_passed_entries C_P_is_passed C_P_lowest_entries C_P_made_ratio C_P_norm_of
  have C_P_made_four : Cal P w K mg base 9 "made_four" ["algebra", "entries", "bottom"] (spMadeFour (He.ga K "Four") (He.ga K "Ratio") (He.ga K "Algebra")) := ⟨_, fd_P_made_four, ok_made_four F_P_made_four (⟨own_Four, He.noat_ok (c.fact 101 (f := .noat "Four" "algebra") rfl), He.noat_ok (c.fact 102 (f := .noat "Four" "entries") rfl), He.noat_ok (c.fact 103 (f := .noat "Four" "bottom") rfl), He.noat_ok (c.fact 104 (f := .noat "Four" "trace") rfl), He.noat_ok (c.fact 105 (f := .noat "Four" "norm") rfl), He.noat_ok (c.fact 106 (f := .noat "Four" "is_ratio") rfl)⟩ : FourK K (He.ga K "Four")) C_P_lowest_entries (⟨_, fd_P_Four___init__, us_P_Four___init___2, OK_P_Four___init__, He.mkr_ok (c.fact 107 (f := .mkr "Four") rfl), (He.glo_ok X G (c.fact 99 (f := .glo "Four") rfl)), bd_P_Four___init___2, dv_P_Four___init___2⟩ : CalC P w K mg base 7 "Four" (He.ga K "Four") ["self", "algebra", "entries", "bottom"] [.int 1] (spFourInit (He.ga K "Four") (He.ga K "Ratio") (He.ga K "Algebra"))) C_P_made_ratio C_P_norm_of, g_P_made_four, F_P_made_four.kp, F_P_made_four.bindsN fun _ _ _ _ _ _ us hl => match us, hl with | [_, _, _], _ => rfl⟩
  have C_P_four_of_column : Cal P w K mg base 10 "four_of_column" ["algebra", "column"] (spCol (He.ga K "Four") (He.ga K "Ratio") (He.ga K "Algebra")) := ⟨_, fd_P_four_of_column, ok_four_of_column F_P_four_of_column T own_Ratio (⟨own_Ratio, He.noat_ok (c.fact 84 (f := .noat "Ratio" "top") rfl), He.noat_ok (c.fact 85 (f := .noat "Ratio" "bottom") rfl), He.noat_ok (c.fact 86 (f := .noat "Ratio" "sign") rfl)⟩ : RatioK K (He.ga K "Ratio")) C_P_made_four, g_P_four_of_column, F_P_four_of_column.kp, F_P_four_of_column.bindsN fun _ _ _ _ _ _ us hl => match us, hl with | [_, _], _ => rfl⟩
  have C_P_images_of : Cal P w K mg base 11 "images_of" ["algebra", "table"] (spImg (He.ga K "Four") (He.ga K "Ratio") (He.ga K "Algebra")) := ⟨_, fd_P_images_of, ok_images_of F_P_images_of T C_P_four_of_column, g_P_images_of, F_P_images_of.kp, F_P_images_of.bindsN fun _ _ _ _ _ _ us hl => match us, hl with | [_, _], _ => rfl⟩
  have OK_P_Algebra___eq__ : FnOk P w K mg base CX0 1 _ fd_P_Algebra___eq__ ["self", "value"] (spAlgEq (He.ga K "Algebra")) := ok_Algebra_eq F_P_Algebra___eq__ T (⟨own_Algebra, He.noat_ok (c.fact 93 (f := .noat "Algebra" "places") rfl), He.noat_ok (c.fact 94 (f := .noat "Algebra" "a") rfl), He.noat_ok (c.fact 95 (f := .noat "Algebra" "b") rfl), He.noat_ok (c.fact 96 (f := .noat "Algebra" "discriminant") rfl), He.noat_ok (c.fact 97 (f := .noat "Algebra" "is_tables") rfl), He.noat_ok (c.fact 98 (f := .noat "Algebra" "is_definite") rfl)⟩ : AlgK K (He.ga K "Algebra")) (He.glo_ok X G (c.fact 91 (f := .glo "Algebra") rfl))
  have C_P_check_operands : Cal P w K mg base 3 "check_operands" ["one", "other"] (spOperands (He.ga K "Four") (He.ga K "Ratio") (He.ga K "Algebra")) := ⟨_, fd_P_check_operands, ok_check_operands F_P_check_operands (⟨own_Four, He.noat_ok (c.fact 101 (f := .noat "Four" "algebra") rfl), He.noat_ok (c.fact 102 (f := .noat "Four" "entries") rfl), He.noat_ok (c.fact 103 (f := .noat "Four" "bottom") rfl), He.noat_ok (c.fact 104 (f := .noat "Four" "trace") rfl), He.noat_ok (c.fact 105 (f := .noat "Four" "norm") rfl), He.noat_ok (c.fact 106 (f := .noat "Four" "is_ratio") rfl)⟩ : FourK K (He.ga K "Four")) own_Algebra (⟨_, fd_P_Algebra___eq__, OK_P_Algebra___eq__, He.meth_ok (c.fact 108 (f := .meth "Algebra" "__eq__") rfl), F_P_Algebra___eq__.bindsN fun _ _ _ _ _ _ us hl => match us, hl with | [_, _], _ => rfl⟩ : CalM P w K mg base 1 "__eq__" (He.ga K "Algebra") ["self", "value"] (spAlgEq (He.ga K "Algebra"))), g_P_check_operands, F_P_check_operands.kp, F_P_check_operands.bindsN fun _ _ _ _ _ _ us hl => match us, hl with | [_, _], _ => rfl⟩
  have C_P_product_entries : Cal P w K mg base 1 "product_entries" ["algebra", "one", "other"] (spProd (He.ga K "Algebra")) := ⟨_, fd_P_product_entries, ok_product_entries F_P_product_entries (⟨own_Algebra, He.noat_ok (c.fact 93 (f := .noat "Algebra" "places") rfl), He.noat_ok (c.fact 94 (f := .noat "Algebra" "a") rfl), He.noat_ok (c.fact 95 (f := .noat "Algebra" "b") rfl), He.noat_ok (c.fact 96 (f := .noat "Algebra" "discriminant") rfl), He.noat_ok (c.fact 97 (f := .noat "Algebra" "is_tables") rfl), He.noat_ok (c.fact 98 (f := .noat "Algebra" "is_definite") rfl)⟩ : AlgK K (He.ga K "Algebra")), g_P_product_entries, F_P_product_entries.kp, F_P_product_entries.bindsN fun _ _ _ _ _ _ us hl => match us, hl with | [_, _, _], _ => rfl⟩
  have OK_P_Four___mul__ : FnOk P w K mg base CX0 10 _ fd_P_Four___mul__ ["self", "other"] (spFourOp (He.ga K "Four") (He.ga K "Ratio") (He.ga K "Algebra") prodQ) := ok_Four_mul F_P_Four___mul__ T (⟨own_Four, He.noat_ok (c.fact 101 (f := .noat "Four" "algebra") rfl), He.noat_ok (c.fact 102 (f := .noat "Four" "entries") rfl), He.noat_ok (c.fact 103 (f := .noat "Four" "bottom") rfl), He.noat_ok (c.fact 104 (f := .noat "Four" "trace") rfl), He.noat_ok (c.fact 105 (f := .noat "Four" "norm") rfl), He.noat_ok (c.fact 106 (f := .noat "Four" "is_ratio") rfl)⟩ : FourK K (He.ga K "Four")) (He.glo_ok X G (c.fact 99 (f := .glo "Four") rfl)) C_P_check_operands C_P_product_entries C_P_made_four
  have OK_P_Four___eq__ : FnOk P w K mg base CX0 2 _ fd_P_Four___eq__ ["self", "value"] (spFourEq (He.ga K "Four") (He.ga K "Ratio") (He.ga K "Algebra")) := ok_Four_eq F_P_Four___eq__ T (⟨own_Four, He.noat_ok (c.fact 101 (f := .noat "Four" "algebra") rfl), He.noat_ok (c.fact 102 (f := .noat "Four" "entries") rfl), He.noat_ok (c.fact 103 (f := .noat "Four" "bottom") rfl), He.noat_ok (c.fact 104 (f := .noat "Four" "trace") rfl), He.noat_ok (c.fact 105 (f := .noat "Four" "norm") rfl), He.noat_ok (c.fact 106 (f := .noat "Four" "is_ratio") rfl)⟩ : FourK K (He.ga K "Four")) (He.glo_ok X G (c.fact 99 (f := .glo "Four") rfl)) own_Algebra (⟨_, fd_P_Algebra___eq__, OK_P_Algebra___eq__, He.meth_ok (c.fact 108 (f := .meth "Algebra" "__eq__") rfl), F_P_Algebra___eq__.bindsN fun _ _ _ _ _ _ us hl => match us, hl with | [_, _], _ => rfl⟩ : CalM P w K mg base 1 "__eq__" (He.ga K "Algebra") ["self", "value"] (spAlgEq (He.ga K "Algebra")))
  have C_P_check_ratio : Cal P w K mg base 4 "check_ratio" ["value"] (spRatV (He.ga K "Ratio") .non) := ⟨_, fd_P_check_ratio, ok_check_ratio F_P_check_ratio C_P_is_fraction, g_P_check_ratio, F_P_check_ratio.kp, F_P_check_ratio.bindsN fun _ _ _ _ _ _ us hl => match us, hl with | [_], _ => rfl⟩
  have OK_P_Four_scaled : FnOk P w K mg base CX0 10 _ fd_P_Four_scaled ["self", "ratio"] (spScaled (He.ga K "Four") (He.ga K "Ratio") (He.ga K "Algebra")) := ok_Four_scaled F_P_Four_scaled T (⟨own_Four, He.noat_ok (c.fact 101 (f := .noat "Four" "algebra") rfl), He.noat_ok (c.fact 102 (f := .noat "Four" "entries") rfl), He.noat_ok (c.fact 103 (f := .noat "Four" "bottom") rfl), He.noat_ok (c.fact 104 (f := .noat "Four" "trace") rfl), He.noat_ok (c.fact 105 (f := .noat "Four" "norm") rfl), He.noat_ok (c.fact 106 (f := .noat "Four" "is_ratio") rfl)⟩ : FourK K (He.ga K "Four")) C_P_check_ratio C_P_terms_of C_P_made_four
  have OK_P_Algebra_basis : FnOk P w K mg base CX0 9 _ fd_P_Algebra_basis ["self"] (spBasis (He.ga K "Four") (He.ga K "Ratio") (He.ga K "Algebra")) := ok_Algebra_basis F_P_Algebra_basis (⟨_, fd_P_Four___init__, us_P_Four___init___2, OK_P_Four___init__, He.mkr_ok (c.fact 107 (f := .mkr "Four") rfl), (He.glo_ok X G (c.fact 99 (f := .glo "Four") rfl)), bd_P_Four___init___2, dv_P_Four___init___2⟩ : CalC P w K mg base 7 "Four" (He.ga K "Four") ["self", "algebra", "entries", "bottom"] [.int 1] (spFourInit (He.ga K "Four") (He.ga K "Ratio") (He.ga K "Algebra")))
  have C_P_is_turn : Cal P w K mg base 12 "is_turn" ["algebra", "value"] (spIsTurn (He.ga K "Four") (He.ga K "Ratio") (He.ga K "Algebra")) := ⟨_, fd_P_is_turn, ok_is_turn F_P_is_turn (⟨own_Four, He.noat_ok (c.fact 101 (f := .noat "Four" "algebra") rfl), He.noat_ok (c.fact 102 (f := .noat "Four" "entries") rfl), He.noat_ok (c.fact 103 (f := .noat "Four" "bottom") rfl), He.noat_ok (c.fact 104 (f := .noat "Four" "trace") rfl), He.noat_ok (c.fact 105 (f := .noat "Four" "norm") rfl), He.noat_ok (c.fact 106 (f := .noat "Four" "is_ratio") rfl)⟩ : FourK K (He.ga K "Four")) (⟨own_Algebra, He.noat_ok (c.fact 93 (f := .noat "Algebra" "places") rfl), He.noat_ok (c.fact 94 (f := .noat "Algebra" "a") rfl), He.noat_ok (c.fact 95 (f := .noat "Algebra" "b") rfl), He.noat_ok (c.fact 96 (f := .noat "Algebra" "discriminant") rfl), He.noat_ok (c.fact 97 (f := .noat "Algebra" "is_tables") rfl), He.noat_ok (c.fact 98 (f := .noat "Algebra" "is_definite") rfl)⟩ : AlgK K (He.ga K "Algebra")) C_P_check_algebra C_P_is_table C_P_images_of own_Four own_Algebra (⟨_, fd_P_Four___mul__, OK_P_Four___mul__, He.meth_ok (c.fact 109 (f := .meth "Four" "__mul__") rfl), F_P_Four___mul__.bindsN fun _ _ _ _ _ _ us hl => match us, hl with | [_, _], _ => rfl⟩ : CalM P w K mg base 10 "__mul__" (He.ga K "Four") ["self", "other"] (spFourOp (He.ga K "Four") (He.ga K "Ratio") (He.ga K "Algebra") prodQ)) (⟨_, fd_P_Four___eq__, OK_P_Four___eq__, He.meth_ok (c.fact 110 (f := .meth "Four" "__eq__") rfl), F_P_Four___eq__.bindsN fun _ _ _ _ _ _ us hl => match us, hl with | [_, _], _ => rfl⟩ : CalM P w K mg base 2 "__eq__" (He.ga K "Four") ["self", "value"] (spFourEq (He.ga K "Four") (He.ga K "Ratio") (He.ga K "Algebra"))) (⟨_, fd_P_Four_scaled, OK_P_Four_scaled, He.meth_ok (c.fact 111 (f := .meth "Four" "scaled") rfl), F_P_Four_scaled.bindsN fun _ _ _ _ _ _ us hl => match us, hl with | [_, _], _ => rfl⟩ : CalM P w K mg base 10 "scaled" (He.ga K "Four") ["self", "ratio"] (spScaled (He.ga K "Four") (He.ga K "Ratio") (He.ga K "Algebra"))) (⟨_, fd_P_Algebra_basis, OK_P_Algebra_basis, He.meth_ok (c.fact 112 (f := .meth "Algebra" "basis") rfl), F_P_Algebra_basis.bindsN fun _ _ _ _ _ _ us hl => match us, hl with | [_], _ => rfl⟩ : CalM P w K mg base 9 "basis" (He.ga K "Algebra") ["self"] (spBasis (He.ga K "Four") (He.ga K "Ratio") (He.ga K "Algebra"))), g_P_is_turn, F_P_is_turn.kp, F_P_is_turn.bindsN fun _ _ _ _ _ _ us hl => match us, hl with | [_, _], _ => rfl⟩
  have OK_P_Four___add__ : FnOk P w K mg base CX0 10 _ fd_P_Four___add__ ["self", "other"] (spFourOp (He.ga K "Four") (He.ga K "Ratio") (He.ga K "Algebra") addQ) := ok_Four_add F_P_Four___add__ T (⟨own_Four, He.noat_ok (c.fact 101 (f := .noat "Four" "algebra") rfl), He.noat_ok (c.fact 102 (f := .noat "Four" "entries") rfl), He.noat_ok (c.fact 103 (f := .noat "Four" "bottom") rfl), He.noat_ok (c.fact 104 (f := .noat "Four" "trace") rfl), He.noat_ok (c.fact 105 (f := .noat "Four" "norm") rfl), He.noat_ok (c.fact 106 (f := .noat "Four" "is_ratio") rfl)⟩ : FourK K (He.ga K "Four")) (He.glo_ok X G (c.fact 99 (f := .glo "Four") rfl)) C_P_check_operands C_P_made_four
  have OK_P_Four___neg__ : FnOk P w K mg base CX0 10 _ fd_P_Four___neg__ ["self"] (spFour1 (He.ga K "Four") (He.ga K "Ratio") (He.ga K "Algebra") negQ) := ok_Four_neg F_P_Four___neg__ T (⟨own_Four, He.noat_ok (c.fact 101 (f := .noat "Four" "algebra") rfl), He.noat_ok (c.fact 102 (f := .noat "Four" "entries") rfl), He.noat_ok (c.fact 103 (f := .noat "Four" "bottom") rfl), He.noat_ok (c.fact 104 (f := .noat "Four" "trace") rfl), He.noat_ok (c.fact 105 (f := .noat "Four" "norm") rfl), He.noat_ok (c.fact 106 (f := .noat "Four" "is_ratio") rfl)⟩ : FourK K (He.ga K "Four")) C_P_made_four
  have OK_P_Four___sub__ : FnOk P w K mg base CX0 12 _ fd_P_Four___sub__ ["self", "other"] (spFourOp (He.ga K "Four") (He.ga K "Ratio") (He.ga K "Algebra") subQ) := ok_Four_sub F_P_Four___sub__ T (⟨own_Four, He.noat_ok (c.fact 101 (f := .noat "Four" "algebra") rfl), He.noat_ok (c.fact 102 (f := .noat "Four" "entries") rfl), He.noat_ok (c.fact 103 (f := .noat "Four" "bottom") rfl), He.noat_ok (c.fact 104 (f := .noat "Four" "trace") rfl), He.noat_ok (c.fact 105 (f := .noat "Four" "norm") rfl), He.noat_ok (c.fact 106 (f := .noat "Four" "is_ratio") rfl)⟩ : FourK K (He.ga K "Four")) (He.glo_ok X G (c.fact 99 (f := .glo "Four") rfl)) own_Four (⟨_, fd_P_Four___neg__, OK_P_Four___neg__, He.meth_ok (c.fact 113 (f := .meth "Four" "__neg__") rfl), F_P_Four___neg__.bindsN fun _ _ _ _ _ _ us hl => match us, hl with | [_], _ => rfl⟩ : CalM P w K mg base 10 "__neg__" (He.ga K "Four") ["self"] (spFour1 (He.ga K "Four") (He.ga K "Ratio") (He.ga K "Algebra") negQ)) (⟨_, fd_P_Four___add__, OK_P_Four___add__, He.meth_ok (c.fact 114 (f := .meth "Four" "__add__") rfl), F_P_Four___add__.bindsN fun _ _ _ _ _ _ us hl => match us, hl with | [_, _], _ => rfl⟩ : CalM P w K mg base 10 "__add__" (He.ga K "Four") ["self", "other"] (spFourOp (He.ga K "Four") (He.ga K "Ratio") (He.ga K "Algebra") addQ))
  have OK_P_Ratio___bool__ : FnOk P w K mg base CX0 1 _ fd_P_Ratio___bool__ ["self"] (spRatBool (He.ga K "Ratio")) := ok_Ratio_bool F_P_Ratio___bool__ T (⟨own_Ratio, He.noat_ok (c.fact 84 (f := .noat "Ratio" "top") rfl), He.noat_ok (c.fact 85 (f := .noat "Ratio" "bottom") rfl), He.noat_ok (c.fact 86 (f := .noat "Ratio" "sign") rfl)⟩ : RatioK K (He.ga K "Ratio"))
  have C_P_mate_entries : Cal P w K mg base 1 "mate_entries" ["entries"] spMateE := ⟨_, fd_P_mate_entries, ok_mate_entries F_P_mate_entries , g_P_mate_entries, F_P_mate_entries.kp, F_P_mate_entries.bindsN fun _ _ _ _ _ _ us hl => match us, hl with | [_], _ => rfl⟩
  have OK_P_Four_inverse : FnOk P w K mg base CX0 10 _ fd_P_Four_inverse ["self"] (spInverse (He.ga K "Four") (He.ga K "Ratio") (He.ga K "Algebra")) := ok_Four_inverse F_P_Four_inverse T (⟨own_Four, He.noat_ok (c.fact 101 (f := .noat "Four" "algebra") rfl), He.noat_ok (c.fact 102 (f := .noat "Four" "entries") rfl), He.noat_ok (c.fact 103 (f := .noat "Four" "bottom") rfl), He.noat_ok (c.fact 104 (f := .noat "Four" "trace") rfl), He.noat_ok (c.fact 105 (f := .noat "Four" "norm") rfl), He.noat_ok (c.fact 106 (f := .noat "Four" "is_ratio") rfl)⟩ : FourK K (He.ga K "Four")) (⟨own_Ratio, He.noat_ok (c.fact 84 (f := .noat "Ratio" "top") rfl), He.noat_ok (c.fact 85 (f := .noat "Ratio" "bottom") rfl), He.noat_ok (c.fact 86 (f := .noat "Ratio" "sign") rfl)⟩ : RatioK K (He.ga K "Ratio")) (⟨_, fd_P_Ratio___bool__, OK_P_Ratio___bool__, He.meth_ok (c.fact 115 (f := .meth "Ratio" "__bool__") rfl), F_P_Ratio___bool__.bindsN fun _ _ _ _ _ _ us hl => match us, hl with | [_], _ => rfl⟩ : CalM P w K mg base 1 "__bool__" (He.ga K "Ratio") ["self"] (spRatBool (He.ga K "Ratio"))) C_P_mate_entries C_P_made_four
  have C_P_led_sum : Cal P w K mg base 13 "led_sum" ["images", "units", "start"] (spLed (He.ga K "Four") (He.ga K "Ratio") (He.ga K "Algebra")) := ⟨_, fd_P_led_sum, ok_led_sum F_P_led_sum T own_Four (⟨_, fd_P_Four___add__, OK_P_Four___add__, He.meth_ok (c.fact 114 (f := .meth "Four" "__add__") rfl), F_P_Four___add__.bindsN fun _ _ _ _ _ _ us hl => match us, hl with | [_, _], _ => rfl⟩ : CalM P w K mg base 10 "__add__" (He.ga K "Four") ["self", "other"] (spFourOp (He.ga K "Four") (He.ga K "Ratio") (He.ga K "Algebra") addQ)) (⟨_, fd_P_Four___sub__, OK_P_Four___sub__, He.meth_ok (c.fact 116 (f := .meth "Four" "__sub__") rfl), F_P_Four___sub__.bindsN fun _ _ _ _ _ _ us hl => match us, hl with | [_, _], _ => rfl⟩ : CalM P w K mg base 12 "__sub__" (He.ga K "Four") ["self", "other"] (spFourOp (He.ga K "Four") (He.ga K "Ratio") (He.ga K "Algebra") subQ)) (⟨_, fd_P_Four___mul__, OK_P_Four___mul__, He.meth_ok (c.fact 109 (f := .meth "Four" "__mul__") rfl), F_P_Four___mul__.bindsN fun _ _ _ _ _ _ us hl => match us, hl with | [_, _], _ => rfl⟩ : CalM P w K mg base 10 "__mul__" (He.ga K "Four") ["self", "other"] (spFourOp (He.ga K "Four") (He.ga K "Ratio") (He.ga K "Algebra") prodQ)) (⟨_, fd_P_Four_inverse, OK_P_Four_inverse, He.meth_ok (c.fact 117 (f := .meth "Four" "inverse") rfl), F_P_Four_inverse.bindsN fun _ _ _ _ _ _ us hl => match us, hl with | [_], _ => rfl⟩ : CalM P w K mg base 10 "inverse" (He.ga K "Four") ["self"] (spInverse (He.ga K "Four") (He.ga K "Ratio") (He.ga K "Algebra"))), g_P_led_sum, F_P_led_sum.kp, F_P_led_sum.bindsN fun _ _ _ _ _ _ us hl => match us, hl with | [_, _, _], _ => rfl⟩
  have C_P_primitive : Cal P w K mg base 10 "primitive" ["four"] (spPrim (He.ga K "Four") (He.ga K "Ratio") (He.ga K "Algebra")) := ⟨_, fd_P_primitive, ok_primitive F_P_primitive T (⟨own_Four, He.noat_ok (c.fact 101 (f := .noat "Four" "algebra") rfl), He.noat_ok (c.fact 102 (f := .noat "Four" "entries") rfl), He.noat_ok (c.fact 103 (f := .noat "Four" "bottom") rfl), He.noat_ok (c.fact 104 (f := .noat "Four" "trace") rfl), He.noat_ok (c.fact 105 (f := .noat "Four" "norm") rfl), He.noat_ok (c.fact 106 (f := .noat "Four" "is_ratio") rfl)⟩ : FourK K (He.ga K "Four")) C_P_made_four, g_P_primitive, F_P_primitive.kp, F_P_primitive.bindsN fun _ _ _ _ _ _ us hl => match us, hl with | [_], _ => rfl⟩
  have OK_P_Four___bool__ : FnOk P w K mg base CX0 1 _ fd_P_Four___bool__ ["self"] (spFourBool (He.ga K "Four") (He.ga K "Ratio")) := ok_Four_bool F_P_Four___bool__ T (⟨own_Four, He.noat_ok (c.fact 101 (f := .noat "Four" "algebra") rfl), He.noat_ok (c.fact 102 (f := .noat "Four" "entries") rfl), He.noat_ok (c.fact 103 (f := .noat "Four" "bottom") rfl), He.noat_ok (c.fact 104 (f := .noat "Four" "trace") rfl), He.noat_ok (c.fact 105 (f := .noat "Four" "norm") rfl), He.noat_ok (c.fact 106 (f := .noat "Four" "is_ratio") rfl)⟩ : FourK K (He.ga K "Four"))
  have C_P_four_of_turn : CalX P w K mg base 14 "four_of_turn" ["algebra", "table"] (spFot (He.ga K "Four") (He.ga K "Ratio") (He.ga K "Algebra") (He.ga K "InvalidOperation")) := ⟨_, fd_P_four_of_turn, ok_four_of_turn F_P_four_of_turn C_P_is_turn C_P_images_of C_P_led_sum C_P_primitive own_Four own_Algebra (⟨_, fd_P_Four___bool__, OK_P_Four___bool__, He.meth_ok (c.fact 118 (f := .meth "Four" "__bool__") rfl), F_P_Four___bool__.bindsN fun _ _ _ _ _ _ us hl => match us, hl with | [_], _ => rfl⟩ : CalM P w K mg base 1 "__bool__" (He.ga K "Four") ["self"] (spFourBool (He.ga K "Four") (He.ga K "Ratio"))) (⟨_, fd_P_Algebra_basis, OK_P_Algebra_basis, He.meth_ok (c.fact 112 (f := .meth "Algebra" "basis") rfl), F_P_Algebra_basis.bindsN fun _ _ _ _ _ _ us hl => match us, hl with | [_], _ => rfl⟩ : CalM P w K mg base 9 "basis" (He.ga K "Algebra") ["self"] (spBasis (He.ga K "Four") (He.ga K "Ratio") (He.ga K "Algebra"))) err_InvalidOperation (He.glo_ok X G (c.fact 119 (f := .glo "InvalidOperation") rfl)), g_P_four_of_turn, F_P_four_of_turn.kp, F_P_four_of_turn.bindsN fun _ _ _ _ _ _ us hl => match us, hl with | [_, _], _ => rfl⟩
  have C_L_is_refused : Cal P w K mg base 15 "_law_is_refused" ["_law_algebra", "_law_table"] (spRef (He.ga K "Four") (He.ga K "Ratio") (He.ga K "Algebra")) := ⟨_, fd_L_is_refused, ok_is_refused F_L_is_refused C_P_four_of_turn err_InvalidOperation (He.glo_ok X G (c.fact 119 (f := .glo "InvalidOperation") rfl)), g_L_is_refused, F_L_is_refused.kp, F_L_is_refused.bindsN fun _ _ _ _ _ _ us hl => match us, hl with | [_, _], _ => rfl⟩
  have C_P_check_four : Cal P w K mg base 1 "check_four" ["value"] (spIsFour (He.ga K "Four")) := ⟨_, fd_P_check_four, ok_check_four F_P_check_four T (⟨own_Four, He.noat_ok (c.fact 101 (f := .noat "Four" "algebra") rfl), He.noat_ok (c.fact 102 (f := .noat "Four" "entries") rfl), He.noat_ok (c.fact 103 (f := .noat "Four" "bottom") rfl), He.noat_ok (c.fact 104 (f := .noat "Four" "trace") rfl), He.noat_ok (c.fact 105 (f := .noat "Four" "norm") rfl), He.noat_ok (c.fact 106 (f := .noat "Four" "is_ratio") rfl)⟩ : FourK K (He.ga K "Four")) (He.glo_ok X G (c.fact 99 (f := .glo "Four") rfl)), g_P_check_four, F_P_check_four.kp, F_P_check_four.bindsN fun _ _ _ _ _ _ us hl => match us, hl with | [_], _ => rfl⟩
  have C_P_check_fours : Cal P w K mg base 3 "check_fours" ["one", "other"] (spFours (He.ga K "Four") (He.ga K "Ratio") (He.ga K "Algebra")) := ⟨_, fd_P_check_fours, ok_check_fours F_P_check_fours (⟨own_Four, He.noat_ok (c.fact 101 (f := .noat "Four" "algebra") rfl), He.noat_ok (c.fact 102 (f := .noat "Four" "entries") rfl), He.noat_ok (c.fact 103 (f := .noat "Four" "bottom") rfl), He.noat_ok (c.fact 104 (f := .noat "Four" "trace") rfl), He.noat_ok (c.fact 105 (f := .noat "Four" "norm") rfl), He.noat_ok (c.fact 106 (f := .noat "Four" "is_ratio") rfl)⟩ : FourK K (He.ga K "Four")) C_P_check_four own_Algebra (⟨_, fd_P_Algebra___eq__, OK_P_Algebra___eq__, He.meth_ok (c.fact 108 (f := .meth "Algebra" "__eq__") rfl), F_P_Algebra___eq__.bindsN fun _ _ _ _ _ _ us hl => match us, hl with | [_, _], _ => rfl⟩ : CalM P w K mg base 1 "__eq__" (He.ga K "Algebra") ["self", "value"] (spAlgEq (He.ga K "Algebra"))), g_P_check_fours, F_P_check_fours.kp, F_P_check_fours.bindsN fun _ _ _ _ _ _ us hl => match us, hl with | [_, _], _ => rfl⟩
  have C_P_turned : Cal P w K mg base 11 "turned" ["one", "other"] (spTurned (He.ga K "Four") (He.ga K "Ratio") (He.ga K "Algebra")) := ⟨_, fd_P_turned, ok_turned F_P_turned T (⟨own_Four, He.noat_ok (c.fact 101 (f := .noat "Four" "algebra") rfl), He.noat_ok (c.fact 102 (f := .noat "Four" "entries") rfl), He.noat_ok (c.fact 103 (f := .noat "Four" "bottom") rfl), He.noat_ok (c.fact 104 (f := .noat "Four" "trace") rfl), He.noat_ok (c.fact 105 (f := .noat "Four" "norm") rfl), He.noat_ok (c.fact 106 (f := .noat "Four" "is_ratio") rfl)⟩ : FourK K (He.ga K "Four")) C_P_check_fours own_Ratio own_Four (⟨_, fd_P_Ratio___bool__, OK_P_Ratio___bool__, He.meth_ok (c.fact 115 (f := .meth "Ratio" "__bool__") rfl), F_P_Ratio___bool__.bindsN fun _ _ _ _ _ _ us hl => match us, hl with | [_], _ => rfl⟩ : CalM P w K mg base 1 "__bool__" (He.ga K "Ratio") ["self"] (spRatBool (He.ga K "Ratio"))) (⟨_, fd_P_Four___mul__, OK_P_Four___mul__, He.meth_ok (c.fact 109 (f := .meth "Four" "__mul__") rfl), F_P_Four___mul__.bindsN fun _ _ _ _ _ _ us hl => match us, hl with | [_, _], _ => rfl⟩ : CalM P w K mg base 10 "__mul__" (He.ga K "Four") ["self", "other"] (spFourOp (He.ga K "Four") (He.ga K "Ratio") (He.ga K "Algebra") prodQ)) (⟨_, fd_P_Four_inverse, OK_P_Four_inverse, He.meth_ok (c.fact 117 (f := .meth "Four" "inverse") rfl), F_P_Four_inverse.bindsN fun _ _ _ _ _ _ us hl => match us, hl with | [_], _ => rfl⟩ : CalM P w K mg base 10 "inverse" (He.ga K "Four") ["self"] (spInverse (He.ga K "Four") (He.ga K "Ratio") (He.ga K "Algebra"))), g_P_turned, F_P_turned.kp, F_P_turned.bindsN fun _ _ _ _ _ _ us hl => match us, hl with | [_, _], _ => rfl⟩
  have C_P_entry_of : Cal P w K mg base 6 "entry_of" ["four", "at"] (spEntry (He.ga K "Four") (He.ga K "Ratio")) := ⟨_, fd_P_entry_of, ok_entry_of F_P_entry_of (⟨own_Four, He.noat_ok (c.fact 101 (f := .noat "Four" "algebra") rfl), He.noat_ok (c.fact 102 (f := .noat "Four" "entries") rfl), He.noat_ok (c.fact 103 (f := .noat "Four" "bottom") rfl), He.noat_ok (c.fact 104 (f := .noat "Four" "trace") rfl), He.noat_ok (c.fact 105 (f := .noat "Four" "norm") rfl), He.noat_ok (c.fact 106 (f := .noat "Four" "is_ratio") rfl)⟩ : FourK K (He.ga K "Four")) C_P_made_ratio, g_P_entry_of, F_P_entry_of.kp, F_P_entry_of.bindsN fun _ _ _ _ _ _ us hl => match us, hl with | [_, _], _ => rfl⟩
  have C_P_turn_of : Cal P w K mg base 12 "turn_of" ["four"] (spTurnOf (He.ga K "Four") (He.ga K "Ratio") (He.ga K "Algebra")) := ⟨_, fd_P_turn_of, ok_turn_of F_P_turn_of T (⟨own_Four, He.noat_ok (c.fact 101 (f := .noat "Four" "algebra") rfl), He.noat_ok (c.fact 102 (f := .noat "Four" "entries") rfl), He.noat_ok (c.fact 103 (f := .noat "Four" "bottom") rfl), He.noat_ok (c.fact 104 (f := .noat "Four" "trace") rfl), He.noat_ok (c.fact 105 (f := .noat "Four" "norm") rfl), He.noat_ok (c.fact 106 (f := .noat "Four" "is_ratio") rfl)⟩ : FourK K (He.ga K "Four")) C_P_check_four C_P_turned C_P_entry_of own_Ratio own_Algebra (⟨_, fd_P_Ratio___bool__, OK_P_Ratio___bool__, He.meth_ok (c.fact 115 (f := .meth "Ratio" "__bool__") rfl), F_P_Ratio___bool__.bindsN fun _ _ _ _ _ _ us hl => match us, hl with | [_], _ => rfl⟩ : CalM P w K mg base 1 "__bool__" (He.ga K "Ratio") ["self"] (spRatBool (He.ga K "Ratio"))) (⟨_, fd_P_Algebra_basis, OK_P_Algebra_basis, He.meth_ok (c.fact 112 (f := .meth "Algebra" "basis") rfl), F_P_Algebra_basis.bindsN fun _ _ _ _ _ _ us hl => match us, hl with | [_], _ => rfl⟩ : CalM P w K mg base 9 "basis" (He.ga K "Algebra") ["self"] (spBasis (He.ga K "Four") (He.ga K "Ratio") (He.ga K "Algebra"))), g_P_turn_of, F_P_turn_of.kp, F_P_turn_of.bindsN fun _ _ _ _ _ _ us hl => match us, hl with | [_], _ => rfl⟩
  have C_P_check_number : Cal P w K mg base 2 "check_number" ["value"] spCheckNumber := ⟨_, fd_P_check_number, ok_check_number F_P_check_number T C_P_is_integer, g_P_check_number, F_P_check_number.kp, F_P_check_number.bindsN fun _ _ _ _ _ _ us hl => match us, hl with | [_], _ => rfl⟩
  have C_P_stripped : Cal P w K mg base 1 "stripped" ["number", "prime"] spStripped := ⟨_, fd_P_stripped, ok_stripped F_P_stripped , g_P_stripped, F_P_stripped.kp, F_P_stripped.bindsN fun _ _ _ _ _ _ us hl => match us, hl with | [_, _], _ => rfl⟩
  have C_P_next_divisor : Cal P w K mg base 1 "next_divisor" ["divisor"] spNext := ⟨_, fd_P_next_divisor, ok_next F_P_next_divisor , g_P_next_divisor, F_P_next_divisor.kp, F_P_next_divisor.bindsN fun _ _ _ _ _ _ us hl => match us, hl with | [_], _ => rfl⟩
  have C_P_prime_powers : Cal P w K mg base 2 "prime_powers" ["number"] spFactors := ⟨_, fd_P_prime_powers, ok_prime_powers F_P_prime_powers T C_P_stripped C_P_next_divisor, g_P_prime_powers, F_P_prime_powers.kp, F_P_prime_powers.bindsN fun _ _ _ _ _ _ us hl => match us, hl with | [_], _ => rfl⟩
  have C_P_factors : Cal P w K mg base 3 "factors" ["number"] spFactors := ⟨_, fd_P_factors, ok_factors F_P_factors C_P_check_number C_P_prime_powers, g_P_factors, F_P_factors.kp, F_P_factors.bindsN fun _ _ _ _ _ _ us hl => match us, hl with | [_], _ => rfl⟩
  have C_P_quarter : Cal P w K mg base 1 "quarter" ["unit"] spQuarter := ⟨_, fd_P_quarter, ok_quarter F_P_quarter , g_P_quarter, F_P_quarter.kp, F_P_quarter.bindsN fun _ _ _ _ _ _ us hl => match us, hl with | [_], _ => rfl⟩
  have C_P_eighth : Cal P w K mg base 1 "eighth" ["unit"] spEighth := ⟨_, fd_P_eighth, ok_eighth F_P_eighth , g_P_eighth, F_P_eighth.kp, F_P_eighth.bindsN fun _ _ _ _ _ _ us hl => match us, hl with | [_], _ => rfl⟩
  have C_P_sign_at_two : Cal P w K mg base 2 "sign_at_two" ["a", "b"] (spSgn true) := ⟨_, fd_P_sign_at_two, ok_sign_at_two F_P_sign_at_two C_P_stripped C_P_quarter C_P_eighth, g_P_sign_at_two, F_P_sign_at_two.kp, F_P_sign_at_two.bindsN fun _ _ _ _ _ _ us hl => match us, hl with | [_, _], _ => rfl⟩
  have C_P_power_modulo : Cal P w K mg base 1 "power_modulo" ["number", "many", "modulus"] spPowMod := ⟨_, fd_P_power_modulo, ok_powmod F_P_power_modulo , g_P_power_modulo, F_P_power_modulo.kp, F_P_power_modulo.bindsN fun _ _ _ _ _ _ us hl => match us, hl with | [_, _, _], _ => rfl⟩
  have C_P_rest_sign : Cal P w K mg base 2 "rest_sign" ["number", "prime"] spRestSign := ⟨_, fd_P_rest_sign, ok_rest_sign F_P_rest_sign C_P_power_modulo, g_P_rest_sign, F_P_rest_sign.kp, F_P_rest_sign.bindsN fun _ _ _ _ _ _ us hl => match us, hl with | [_, _], _ => rfl⟩
  have C_P_sign_at_odd : Cal P w K mg base 3 "sign_at_odd" ["a", "b", "prime"] (spSgn false) := ⟨_, fd_P_sign_at_odd, ok_sign_at_odd F_P_sign_at_odd C_P_stripped C_P_rest_sign, g_P_sign_at_odd, F_P_sign_at_odd.kp, F_P_sign_at_odd.bindsN fun _ _ _ _ _ _ us hl => match us, hl with | [_, _, _], _ => rfl⟩
  have C_P_sign : Cal P w K mg base 4 "sign" ["a", "b", "place"] spSign := ⟨_, fd_P_sign, ok_sign F_P_sign C_P_sign_at_two C_P_sign_at_odd, g_P_sign, F_P_sign.kp, F_P_sign.bindsN fun _ _ _ _ _ _ us hl => match us, hl with | [_, _, _], _ => rfl⟩
  have C_P_signed_places : Cal P w K mg base 5 "signed_places" ["a", "b"] spPlaces := ⟨_, fd_P_signed_places, ok_signed_places F_P_signed_places T C_P_check_number C_P_factors C_P_sign, g_P_signed_places, F_P_signed_places.kp, F_P_signed_places.bindsN fun _ _ _ _ _ _ us hl => match us, hl with | [_, _], _ => rfl⟩
  have C_P_product_of_primes : Cal P w K mg base 1 "product_of_primes" ["places"] spDisc := ⟨_, fd_P_product_of_primes, ok_product_of_primes F_P_product_of_primes , g_P_product_of_primes, F_P_product_of_primes.kp, F_P_product_of_primes.bindsN fun _ _ _ _ _ _ us hl => match us, hl with | [_], _ => rfl⟩
  have OK_P_Algebra___init__ : FnOk P w K mg base CX0 6 _ fd_P_Algebra___init__ ["self", "a", "b"] (spAlgInit (He.ga K "Algebra")) := ok_Algebra_init F_P_Algebra___init__ T (⟨own_Algebra, He.noat_ok (c.fact 93 (f := .noat "Algebra" "places") rfl), He.noat_ok (c.fact 94 (f := .noat "Algebra" "a") rfl), He.noat_ok (c.fact 95 (f := .noat "Algebra" "b") rfl), He.noat_ok (c.fact 96 (f := .noat "Algebra" "discriminant") rfl), He.noat_ok (c.fact 97 (f := .noat "Algebra" "is_tables") rfl), He.noat_ok (c.fact 98 (f := .noat "Algebra" "is_definite") rfl)⟩ : AlgK K (He.ga K "Algebra")) C_P_signed_places C_P_product_of_primes
  have OK_P_Ratio___eq__ : FnOk P w K mg base CX0 2 _ fd_P_Ratio___eq__ ["self", "value"] (spRatEq (He.ga K "Ratio")) := ok_Ratio_eq F_P_Ratio___eq__ T (⟨own_Ratio, He.noat_ok (c.fact 84 (f := .noat "Ratio" "top") rfl), He.noat_ok (c.fact 85 (f := .noat "Ratio" "bottom") rfl), He.noat_ok (c.fact 86 (f := .noat "Ratio" "sign") rfl)⟩ : RatioK K (He.ga K "Ratio")) (He.glo_ok X G (c.fact 82 (f := .glo "Ratio") rfl)) C_P_is_integer
  have C_L_right : Cal P w K mg base 16 "_law_right" ["_law_bowl_here"] spRight := ⟨_, fd_L_right, ok_right F_L_right T (⟨own_Four, He.noat_ok (c.fact 101 (f := .noat "Four" "algebra") rfl), He.noat_ok (c.fact 102 (f := .noat "Four" "entries") rfl), He.noat_ok (c.fact 103 (f := .noat "Four" "bottom") rfl), He.noat_ok (c.fact 104 (f := .noat "Four" "trace") rfl), He.noat_ok (c.fact 105 (f := .noat "Four" "norm") rfl), He.noat_ok (c.fact 106 (f := .noat "Four" "is_ratio") rfl)⟩ : FourK K (He.ga K "Four")) C_L_pair C_L_drawn C_L_norm C_L_is_due C_L_near C_L_odd C_L_is_refused C_P_turn_of C_P_is_turn C_P_four_of_turn.calm (⟨_, fd_P_Algebra___init__, [], OK_P_Algebra___init__, He.mkr_ok (c.fact 120 (f := .mkr "Algebra") rfl), (He.glo_ok X G (c.fact 91 (f := .glo "Algebra") rfl)), F_P_Algebra___init__.bindsN fun _ _ _ _ _ _ us hl => match us, hl with | [_, _, _], _ => rfl, .nil⟩ : CalC P w K mg base 6 "Algebra" (He.ga K "Algebra") ["self", "a", "b"] [] (spAlgInit (He.ga K "Algebra"))) (⟨_, fd_P_Four___init__, us_P_Four___init___3, OK_P_Four___init__, He.mkr_ok (c.fact 107 (f := .mkr "Four") rfl), (He.glo_ok X G (c.fact 99 (f := .glo "Four") rfl)), bd_P_Four___init___3, dv_P_Four___init___3⟩ : CalC P w K mg base 7 "Four" (He.ga K "Four") ["self", "algebra", "entries", "bottom"] [] (spFourInit (He.ga K "Four") (He.ga K "Ratio") (He.ga K "Algebra"))) own_Ratio own_Four (⟨_, fd_P_Ratio___eq__, OK_P_Ratio___eq__, He.meth_ok (c.fact 121 (f := .meth "Ratio" "__eq__") rfl), F_P_Ratio___eq__.bindsN fun _ _ _ _ _ _ us hl => match us, hl with | [_, _], _ => rfl⟩ : CalM P w K mg base 2 "__eq__" (He.ga K "Ratio") ["self", "value"] (spRatEq (He.ga K "Ratio"))) (⟨_, fd_P_Four___mul__, OK_P_Four___mul__, He.meth_ok (c.fact 109 (f := .meth "Four" "__mul__") rfl), F_P_Four___mul__.bindsN fun _ _ _ _ _ _ us hl => match us, hl with | [_, _], _ => rfl⟩ : CalM P w K mg base 10 "__mul__" (He.ga K "Four") ["self", "other"] (spFourOp (He.ga K "Four") (He.ga K "Ratio") (He.ga K "Algebra") prodQ)) (⟨_, fd_P_Four_inverse, OK_P_Four_inverse, He.meth_ok (c.fact 117 (f := .meth "Four" "inverse") rfl), F_P_Four_inverse.bindsN fun _ _ _ _ _ _ us hl => match us, hl with | [_], _ => rfl⟩ : CalM P w K mg base 10 "inverse" (He.ga K "Four") ["self"] (spInverse (He.ga K "Four") (He.ga K "Ratio") (He.ga K "Algebra"))) (⟨_, fd_P_Four___bool__, OK_P_Four___bool__, He.meth_ok (c.fact 118 (f := .meth "Four" "__bool__") rfl), F_P_Four___bool__.bindsN fun _ _ _ _ _ _ us hl => match us, hl with | [_], _ => rfl⟩ : CalM P w K mg base 1 "__bool__" (He.ga K "Four") ["self"] (spFourBool (He.ga K "Four") (He.ga K "Ratio"))), g_L_right, F_L_right.kp, F_L_right.bindsN fun _ _ _ _ _ _ us hl => match us, hl with | [_], _ => rfl⟩
  exact ok_law F_L_law T (⟨own_Four, He.noat_ok (c.fact 101 (f := .noat "Four" "algebra") rfl), He.noat_ok (c.fact 102 (f := .noat "Four" "entries") rfl), He.noat_ok (c.fact 103 (f := .noat "Four" "bottom") rfl), He.noat_ok (c.fact 104 (f := .noat "Four" "trace") rfl), He.noat_ok (c.fact 105 (f := .noat "Four" "norm") rfl), He.noat_ok (c.fact 106 (f := .noat "Four" "is_ratio") rfl)⟩ : FourK K (He.ga K "Four")) C_L_bowl C_L_right C_P_is_turn C_P_four_of_turn.calm (⟨_, fd_P_Algebra___init__, [], OK_P_Algebra___init__, He.mkr_ok (c.fact 120 (f := .mkr "Algebra") rfl), (He.glo_ok X G (c.fact 91 (f := .glo "Algebra") rfl)), F_P_Algebra___init__.bindsN fun _ _ _ _ _ _ us hl => match us, hl with | [_, _, _], _ => rfl, .nil⟩ : CalC P w K mg base 6 "Algebra" (He.ga K "Algebra") ["self", "a", "b"] [] (spAlgInit (He.ga K "Algebra"))) (⟨_, fd_P_Ratio___init__, us_P_Ratio___init___1, OK_P_Ratio___init__, He.mkr_ok (c.fact 87 (f := .mkr "Ratio") rfl), (He.glo_ok X G (c.fact 82 (f := .glo "Ratio") rfl)), bd_P_Ratio___init___1, dv_P_Ratio___init___1⟩ : CalC P w K mg base 3 "Ratio" (He.ga K "Ratio") ["self", "top", "bottom"] [.int 1] (spRatInit (He.ga K "Ratio"))) own_Four
end Sf
open PySem PySem.W PySem.Calls PyProof.Rows
set_option maxHeartbeats 0 in
theorem PySem.Challenge.cw_signfours_k13_whole_tables_that_are_turn_holds : PySem.Challenge.rw_signfours_k13_whole_tables_that_are_turn.Holds := by
  w_on; o_law
  refine HandSHeadRun.head_imp (r := OpenLaw.row PySem.Challenge.rw_signfours_k13_whole_tables_that_are_turn) (q := view (OpenLaw.row PySem.Challenge.rw_signfours_k13_whole_tables_that_are_turn).prog [0, 90]) (H := Sf.hk) (ob := Sf.ob) (M := 20000) (loose := Sf.loose) (d := HandSHeadRun.topDef (OpenLaw.row PySem.Challenge.rw_signfours_k13_whole_tables_that_are_turn).prog 90) (kwd := []) Sf.ob_eq
    Sf.run (by kernel_rfl) (by kernel_rfl) (by kernel_rfl) (by rfl) (by first | assumption | decide +kernel) (by decide +kernel) ⟨rfl, rfl, rfl, rfl, rfl, by decide +kernel⟩ ?hw ?hc
  case hw => w_witness2
  case hc =>
    refine L2.walk_ofE (l := PySem.Challenge.rw_signfours_k13_whole_tables_that_are_turn) (n := 63) (k := 17) (x := "_law_script") (CX := L2.CX0) rfl (by decide) (by kernel_rfl) ⟨rfl, by decide, by decide⟩ ?F (fun _ _ _ _ z => z)
    intro w mg fa h Y G hmg0
    obtain ⟨K, KX, c, z⟩ := Y
    have hmg : mg ("law" : PySem.Str) = some (.ref fa) := by
      have e : (HandSHeadRun.topDef (OpenLaw.row PySem.Challenge.rw_signfours_k13_whole_tables_that_are_turn).prog 90).name = ("law" : PySem.Str) := by kernel_rfl
      rw [← e]
      exact hmg0
    obtain ⟨fd, hb, hF⟩ := Sf.facts (P := (PySem.Challenge.rw_signfours_k13_whole_tables_that_are_turn).prog) (w := w) KX G hmg c z
    exact ⟨K, fd, Sf.spLaw K, KX, hb, fun H a ns hl _ hS => ⟨a, ns, rfl, hS, hl, fun _ => rfl⟩, hF⟩
