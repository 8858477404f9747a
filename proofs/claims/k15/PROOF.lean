import PyProof.Rows.All
import Wide.All
import OpenK.AllK
import Wide.FinOn
import KE.KStateDown
import Lean
import HandS.Base
import HandS.Call
import HandS.List
import HandS.Comp
import HandS.Ends
import HandS.Evl
import HandS.Dict
import HandS.Iter
import HandS.Text
import HandS.More
import HandS.DictComp
import HandS.Words
import HandS.WordsList
import HandS.WordsExc
import HandS.WordsDict
import HandS.Defaults
import HandS.IsInst
import HandS.Small
import HandS.Wide
import HandS.Style
import HandS.SortInts
import HandS.Set
import HandS.SetFor
import HandS.Strs
import HandS.Star
import HandS.Head0
import HandS.Head1
import HandS.Head2
import HandS.Head3
import HandS.HeadEnd
import HandS.HeadHook1
import HandS.HeadHook2
import KE.KOpsOwn
import KE.GoesMore
import KE.KFmtOwn
import HandS.OwnEq
import HandS.Records
import HandS.Gcd
import HandS.TupAny
import HandS.Walk
import HandS.Zip
import HandS.Zip0
import KE.KDictZip
import PyProof.CollectWalk
import PyProof.ListNew
import HandS.FStr
import HandS.StrMore
import HandS.Flow
import HandS.RaiseMore
import HandS.Exc
import HandS.TryMany
import HandS.Lambda
import PySem.Challenge.RW_signfours_k15_whole_points_told
set_option Elab.async false
set_option linter.all false
set_option maxRecDepth 100000
set_option maxHeartbeats 4000000
namespace Sf
open PySem PySem.Spec PyProof.Rows L2
/-- a def of the text that lets no exception out, ready to be called -/
structure Cal (P : Program) (w : World) (K : PySem.W.Frag) (mg : Str → Option Value) (base : Heap) (k : Nat) (x : Str) (ps : List Str) (sp : Sp) where
  f : Addr
  fd : FuncData
  ok : FnOk P w K mg base CX0 k f fd ps sp
  g : mg x = some (.ref f)
  kp : PySem.W.keepIn K (.ref f) = true
  b : Binds K fd ps []
section
variable {X : Cx} {k : Nat} {x : Str} {ps : List Str} {sp : Sp} {e : Expr} {es : List Expr} {t : TA} {p pos : Pos}
theorem pe_cal (C : Cal X.prog X.w X.K X.mg X.base k x ps sp) (hr : Room k X.A) (ha : PA X (e :: es) t) (hg : Gl X x := by rfl) (hdb : (x == ("__debug__" : Str)) = false := by decide)
    (he : starEach (e :: es) X.env = (false, eval e X.env) :: starEach es X.env := by rfl) (hpl : (backTo pos (starEach es X.env)).any (·.1) = false := by rfl) :
    PE X (.Call (.Name x p) (e :: es) [] pos) (tCall sp [] E0 t) :=
  pe_call C.ok hr hg C.g C.kp C.b .nil pass0 ha hdb he hpl
theorem pe_cal0 (C : Cal X.prog X.w X.K X.mg X.base k x ps sp) (hr : Room k X.A) (hg : Gl X x := by rfl) (hdb : (x == ("__debug__" : Str)) = false := by decide) :
    PE X (.Call (.Name x p) [] [] pos) (tCall sp [] E0 tNil) :=
  pe_call0 C.ok hr hg C.g C.kp C.b .nil pass0 hdb
/-- a power of any size that the machine's line takes -/
def CPowW (i j : Int) : Prop := 0 ≤ j ∧ (Builtin.Int.intBits i : Int) * j ≤ 2 ^ 27
theorem op_powW : OpR X (binaryOp .Pow) (rI CPowW fun i j => .int (i ^ j.toNat)) := opI fun _ _ _ _ _ _ _ hc q => pow_int hc.1 hc.2 q
/-- a dict that a call has just made, frozen from here on -/
theorem pe_frz {e : Expr} {te : TE} (h : PE X e te) : PE X e (fun σ H Q => te σ H fun x H1 => ∃ d u, x = .ref d ∧ H1 d = some u ∧ Mut (some u) ∧ ∀ od, Q x (upd H1 d (.frz od u))) := by
  refine ⟨fun pins s σ H Q I hw => ?_⟩
  refine thn (h.run pins s σ _ _ I hw) fun v s1 ⟨y, H1, I1, r, d, u, e1, hd, mu, q⟩ => ?_
  obtain ⟨od, I2⟩ := I1.lock hd mu
  exact ⟨y, _, I2, r, q od⟩
end
section
variable {X : Cx} {e : Expr}
/-- an expression, with a word behind it: what follows is shown once -/
def tMid (t : TE) : TE := fun σ H Q => ∃ Mid : V → Hp → Prop, t σ H Mid ∧ ∀ v H', Mid v H' → Q v H'
theorem pe_cut {t : TE} (h : PE X e t) : PE X e (tMid t) :=
  ⟨fun pins s σ H Q I ⟨Mid, hm, hu⟩ => thn (h.run pins s σ H Mid I hm) fun u s1 ⟨x, H1, I1, r, q⟩ => ⟨x, H1, I1, r, hu x H1 q⟩⟩
def tMidT (t : TT) : TT := fun σ H Q => ∃ Mid : Bool → Hp → Prop, t σ H Mid ∧ ∀ v H', Mid v H' → Q v H'
theorem pt_mid {t : TT} (h : PT X e t) : PT X e (tMidT t) :=
  ⟨fun pins s σ H Q I ⟨Mid, hm, hu⟩ => thn (h.run pins s σ H Mid I hm) fun b s1 ⟨H1, I1, q⟩ => ⟨H1, I1, hu b H1 q⟩⟩
end
theorem same_upd {H : Hp} {p : Addr} {o : HO} (h : H p = none) : Same H (upd H p o) := fun b x e => by
  rw [upd_ne (ne_of_none e h)]
  exact e
theorem CMulW.of {i j : Int} (hi : i.natAbs < 2 ^ 3000) (hj : j.natAbs < 2 ^ 3000) : CMulW i j := wide_mul hi hj (by decide) (by decide) (by decide)
theorem CDivW.of {i j : Int} (h0 : 0 < j) (hj : j.natAbs < 2 ^ 3000) : CDivW i j := wide_div h0 hj (by decide) (by decide)
theorem two3000 : (10 : Nat) ^ 600 < 2 ^ 3000 := by decide +kernel
end Sf
namespace Sf
open PySem PySem.Spec PyProof.Rows L2
/-- an if whose test is a decision -/
theorem ifd {p : Prop} [Decidable p] {A B : Prop} (h1 : p → A) (h2 : ¬ p → B) : if decide p = true then A else B := by
  by_cases h : p
  · rw [if_pos (decide_eq_true h)]; exact h1 h
  · rw [if_neg (by simpa using h)]; exact h2 h
theorem ifn {p : Prop} [Decidable p] {A B : Prop} (h1 : ¬ p → A) (h2 : p → B) : if (!decide p) = true then A else B := by
  by_cases h : p
  · rw [if_neg (by simpa using h)]; exact h2 h
  · rw [if_pos (by simpa using h)]; exact h1 h
theorem ifb {b : Bool} {A B : Prop} (h1 : b = true → A) (h2 : b = false → B) : if b = true then A else B := by
  cases b with
  | true => rw [if_pos rfl]; exact h1 rfl
  | false => rw [if_neg Bool.false_ne_true]; exact h2 rfl
end Sf
namespace Sf
open PySem PySem.Spec PyProof.Rows L2
/-! the head's facts and one more Bool -/
abbrev AlO : Type := He.AlD × Bool
/-- what is looked at: the module's names, what they name, so on; a code object's own things are left out -/
def refsN (o : Obj) : List Addr := match o.data with
  | .dict es _ => es.toList.flatMap fun e => He.refV e.val
  | .func fd => He.refV fd.code ++ He.refV fd.defaults
  | .cls cd => cd.ns :: cd.mro.flatMap He.refV
  | _ => []
def stepN (g : Addr → Option Obj) (as : List Addr) : List Addr := as.flatMap fun a => match g a with
  | some o => refsN o
  | none => []
def asN (g : Addr → Option Obj) : Nat → List Addr → List Addr
  | 0, as => as
  | n + 1, as => as ++ asN g n (stepN g as)
def obsO (n : Nat) (fa : List He.Fa) (fn : List He.DefD) (ex : PySem.W.Frag → Bool) (g : Addr → Option Obj) : AlO := (He.obsD fa fn (He.frG g (asN g n [mainGlobals])), ex (He.frG g (asN g n [mainGlobals])))
def hookO (n : Nat) (fa : List He.Fa) (fn : List He.DefD) (ex : PySem.W.Frag → Bool) : PySem.W.Hook where
  α := AlO
  obs := fun s => obsO n fa fn ex s.heap.get?
  val := fun _ => (He.valD fn, true)
  says := fun _ h => ∃ K : PySem.W.Frag, K.In h ∧ He.SaysD fa fn K ∧ ex K = true
  of := fun _ _ e => ⟨_, He.frG_in, congrArg (fun z : AlO => z.1) e, congrArg (fun z : AlO => z.2) e⟩
  keeps := fun _ _ _ ⟨K, hK, c⟩ k => ⟨K, PySem.W.Frag.In.keeps hK k, c⟩
theorem obsO_eq {n : Nat} {fa : List He.Fa} {fn : List He.DefD} {ex : PySem.W.Frag → Bool} {g : Addr → Option Obj} {s : Shared} (h : ∀ a, g a = s.heap.get? a) : obsO n fa fn ex g = (hookO n fa fn ex).obs s := by
  have e : g = s.heap.get? := funext h
  rw [e] <;> rfl
def ownB (K : PySem.W.Frag) (x : Str) : Bool := PySem.W.selfFirst K (He.ga K x) && (decide (PySem.W.subIn K (.type "int") (.ref (He.ga K x)) = some false) && (He.eqO (PySem.W.findIn K (.ref (He.ga K x)) "__ne__") (some (some (.builtin "object.__ne__"))) &&
  (decide (PySem.W.mroIn K (He.ga K x) (.type "object") = some true) && (He.eqO (PySem.W.findIn K (.ref (He.ga K x)) "__class__") (some (some (.builtin "object.__class__"))) && (He.eqO (PySem.W.specialIn K (.builtin "object.__class__") "__get__") (some (some (.builtin "getset_descriptor.__get__"))) &&
  (decide (PySem.W.takesIn K (.builtin "object.__class__") = some true) && (decide (PySem.W.kitOne K (.ref (He.ga K x)) (.ref (He.ga K x)) = some true) && decide (PySem.W.kitOne K (.type "int") (.ref (He.ga K x)) = some false))))))))
/-- a module's name that holds a built-in function -/
def gblB (K : PySem.W.Frag) (x : Str) (id : String) : Bool := He.eqO (PySem.W.nsIn K mainGlobals x) (some (some (.builtin id)))
theorem gblB_ok {K : PySem.W.Frag} {h : Heap} {mg : Str → Option Value} (X : K.In h) (G : h.Ns mainGlobals mg) {x : Str} {id : String} (c : gblB K x id = true) : mg x = some (.builtin id) := PySem.W.mg_of X G (He.eqO_ok c)
end Sf

namespace Sf
open PySem PySem.Spec PyProof.Rows L2
def top (i : Nat) : Stmt := PySem.Challenge.pw_signfours_k15_whole_points_told.main.body.getD i (.Pass ⟨0, 0, 0, 0⟩)
abbrev s_P__wall : Stmt := top 1
theorem sc_P__wall : FnScope ["k"] ["k"] (defScope s_P__wall) := ⟨rfl, rfl, rfl, by decide +kernel, rfl, by decide +kernel, by decide +kernel⟩
abbrev s_P_is_integer : Stmt := top 4
theorem sc_P_is_integer : FnScope ["value"] ["value"] (defScope s_P_is_integer) := ⟨rfl, rfl, rfl, by decide +kernel, rfl, by decide +kernel, by decide +kernel⟩
abbrev s_P_is_passed : Stmt := top 5
theorem sc_P_is_passed : FnScope ["value"] ["value"] (defScope s_P_is_passed) := ⟨rfl, rfl, rfl, by decide +kernel, rfl, by decide +kernel, by decide +kernel⟩
abbrev s_P_is_triple : Stmt := top 6
theorem sc_P_is_triple : FnScope ["value", "part"] ["value"] (defScope s_P_is_triple) := ⟨rfl, rfl, rfl, by decide +kernel, rfl, by decide +kernel, by decide +kernel⟩
abbrev s_P_ParseError___init__ : Stmt := inClass (top 13) 0
theorem sc_P_ParseError___init__ : FnScope ["self", "spot"] ["self", "spot"] (defScope s_P_ParseError___init__) := ⟨rfl, rfl, rfl, by decide +kernel, rfl, by decide +kernel, by decide +kernel⟩
abbrev s_P_InvalidNumber___init__ : Stmt := inClass (top 14) 0
theorem sc_P_InvalidNumber___init__ : FnScope ["self", "given"] ["self", "given"] (defScope s_P_InvalidNumber___init__) := ⟨rfl, rfl, rfl, by decide +kernel, rfl, by decide +kernel, by decide +kernel⟩
abbrev s_P_TooMany___init__ : Stmt := inClass (top 15) 0
theorem sc_P_TooMany___init__ : FnScope ["self", "most"] ["self", "most"] (defScope s_P_TooMany___init__) := ⟨rfl, rfl, rfl, by decide +kernel, rfl, by decide +kernel, by decide +kernel⟩
abbrev s_P_Refused___init__ : Stmt := inClass (top 16) 0
theorem sc_P_Refused___init__ : FnScope ["self", "reason"] ["self", "reason"] (defScope s_P_Refused___init__) := ⟨rfl, rfl, rfl, by decide +kernel, rfl, by decide +kernel, by decide +kernel⟩
abbrev s_P_factors : Stmt := top 19
theorem sc_P_factors : FnScope ["number"] ["number"] (defScope s_P_factors) := ⟨rfl, rfl, rfl, by decide +kernel, rfl, by decide +kernel, by decide +kernel⟩
abbrev s_P_prime_powers : Stmt := top 20
theorem sc_P_prime_powers : FnScope ["number", "rest", "found", "divisor"] ["number"] (defScope s_P_prime_powers) := ⟨rfl, rfl, rfl, by decide +kernel, rfl, by decide +kernel, by decide +kernel⟩
abbrev s_P_free_part : Stmt := top 21
theorem sc_P_free_part : FnScope ["number", "free", "prime", "many"] ["number"] (defScope s_P_free_part) := ⟨rfl, rfl, rfl, by decide +kernel, rfl, by decide +kernel, by decide +kernel⟩
abbrev s_P_check_number : Stmt := top 22
theorem sc_P_check_number : FnScope ["value"] ["value"] (defScope s_P_check_number) := ⟨rfl, rfl, rfl, by decide +kernel, rfl, by decide +kernel, by decide +kernel⟩
abbrev s_P_next_divisor : Stmt := top 23
theorem sc_P_next_divisor : FnScope ["divisor"] ["divisor"] (defScope s_P_next_divisor) := ⟨rfl, rfl, rfl, by decide +kernel, rfl, by decide +kernel, by decide +kernel⟩
abbrev s_P_stripped : Stmt := top 24
theorem sc_P_stripped : FnScope ["number", "prime", "many"] ["number", "prime"] (defScope s_P_stripped) := ⟨rfl, rfl, rfl, by decide +kernel, rfl, by decide +kernel, by decide +kernel⟩
abbrev s_P_rest_sign : Stmt := top 25
theorem sc_P_rest_sign : FnScope ["number", "prime"] ["number", "prime"] (defScope s_P_rest_sign) := ⟨rfl, rfl, rfl, by decide +kernel, rfl, by decide +kernel, by decide +kernel⟩
abbrev s_P_power_modulo : Stmt := top 26
theorem sc_P_power_modulo : FnScope ["number", "many", "modulus", "made", "square"] ["number", "many", "modulus"] (defScope s_P_power_modulo) := ⟨rfl, rfl, rfl, by decide +kernel, rfl, by decide +kernel, by decide +kernel⟩
abbrev s_P_root_modulo : Stmt := top 27
theorem sc_P_root_modulo : FnScope ["number", "prime", "twos", "odd", "turn", "root", "fault", "left", "_"] ["number", "prime"] (defScope s_P_root_modulo) := ⟨rfl, rfl, rfl, by decide +kernel, rfl, by decide +kernel, by decide +kernel⟩
abbrev s_P_least_nonsquare : Stmt := top 28
theorem sc_P_least_nonsquare : FnScope ["prime", "number"] ["prime"] (defScope s_P_least_nonsquare) := ⟨rfl, rfl, rfl, by decide +kernel, rfl, by decide +kernel, by decide +kernel⟩
abbrev s_P_halvings : Stmt := top 29
theorem sc_P_halvings : FnScope ["number", "prime", "many"] ["number", "prime"] (defScope s_P_halvings) := ⟨rfl, rfl, rfl, by decide +kernel, rfl, by decide +kernel, by decide +kernel⟩
abbrev s_P_signed_places : Stmt := top 31
theorem sc_P_signed_places : FnScope ["a", "b", "divisors", "place"] ["a", "b"] (defScope s_P_signed_places) := ⟨rfl, rfl, rfl, by decide +kernel, rfl, by decide +kernel, by decide +kernel⟩
abbrev s_P_sign : Stmt := top 32
theorem sc_P_sign : FnScope ["a", "b", "place"] ["a", "b", "place"] (defScope s_P_sign) := ⟨rfl, rfl, rfl, by decide +kernel, rfl, by decide +kernel, by decide +kernel⟩
abbrev s_P_sign_at_two : Stmt := top 33
theorem sc_P_sign_at_two : FnScope ["a", "b", "s", "one", "t", "other", "told"] ["a", "b"] (defScope s_P_sign_at_two) := ⟨rfl, rfl, rfl, by decide +kernel, rfl, by decide +kernel, by decide +kernel⟩
abbrev s_P_quarter : Stmt := top 34
theorem sc_P_quarter : FnScope ["unit"] ["unit"] (defScope s_P_quarter) := ⟨rfl, rfl, rfl, by decide +kernel, rfl, by decide +kernel, by decide +kernel⟩
abbrev s_P_eighth : Stmt := top 35
theorem sc_P_eighth : FnScope ["unit"] ["unit"] (defScope s_P_eighth) := ⟨rfl, rfl, rfl, by decide +kernel, rfl, by decide +kernel, by decide +kernel⟩
abbrev s_P_sign_at_odd : Stmt := top 36
theorem sc_P_sign_at_odd : FnScope ["a", "b", "prime", "s", "one", "t", "other", "told"] ["a", "b", "prime"] (defScope s_P_sign_at_odd) := ⟨rfl, rfl, rfl, by decide +kernel, rfl, by decide +kernel, by decide +kernel⟩
abbrev s_P_point_on : Stmt := top 39
theorem sc_P_point_on : FnScope ["a", "b"] ["a", "b"] (defScope s_P_point_on) := ⟨rfl, rfl, rfl, by decide +kernel, rfl, by decide +kernel, by decide +kernel⟩
abbrev s_P_is_point : Stmt := top 40
theorem sc_P_is_point : FnScope ["a", "b", "value"] ["a", "b", "value"] (defScope s_P_is_point) := ⟨rfl, rfl, rfl, by decide +kernel, rfl, by decide +kernel, by decide +kernel⟩
abbrev s_P_solves : Stmt := top 41
theorem sc_P_solves : FnScope ["a", "b", "c", "value", "x", "y", "z"] ["a", "b", "c", "value"] (defScope s_P_solves) := ⟨rfl, rfl, rfl, by decide +kernel, rfl, by decide +kernel, by decide +kernel⟩
abbrev s_P_solution : Stmt := top 42
theorem sc_P_solution : FnScope ["a", "b", "free", "other", "x", "y", "z", "part", "rest"] ["a", "b"] (defScope s_P_solution) := ⟨rfl, rfl, rfl, by decide +kernel, rfl, by decide +kernel, by decide +kernel⟩
abbrev s_P_lowest_point : Stmt := top 43
theorem sc_P_lowest_point : FnScope ["x", "y", "z", "common"] ["x", "y", "z"] (defScope s_P_lowest_point) := ⟨rfl, rfl, rfl, by decide +kernel, rfl, by decide +kernel, by decide +kernel⟩
abbrev s_P_free_point : Stmt := top 44
theorem sc_P_free_point : FnScope ["a", "b", "y", "x", "z", "far", "near", "left", "free", "part"] ["a", "b"] (defScope s_P_free_point) := ⟨rfl, rfl, rfl, by decide +kernel, rfl, by decide +kernel, by decide +kernel⟩
abbrev s_P_least_pair : Stmt := top 45
theorem sc_P_least_pair : FnScope ["a", "b", "one", "other", "many", "length"] ["a", "b"] (defScope s_P_least_pair) := ⟨rfl, rfl, rfl, by decide +kernel, rfl, by decide +kernel, by decide +kernel⟩
abbrev s_P_pair_length : Stmt := top 46
theorem sc_P_pair_length : FnScope ["a", "pair"] ["a", "pair"] (defScope s_P_pair_length) := ⟨rfl, rfl, rfl, by decide +kernel, rfl, by decide +kernel, by decide +kernel⟩
abbrev s_P_root_by : Stmt := top 47
theorem sc_P_root_by : FnScope ["number", "modulus", "root", "reached", "prime", "missing"] ["number", "modulus"] (defScope s_P_root_by) := ⟨rfl, rfl, rfl, by decide +kernel, rfl, by decide +kernel, by decide +kernel⟩
abbrev s_P_Ratio___init__ : Stmt := inClass (top 49) 0
theorem sc_P_Ratio___init__ : FnScope ["self", "top", "bottom"] ["self", "top", "bottom"] (defScope s_P_Ratio___init__) := ⟨rfl, rfl, rfl, by decide +kernel, rfl, by decide +kernel, by decide +kernel⟩
abbrev s_P_Ratio_read : Stmt := inClass (top 49) 1
theorem sc_P_Ratio_read : FnScope ["text", "top", "slash", "bottom", "found"] ["text"] (defScope s_P_Ratio_read) := ⟨rfl, rfl, rfl, by decide +kernel, rfl, by decide +kernel, by decide +kernel⟩
abbrev s_P_Ratio_over : Stmt := inClass (top 49) 2
theorem sc_P_Ratio_over : FnScope ["self", "other", "top", "bottom"] ["self", "other"] (defScope s_P_Ratio_over) := ⟨rfl, rfl, rfl, by decide +kernel, rfl, by decide +kernel, by decide +kernel⟩
abbrev s_P_Ratio_compared : Stmt := inClass (top 49) 3
theorem sc_P_Ratio_compared : FnScope ["self", "other"] ["self", "other"] (defScope s_P_Ratio_compared) := ⟨rfl, rfl, rfl, by decide +kernel, rfl, by decide +kernel, by decide +kernel⟩
abbrev s_P_Ratio___add__ : Stmt := inClass (top 49) 4
theorem sc_P_Ratio___add__ : FnScope ["self", "other", "top", "bottom"] ["self", "other"] (defScope s_P_Ratio___add__) := ⟨rfl, rfl, rfl, by decide +kernel, rfl, by decide +kernel, by decide +kernel⟩
abbrev s_P_Ratio___sub__ : Stmt := inClass (top 49) 5
theorem sc_P_Ratio___sub__ : FnScope ["self", "other", "top", "bottom"] ["self", "other"] (defScope s_P_Ratio___sub__) := ⟨rfl, rfl, rfl, by decide +kernel, rfl, by decide +kernel, by decide +kernel⟩
abbrev s_P_Ratio___mul__ : Stmt := inClass (top 49) 6
theorem sc_P_Ratio___mul__ : FnScope ["self", "other", "top", "bottom"] ["self", "other"] (defScope s_P_Ratio___mul__) := ⟨rfl, rfl, rfl, by decide +kernel, rfl, by decide +kernel, by decide +kernel⟩
abbrev s_P_Ratio___neg__ : Stmt := inClass (top 49) 7
theorem sc_P_Ratio___neg__ : FnScope ["self"] ["self"] (defScope s_P_Ratio___neg__) := ⟨rfl, rfl, rfl, by decide +kernel, rfl, by decide +kernel, by decide +kernel⟩
abbrev s_P_Ratio___eq__ : Stmt := inClass (top 49) 8
theorem sc_P_Ratio___eq__ : FnScope ["self", "value"] ["self", "value"] (defScope s_P_Ratio___eq__) := ⟨rfl, rfl, rfl, by decide +kernel, rfl, by decide +kernel, by decide +kernel⟩
abbrev s_P_Ratio___bool__ : Stmt := inClass (top 49) 9
theorem sc_P_Ratio___bool__ : FnScope ["self"] ["self"] (defScope s_P_Ratio___bool__) := ⟨rfl, rfl, rfl, by decide +kernel, rfl, by decide +kernel, by decide +kernel⟩
abbrev s_P_Ratio___str__ : Stmt := inClass (top 49) 10
theorem sc_P_Ratio___str__ : FnScope ["self"] ["self"] (defScope s_P_Ratio___str__) := ⟨rfl, rfl, rfl, by decide +kernel, rfl, by decide +kernel, by decide +kernel⟩
abbrev s_P_made_ratio : Stmt := top 50
theorem sc_P_made_ratio : FnScope ["top", "bottom", "terms", "made"] ["top", "bottom"] (defScope s_P_made_ratio) := ⟨rfl, rfl, rfl, by decide +kernel, rfl, by decide +kernel, by decide +kernel⟩
abbrev s_P_lowest_terms : Stmt := top 51
theorem sc_P_lowest_terms : FnScope ["top", "bottom", "common"] ["top", "bottom"] (defScope s_P_lowest_terms) := ⟨rfl, rfl, rfl, by decide +kernel, rfl, by decide +kernel, by decide +kernel⟩
abbrev s_P_sign_of : Stmt := top 52
theorem sc_P_sign_of : FnScope ["number"] ["number"] (defScope s_P_sign_of) := ⟨rfl, rfl, rfl, by decide +kernel, rfl, by decide +kernel, by decide +kernel⟩
abbrev s_P_is_fraction : Stmt := top 53
theorem sc_P_is_fraction : FnScope ["value"] ["value"] (defScope s_P_is_fraction) := ⟨rfl, rfl, rfl, by decide +kernel, rfl, by decide +kernel, by decide +kernel⟩
abbrev s_P_check_ratio : Stmt := top 54
theorem sc_P_check_ratio : FnScope ["value"] ["value"] (defScope s_P_check_ratio) := ⟨rfl, rfl, rfl, by decide +kernel, rfl, by decide +kernel, by decide +kernel⟩
abbrev s_P_terms_of : Stmt := top 55
theorem sc_P_terms_of : FnScope ["ratio"] ["ratio"] (defScope s_P_terms_of) := ⟨rfl, rfl, rfl, by decide +kernel, rfl, by decide +kernel, by decide +kernel⟩
abbrev s_P_is_digits : Stmt := top 56
theorem sc_P_is_digits : FnScope ["word"] ["word"] (defScope s_P_is_digits) := ⟨rfl, rfl, rfl, by decide +kernel, rfl, by decide +kernel, by decide +kernel⟩
abbrev s_P_Algebra___init__ : Stmt := inClass (top 60) 0
theorem sc_P_Algebra___init__ : FnScope ["self", "a", "b"] ["self", "a", "b"] (defScope s_P_Algebra___init__) := ⟨rfl, rfl, rfl, by decide +kernel, rfl, by decide +kernel, by decide +kernel⟩
abbrev s_P_Algebra_basis : Stmt := inClass (top 60) 1
theorem sc_P_Algebra_basis : FnScope ["self"] ["self"] (defScope s_P_Algebra_basis) := ⟨rfl, rfl, rfl, by decide +kernel, rfl, by decide +kernel, by decide +kernel⟩
abbrev s_P_Algebra___eq__ : Stmt := inClass (top 60) 2
theorem sc_P_Algebra___eq__ : FnScope ["self", "value"] ["self", "value"] (defScope s_P_Algebra___eq__) := ⟨rfl, rfl, rfl, by decide +kernel, rfl, by decide +kernel, by decide +kernel⟩
abbrev s_P_Algebra___str__ : Stmt := inClass (top 60) 3
theorem sc_P_Algebra___str__ : FnScope ["self"] ["self"] (defScope s_P_Algebra___str__) := ⟨rfl, rfl, rfl, by decide +kernel, rfl, by decide +kernel, by decide +kernel⟩
abbrev s_P_Four___init__ : Stmt := inClass (top 61) 0
theorem sc_P_Four___init__ : FnScope ["self", "algebra", "entries", "bottom"] ["self", "algebra", "entries", "bottom"] (defScope s_P_Four___init__) := ⟨rfl, rfl, rfl, by decide +kernel, rfl, by decide +kernel, by decide +kernel⟩
abbrev s_P_Four_mate : Stmt := inClass (top 61) 1
theorem sc_P_Four_mate : FnScope ["self"] ["self"] (defScope s_P_Four_mate) := ⟨rfl, rfl, rfl, by decide +kernel, rfl, by decide +kernel, by decide +kernel⟩
abbrev s_P_Four_inverse : Stmt := inClass (top 61) 2
theorem sc_P_Four_inverse : FnScope ["self", "entries", "part"] ["self"] (defScope s_P_Four_inverse) := ⟨rfl, rfl, rfl, by decide +kernel, rfl, by decide +kernel, by decide +kernel⟩
abbrev s_P_Four_power : Stmt := inClass (top 61) 3
theorem sc_P_Four_power : FnScope ["self", "many", "made", "under", "square", "below"] ["self", "many"] (defScope s_P_Four_power) := ⟨rfl, rfl, rfl, by decide +kernel, rfl, by decide +kernel, by decide +kernel⟩
abbrev s_P_Four_scaled : Stmt := inClass (top 61) 4
theorem sc_P_Four_scaled : FnScope ["self", "ratio"] ["self", "ratio"] (defScope s_P_Four_scaled) := ⟨rfl, rfl, rfl, by decide +kernel, rfl, by decide +kernel, by decide +kernel⟩
abbrev s_P_Four___add__ : Stmt := inClass (top 61) 5
theorem sc_P_Four___add__ : FnScope ["self", "other", "entries", "one", "two"] ["self", "other"] (defScope s_P_Four___add__) := ⟨rfl, rfl, rfl, by decide +kernel, rfl, by decide +kernel, by decide +kernel⟩
abbrev s_P_Four___sub__ : Stmt := inClass (top 61) 6
theorem sc_P_Four___sub__ : FnScope ["self", "other"] ["self", "other"] (defScope s_P_Four___sub__) := ⟨rfl, rfl, rfl, by decide +kernel, rfl, by decide +kernel, by decide +kernel⟩
abbrev s_P_Four___mul__ : Stmt := inClass (top 61) 7
theorem sc_P_Four___mul__ : FnScope ["self", "other", "entries"] ["self", "other"] (defScope s_P_Four___mul__) := ⟨rfl, rfl, rfl, by decide +kernel, rfl, by decide +kernel, by decide +kernel⟩
abbrev s_P_Four___neg__ : Stmt := inClass (top 61) 8
theorem sc_P_Four___neg__ : FnScope ["self", "part"] ["self"] (defScope s_P_Four___neg__) := ⟨rfl, rfl, rfl, by decide +kernel, rfl, by decide +kernel, by decide +kernel⟩
abbrev s_P_Four___eq__ : Stmt := inClass (top 61) 9
theorem sc_P_Four___eq__ : FnScope ["self", "value"] ["self", "value"] (defScope s_P_Four___eq__) := ⟨rfl, rfl, rfl, by decide +kernel, rfl, by decide +kernel, by decide +kernel⟩
abbrev s_P_Four___bool__ : Stmt := inClass (top 61) 10
theorem sc_P_Four___bool__ : FnScope ["self"] ["self"] (defScope s_P_Four___bool__) := ⟨rfl, rfl, rfl, by decide +kernel, rfl, by decide +kernel, by decide +kernel⟩
abbrev s_P_Four___str__ : Stmt := inClass (top 61) 11
theorem sc_P_Four___str__ : FnScope ["self"] ["self"] (defScope s_P_Four___str__) := ⟨rfl, rfl, rfl, by decide +kernel, rfl, by decide +kernel, by decide +kernel⟩
abbrev s_P_made_four : Stmt := top 62
theorem sc_P_made_four : FnScope ["algebra", "entries", "bottom", "lowest", "made"] ["algebra", "entries", "bottom"] (defScope s_P_made_four) := ⟨rfl, rfl, rfl, by decide +kernel, rfl, by decide +kernel, by decide +kernel⟩
abbrev s_P_check_algebra : Stmt := top 63
theorem sc_P_check_algebra : FnScope ["value"] ["value"] (defScope s_P_check_algebra) := ⟨rfl, rfl, rfl, by decide +kernel, rfl, by decide +kernel, by decide +kernel⟩
abbrev s_P_check_operands : Stmt := top 64
theorem sc_P_check_operands : FnScope ["one", "other"] ["one", "other"] (defScope s_P_check_operands) := ⟨rfl, rfl, rfl, by decide +kernel, rfl, by decide +kernel, by decide +kernel⟩
abbrev s_P_is_passed_entries : Stmt := top 65
theorem sc_P_is_passed_entries : FnScope ["value", "part"] ["value"] (defScope s_P_is_passed_entries) := ⟨rfl, rfl, rfl, by decide +kernel, rfl, by decide +kernel, by decide +kernel⟩
abbrev s_P_product_of_primes : Stmt := top 66
theorem sc_P_product_of_primes : FnScope ["places", "made", "place"] ["places"] (defScope s_P_product_of_primes) := ⟨rfl, rfl, rfl, by decide +kernel, rfl, by decide +kernel, by decide +kernel⟩
abbrev s_P_lowest_entries : Stmt := top 67
theorem sc_P_lowest_entries : FnScope ["entries", "bottom", "w", "x", "y", "z", "common"] ["entries", "bottom"] (defScope s_P_lowest_entries) := ⟨rfl, rfl, rfl, by decide +kernel, rfl, by decide +kernel, by decide +kernel⟩
abbrev s_P_mate_entries : Stmt := top 68
theorem sc_P_mate_entries : FnScope ["entries", "w", "x", "y", "z"] ["entries"] (defScope s_P_mate_entries) := ⟨rfl, rfl, rfl, by decide +kernel, rfl, by decide +kernel, by decide +kernel⟩
abbrev s_P_norm_of : Stmt := top 69
theorem sc_P_norm_of : FnScope ["algebra", "entries", "bottom", "w", "x", "y", "z", "top"] ["algebra", "entries", "bottom"] (defScope s_P_norm_of) := ⟨rfl, rfl, rfl, by decide +kernel, rfl, by decide +kernel, by decide +kernel⟩
abbrev s_P_product_entries : Stmt := top 70
theorem sc_P_product_entries : FnScope ["algebra", "one", "other", "a", "b", "w", "x", "y", "z", "s", "t", "u", "v"] ["algebra", "one", "other"] (defScope s_P_product_entries) := ⟨rfl, rfl, rfl, by decide +kernel, rfl, by decide +kernel, by decide +kernel⟩
abbrev s_P_written_terms : Stmt := top 71
theorem sc_P_written_terms : FnScope ["entries", "terms", "size", "letter"] ["entries"] (defScope s_P_written_terms) := ⟨rfl, rfl, rfl, by decide +kernel, rfl, by decide +kernel, by decide +kernel⟩
abbrev s_P_written_term : Stmt := top 72
theorem sc_P_written_term : FnScope ["size", "letter", "sign", "digits"] ["size", "letter"] (defScope s_P_written_term) := ⟨rfl, rfl, rfl, by decide +kernel, rfl, by decide +kernel, by decide +kernel⟩
abbrev s_P_zero_norm : Stmt := top 75
theorem sc_P_zero_norm : FnScope ["algebra", "x", "y", "z"] ["algebra"] (defScope s_P_zero_norm) := ⟨rfl, rfl, rfl, by decide +kernel, rfl, by decide +kernel, by decide +kernel⟩
abbrev s_P_check_small_algebra : Stmt := top 76
theorem sc_P_check_small_algebra : FnScope ["algebra"] ["algebra"] (defScope s_P_check_small_algebra) := ⟨rfl, rfl, rfl, by decide +kernel, rfl, by decide +kernel, by decide +kernel⟩
abbrev s_L_vial : Stmt := top 78
theorem sc_L_vial : FnScope ["_law_script", "_law_at", "_law_cell", "_law_great"] ["_law_script", "_law_at"] (defScope s_L_vial) := ⟨rfl, rfl, rfl, by decide +kernel, rfl, by decide +kernel, by decide +kernel⟩
abbrev s_L_drop : Stmt := top 79
theorem sc_L_drop : FnScope ["_law_vial_here", "_law_total", "_law_found", "_law_one", "_law_two"] ["_law_vial_here", "_law_total"] (defScope s_L_drop) := ⟨rfl, rfl, rfl, by decide +kernel, rfl, by decide +kernel, by decide +kernel⟩
abbrev s_L_any : Stmt := top 80
theorem sc_L_any : FnScope ["_law_vial_here", "_law_items"] ["_law_vial_here", "_law_items"] (defScope s_L_any) := ⟨rfl, rfl, rfl, by decide +kernel, rfl, by decide +kernel, by decide +kernel⟩
abbrev s_L_primes : Stmt := top 81
theorem sc_L_primes : FnScope ["_law_number_here", "_law_found", "_law_left", "_law_divisor", "_law_turn"] ["_law_number_here"] (defScope s_L_primes) := ⟨rfl, rfl, rfl, by decide +kernel, rfl, by decide +kernel, by decide +kernel⟩
abbrev s_L_parts : Stmt := top 82
theorem sc_L_parts : FnScope ["_law_number_here", "_law_prime", "_law_many", "_law_left", "_law_turn"] ["_law_number_here", "_law_prime"] (defScope s_L_parts) := ⟨rfl, rfl, rfl, by decide +kernel, rfl, by decide +kernel, by decide +kernel⟩
abbrev s_L_residue : Stmt := top 83
theorem sc_L_residue : FnScope ["_law_number_here", "_law_prime", "_law_found", "_law_factor", "_law_left", "_law_turn"] ["_law_number_here", "_law_prime"] (defScope s_L_residue) := ⟨rfl, rfl, rfl, by decide +kernel, rfl, by decide +kernel, by decide +kernel⟩
abbrev s_L_sign : Stmt := top 84
theorem sc_L_sign : FnScope ["_law_a", "_law_b", "_law_prime", "_law_s", "_law_one", "_law_t", "_law_other", "_law_odd", "_law_found"] ["_law_a", "_law_b", "_law_prime"] (defScope s_L_sign) := ⟨rfl, rfl, rfl, by decide +kernel, rfl, by decide +kernel, by decide +kernel⟩
abbrev s_L_places : Stmt := top 85
theorem sc_L_places : FnScope ["_law_a", "_law_b", "_law_found", "_law_prime", "_law_one"] ["_law_a", "_law_b"] (defScope s_L_places) := ⟨rfl, rfl, rfl, by decide +kernel, rfl, by decide +kernel, by decide +kernel⟩
abbrev s_L_number : Stmt := top 86
theorem sc_L_number : FnScope ["_law_vial_here", "_law_most"] ["_law_vial_here", "_law_most"] (defScope s_L_number) := ⟨rfl, rfl, rfl, by decide +kernel, rfl, by decide +kernel, by decide +kernel⟩
abbrev s_L_open_pair : Stmt := top 87
theorem sc_L_open_pair : FnScope ["_law_vial_here", "_law_most", "_law_a", "_law_x", "_law_y", "_law_b"] ["_law_vial_here", "_law_most"] (defScope s_L_open_pair) := ⟨rfl, rfl, rfl, by decide +kernel, rfl, by decide +kernel, by decide +kernel⟩
abbrev s_L_pair : Stmt := top 88
theorem sc_L_pair : FnScope ["_law_vial_here", "_law_most"] ["_law_vial_here", "_law_most"] (defScope s_L_pair) := ⟨rfl, rfl, rfl, by decide +kernel, rfl, by decide +kernel, by decide +kernel⟩
abbrev s_L_is_point : Stmt := top 89
theorem sc_L_is_point : FnScope ["_law_a", "_law_b", "_law_value", "_law_x", "_law_y", "_law_z"] ["_law_a", "_law_b", "_law_value"] (defScope s_L_is_point) := ⟨rfl, rfl, rfl, by decide +kernel, rfl, by decide +kernel, by decide +kernel⟩
abbrev s_L_zero_right : Stmt := top 90
theorem sc_L_zero_right : FnScope ["_law_a", "_law_b", "_law_is_open", "_law_algebra", "_law_four"] ["_law_a", "_law_b", "_law_is_open"] (defScope s_L_zero_right) := ⟨rfl, rfl, rfl, by decide +kernel, rfl, by decide +kernel, by decide +kernel⟩
abbrev s_L_right : Stmt := top 91
theorem sc_L_right : FnScope ["_law_vial_here", "_law_a", "_law_b", "_law_places_here", "_law_told", "_law_x", "_law_y", "_law_z", "_law_four", "_law_many"] ["_law_vial_here"] (defScope s_L_right) := ⟨rfl, rfl, rfl, by decide +kernel, rfl, by decide +kernel, by decide +kernel⟩
abbrev s_L_law : Stmt := top 92
theorem sc_L_law : FnScope ["_law_script", "_law_at", "_law_vial_here", "_law_some", "_law_a", "_law_b"] ["_law_script"] (defScope s_L_law) := ⟨rfl, rfl, rfl, by decide +kernel, rfl, by decide +kernel, by decide +kernel⟩
end Sf

namespace Sf
open PySem PySem.Spec PyProof.Rows L2
def d_L_vial : He.DefD := ⟨("_law_vial", none), "_law_vial", "_law_vial", defArgs s_L_vial, defBody s_L_vial, defScope s_L_vial, [], []⟩
def d_L_drop : He.DefD := ⟨("_law_drop", none), "_law_drop", "_law_drop", defArgs s_L_drop, defBody s_L_drop, defScope s_L_drop, [], []⟩
def d_L_any : He.DefD := ⟨("_law_any", none), "_law_any", "_law_any", defArgs s_L_any, defBody s_L_any, defScope s_L_any, [], []⟩
def d_L_number : He.DefD := ⟨("_law_number", none), "_law_number", "_law_number", defArgs s_L_number, defBody s_L_number, defScope s_L_number, [], []⟩
def d_L_open_pair : He.DefD := ⟨("_law_open_pair", none), "_law_open_pair", "_law_open_pair", defArgs s_L_open_pair, defBody s_L_open_pair, defScope s_L_open_pair, [], []⟩
def d_L_pair : He.DefD := ⟨("_law_pair", none), "_law_pair", "_law_pair", defArgs s_L_pair, defBody s_L_pair, defScope s_L_pair, [], []⟩
def d_L_primes : He.DefD := ⟨("_law_primes", none), "_law_primes", "_law_primes", defArgs s_L_primes, defBody s_L_primes, defScope s_L_primes, [], []⟩
def d_L_parts : He.DefD := ⟨("_law_parts", none), "_law_parts", "_law_parts", defArgs s_L_parts, defBody s_L_parts, defScope s_L_parts, [], []⟩
def d_L_residue : He.DefD := ⟨("_law_residue", none), "_law_residue", "_law_residue", defArgs s_L_residue, defBody s_L_residue, defScope s_L_residue, [], []⟩
def d_L_sign : He.DefD := ⟨("_law_sign", none), "_law_sign", "_law_sign", defArgs s_L_sign, defBody s_L_sign, defScope s_L_sign, [], []⟩
def d_L_places : He.DefD := ⟨("_law_places", none), "_law_places", "_law_places", defArgs s_L_places, defBody s_L_places, defScope s_L_places, [], []⟩
def d_P_is_integer : He.DefD := ⟨("is_integer", none), "is_integer", "is_integer", defArgs s_P_is_integer, defBody s_P_is_integer, defScope s_P_is_integer, [], []⟩
def d_P_check_number : He.DefD := ⟨("check_number", none), "check_number", "check_number", defArgs s_P_check_number, defBody s_P_check_number, defScope s_P_check_number, [], []⟩
def d_P_stripped : He.DefD := ⟨("stripped", none), "stripped", "stripped", defArgs s_P_stripped, defBody s_P_stripped, defScope s_P_stripped, [], []⟩
def d_P_next_divisor : He.DefD := ⟨("next_divisor", none), "next_divisor", "next_divisor", defArgs s_P_next_divisor, defBody s_P_next_divisor, defScope s_P_next_divisor, [], []⟩
def d_P_prime_powers : He.DefD := ⟨("prime_powers", none), "prime_powers", "prime_powers", defArgs s_P_prime_powers, defBody s_P_prime_powers, defScope s_P_prime_powers, [], []⟩
def d_P_factors : He.DefD := ⟨("factors", none), "factors", "factors", defArgs s_P_factors, defBody s_P_factors, defScope s_P_factors, [], []⟩
def d_P_quarter : He.DefD := ⟨("quarter", none), "quarter", "quarter", defArgs s_P_quarter, defBody s_P_quarter, defScope s_P_quarter, [], []⟩
def d_P_eighth : He.DefD := ⟨("eighth", none), "eighth", "eighth", defArgs s_P_eighth, defBody s_P_eighth, defScope s_P_eighth, [], []⟩
def d_P_sign_at_two : He.DefD := ⟨("sign_at_two", none), "sign_at_two", "sign_at_two", defArgs s_P_sign_at_two, defBody s_P_sign_at_two, defScope s_P_sign_at_two, [], []⟩
def d_P_power_modulo : He.DefD := ⟨("power_modulo", none), "power_modulo", "power_modulo", defArgs s_P_power_modulo, defBody s_P_power_modulo, defScope s_P_power_modulo, [], []⟩
def d_P_rest_sign : He.DefD := ⟨("rest_sign", none), "rest_sign", "rest_sign", defArgs s_P_rest_sign, defBody s_P_rest_sign, defScope s_P_rest_sign, [], []⟩
def d_P_sign_at_odd : He.DefD := ⟨("sign_at_odd", none), "sign_at_odd", "sign_at_odd", defArgs s_P_sign_at_odd, defBody s_P_sign_at_odd, defScope s_P_sign_at_odd, [], []⟩
def d_P_sign : He.DefD := ⟨("sign", none), "sign", "sign", defArgs s_P_sign, defBody s_P_sign, defScope s_P_sign, [], []⟩
def d_P_signed_places : He.DefD := ⟨("signed_places", none), "signed_places", "signed_places", defArgs s_P_signed_places, defBody s_P_signed_places, defScope s_P_signed_places, [], []⟩
def d_P_free_part : He.DefD := ⟨("free_part", none), "free_part", "free_part", defArgs s_P_free_part, defBody s_P_free_part, defScope s_P_free_part, [], []⟩
def d_P_least_nonsquare : He.DefD := ⟨("least_nonsquare", none), "least_nonsquare", "least_nonsquare", defArgs s_P_least_nonsquare, defBody s_P_least_nonsquare, defScope s_P_least_nonsquare, [], []⟩
def d_P_halvings : He.DefD := ⟨("halvings", none), "halvings", "halvings", defArgs s_P_halvings, defBody s_P_halvings, defScope s_P_halvings, [], []⟩
def d_P_root_modulo : He.DefD := ⟨("root_modulo", none), "root_modulo", "root_modulo", defArgs s_P_root_modulo, defBody s_P_root_modulo, defScope s_P_root_modulo, [], []⟩
def d_P_root_by : He.DefD := ⟨("root_by", none), "root_by", "root_by", defArgs s_P_root_by, defBody s_P_root_by, defScope s_P_root_by, [], []⟩
def d_P_pair_length : He.DefD := ⟨("pair_length", none), "pair_length", "pair_length", defArgs s_P_pair_length, defBody s_P_pair_length, defScope s_P_pair_length, [], []⟩
def d_P_least_pair : He.DefD := ⟨("least_pair", none), "least_pair", "least_pair", defArgs s_P_least_pair, defBody s_P_least_pair, defScope s_P_least_pair, [], []⟩
def d_P_lowest_point : He.DefD := ⟨("lowest_point", none), "lowest_point", "lowest_point", defArgs s_P_lowest_point, defBody s_P_lowest_point, defScope s_P_lowest_point, [], []⟩
def d_P_free_point : He.DefD := ⟨("free_point", none), "free_point", "free_point", defArgs s_P_free_point, defBody s_P_free_point, defScope s_P_free_point, [], []⟩
def d_P_solution : He.DefD := ⟨("solution", none), "solution", "solution", defArgs s_P_solution, defBody s_P_solution, defScope s_P_solution, [], []⟩
def d_P_point_on : He.DefD := ⟨("point_on", none), "point_on", "point_on", defArgs s_P_point_on, defBody s_P_point_on, defScope s_P_point_on, [], []⟩
def d_P_check_algebra : He.DefD := ⟨("check_algebra", none), "check_algebra", "check_algebra", defArgs s_P_check_algebra, defBody s_P_check_algebra, defScope s_P_check_algebra, [], []⟩
def d_P_check_small_algebra : He.DefD := ⟨("check_small_algebra", none), "check_small_algebra", "check_small_algebra", defArgs s_P_check_small_algebra, defBody s_P_check_small_algebra, defScope s_P_check_small_algebra, [], []⟩
def d_P_lowest_entries : He.DefD := ⟨("lowest_entries", none), "lowest_entries", "lowest_entries", defArgs s_P_lowest_entries, defBody s_P_lowest_entries, defScope s_P_lowest_entries, [], []⟩
def d_P_is_passed : He.DefD := ⟨("is_passed", none), "is_passed", "is_passed", defArgs s_P_is_passed, defBody s_P_is_passed, defScope s_P_is_passed, [], []⟩
def d_P_is_passed_entries : He.DefD := ⟨("is_passed_entries", none), "is_passed_entries", "is_passed_entries", defArgs s_P_is_passed_entries, defBody s_P_is_passed_entries, defScope s_P_is_passed_entries, [], []⟩
def d_P_lowest_terms : He.DefD := ⟨("lowest_terms", none), "lowest_terms", "lowest_terms", defArgs s_P_lowest_terms, defBody s_P_lowest_terms, defScope s_P_lowest_terms, [], []⟩
def d_P_sign_of : He.DefD := ⟨("sign_of", none), "sign_of", "sign_of", defArgs s_P_sign_of, defBody s_P_sign_of, defScope s_P_sign_of, [], []⟩
def d_P_Ratio___init__ : He.DefD := ⟨("Ratio", some "__init__"), "__init__", "Ratio.__init__", defArgs s_P_Ratio___init__, defBody s_P_Ratio___init__, defScope s_P_Ratio___init__, [.int 1], []⟩
def d_P_made_ratio : He.DefD := ⟨("made_ratio", none), "made_ratio", "made_ratio", defArgs s_P_made_ratio, defBody s_P_made_ratio, defScope s_P_made_ratio, [], []⟩
def d_P_norm_of : He.DefD := ⟨("norm_of", none), "norm_of", "norm_of", defArgs s_P_norm_of, defBody s_P_norm_of, defScope s_P_norm_of, [], []⟩
def d_P_Four___init__ : He.DefD := ⟨("Four", some "__init__"), "__init__", "Four.__init__", defArgs s_P_Four___init__, defBody s_P_Four___init__, defScope s_P_Four___init__, [.int 1], []⟩
def d_P_made_four : He.DefD := ⟨("made_four", none), "made_four", "made_four", defArgs s_P_made_four, defBody s_P_made_four, defScope s_P_made_four, [], []⟩
def d_P_zero_norm : He.DefD := ⟨("zero_norm", none), "zero_norm", "zero_norm", defArgs s_P_zero_norm, defBody s_P_zero_norm, defScope s_P_zero_norm, [], []⟩
def d_P_Ratio___eq__ : He.DefD := ⟨("Ratio", some "__eq__"), "__eq__", "Ratio.__eq__", defArgs s_P_Ratio___eq__, defBody s_P_Ratio___eq__, defScope s_P_Ratio___eq__, [], []⟩
def d_P_Four___bool__ : He.DefD := ⟨("Four", some "__bool__"), "__bool__", "Four.__bool__", defArgs s_P_Four___bool__, defBody s_P_Four___bool__, defScope s_P_Four___bool__, [], []⟩
def d_P_Algebra___eq__ : He.DefD := ⟨("Algebra", some "__eq__"), "__eq__", "Algebra.__eq__", defArgs s_P_Algebra___eq__, defBody s_P_Algebra___eq__, defScope s_P_Algebra___eq__, [], []⟩
def d_P_product_of_primes : He.DefD := ⟨("product_of_primes", none), "product_of_primes", "product_of_primes", defArgs s_P_product_of_primes, defBody s_P_product_of_primes, defScope s_P_product_of_primes, [], []⟩
def d_P_Algebra___init__ : He.DefD := ⟨("Algebra", some "__init__"), "__init__", "Algebra.__init__", defArgs s_P_Algebra___init__, defBody s_P_Algebra___init__, defScope s_P_Algebra___init__, [], []⟩
def d_L_zero_right : He.DefD := ⟨("_law_zero_right", none), "_law_zero_right", "_law_zero_right", defArgs s_L_zero_right, defBody s_L_zero_right, defScope s_L_zero_right, [], []⟩
def d_P_is_triple : He.DefD := ⟨("is_triple", none), "is_triple", "is_triple", defArgs s_P_is_triple, defBody s_P_is_triple, defScope s_P_is_triple, [], []⟩
def d_P_solves : He.DefD := ⟨("solves", none), "solves", "solves", defArgs s_P_solves, defBody s_P_solves, defScope s_P_solves, [], []⟩
def d_P_is_point : He.DefD := ⟨("is_point", none), "is_point", "is_point", defArgs s_P_is_point, defBody s_P_is_point, defScope s_P_is_point, [], []⟩
def d_L_is_point : He.DefD := ⟨("_law_is_point", none), "_law_is_point", "_law_is_point", defArgs s_L_is_point, defBody s_L_is_point, defScope s_L_is_point, [], []⟩
def d_P_Ratio___bool__ : He.DefD := ⟨("Ratio", some "__bool__"), "__bool__", "Ratio.__bool__", defArgs s_P_Ratio___bool__, defBody s_P_Ratio___bool__, defScope s_P_Ratio___bool__, [], []⟩
def d_L_right : He.DefD := ⟨("_law_right", none), "_law_right", "_law_right", defArgs s_L_right, defBody s_L_right, defScope s_L_right, [], []⟩
def d_L_law : He.DefD := ⟨("law", none), "law", "law", defArgs s_L_law, defBody s_L_law, defScope s_L_law, [], []⟩
def fn : List He.DefD := [d_L_vial, d_L_drop, d_L_any, d_L_number, d_L_open_pair, d_L_pair, d_L_primes, d_L_parts, d_L_residue, d_L_sign, d_L_places, d_P_is_integer, d_P_check_number, d_P_stripped, d_P_next_divisor, d_P_prime_powers, d_P_factors, d_P_quarter, d_P_eighth, d_P_sign_at_two, d_P_power_modulo, d_P_rest_sign, d_P_sign_at_odd, d_P_sign, d_P_signed_places, d_P_free_part, d_P_least_nonsquare, d_P_halvings, d_P_root_modulo, d_P_root_by, d_P_pair_length, d_P_least_pair, d_P_lowest_point, d_P_free_point, d_P_solution, d_P_point_on, d_P_check_algebra, d_P_check_small_algebra, d_P_lowest_entries, d_P_is_passed, d_P_is_passed_entries, d_P_lowest_terms, d_P_sign_of, d_P_Ratio___init__, d_P_made_ratio, d_P_norm_of, d_P_Four___init__, d_P_made_four, d_P_zero_norm, d_P_Ratio___eq__, d_P_Four___bool__, d_P_Algebra___eq__, d_P_product_of_primes, d_P_Algebra___init__, d_L_zero_right, d_P_is_triple, d_P_solves, d_P_is_point, d_L_is_point, d_P_Ratio___bool__, d_L_right, d_L_law]
def fa : List He.Fa := ([.glo "_law_vial", .glo "_law_drop", .glo "_law_any", .glo "_law_number", .glo "_law_open_pair", .glo "_law_pair", .glo "_law_primes", .glo "_law_parts", .glo "_law_residue", .glo "_law_sign", .glo "_law_places", .glo "is_integer", .glo "check_number", .glo "stripped", .glo "next_divisor", .glo "prime_powers", .glo "factors", .glo "quarter", .glo "eighth", .glo "sign_at_two", .glo "power_modulo", .glo "rest_sign", .glo "sign_at_odd", .glo "sign", .glo "signed_places", .glo "free_part", .glo "least_nonsquare", .glo "halvings", .glo "root_modulo", .glo "root_by"] : List He.Fa) ++ ([.glo "pair_length", .glo "least_pair", .glo "lowest_point", .glo "free_point", .glo "solution", .glo "point_on", .glo "check_algebra", .glo "check_small_algebra", .glo "lowest_entries", .glo "is_passed", .glo "is_passed_entries", .glo "lowest_terms", .glo "sign_of", .glo "made_ratio", .glo "norm_of", .glo "made_four", .glo "zero_norm", .glo "product_of_primes", .glo "_law_zero_right", .glo "is_triple", .glo "solves", .glo "is_point", .glo "_law_is_point", .glo "_law_right", .glo "law", .free "isinstance", .free "int", .free "bool", .free "abs", .free "tuple"] : List He.Fa) ++ ([.free "all", .free "len", .free "range", .free "sorted", .free "set", .free "max", .free "any", .free "str", .free "zip", .free "dict", .free "min", .int "TOO_LONG" 1000000000000000000000000000000000000000000000000000000000000, .int "MAX_NUMBER_numbers" 1000000000, .int "MAX_NUMBER_points" 1000000, .int "MAX_POWER" 1000, .int "MAX_NUMBER_tables" 1000000, .glo "Algebra", .cls "Algebra", .noat "Algebra" "places", .noat "Algebra" "a", .noat "Algebra" "b", .noat "Algebra" "discriminant", .noat "Algebra" "is_tables", .noat "Algebra" "is_definite", .glo "Ratio", .cls "Ratio", .noat "Ratio" "top", .noat "Ratio" "bottom", .noat "Ratio" "sign", .mkr "Ratio"] : List He.Fa) ++ ([.glo "Four", .cls "Four", .noat "Four" "algebra", .noat "Four" "entries", .noat "Four" "bottom", .noat "Four" "trace", .noat "Four" "norm", .noat "Four" "is_ratio", .mkr "Four", .meth "Ratio" "__eq__", .meth "Four" "__bool__", .meth "Algebra" "__eq__", .mkr "Algebra", .meth "Ratio" "__bool__"] : List He.Fa)
def ex (K : PySem.W.Frag) : Bool := gblB K "isqrt" "math.isqrt" && (gblB K "gcd" "math.gcd" && (ownB K "Algebra" && (ownB K "Ratio" && (ownB K "Four" && (true)))))
abbrev R : PySem.W.OpenRow := PySem.W.OpenLaw.row PySem.Challenge.rw_signfours_k15_whole_points_told
abbrev hk : PySem.W.Hook := hookO 4 fa fn ex
def ob (s : PySem.W.SharedT) : AlO := obsO 4 fa fn ex (HandSHeadRun.getT s)
theorem ob_eq (s : PySem.W.SharedT) : ob s = hk.obs s.abs := obsO_eq (HandSHeadRun.getT_eq s)
def loose : List Str := (["_wall", "TOO_LONG", "is_integer", "is_passed", "is_triple", "FourError", "InvalidRatio", "InvalidAlgebra", "InvalidFour", "InvalidOperation", "ParseError", "InvalidNumber", "TooMany", "Refused", "MAX_NUMBER_numbers", "factors", "prime_powers", "free_part", "check_number", "next_divisor", "stripped", "rest_sign", "power_modulo", "root_modulo", "least_nonsquare", "halvings", "signed_places", "sign", "sign_at_two", "quarter"] : List Str) ++ (["eighth", "sign_at_odd", "MAX_NUMBER_points", "point_on", "is_point", "solves", "solution", "lowest_point", "free_point", "least_pair", "pair_length", "root_by", "Ratio", "made_ratio", "lowest_terms", "sign_of", "is_fraction", "check_ratio", "terms_of", "is_digits", "MAX_POWER", "LETTERS", "Algebra", "Four", "made_four", "check_algebra", "check_operands", "is_passed_entries", "product_of_primes", "lowest_entries"] : List Str) ++ (["mate_entries", "norm_of", "product_entries", "written_terms", "written_term", "MAX_NUMBER_tables", "zero_norm", "check_small_algebra", "_law_vial", "_law_drop", "_law_any", "_law_primes", "_law_parts", "_law_residue", "_law_sign", "_law_places", "_law_number", "_law_open_pair", "_law_pair", "_law_is_point", "_law_zero_right", "_law_right"] : List Str)
set_option maxHeartbeats 0 in
theorem run (w : World) : HandSHeadRun.RunEqI R (PySem.W.view R.prog [0, 92]) hk ob 20000 loose w := by
  unfold HandSHeadRun.RunEqI
  kernel_rfl
end Sf

namespace Sf
open PySem PySem.Spec PyProof.Rows L2
abbrev FnD (K : PySem.W.Frag) (x qual : Str) (st : Stmt) (f : Addr) (fd : FuncData) : Prop := FunD K x qual (defArgs st) (defBody st) (defScope st) [] [] f fd
/-- a def with defaults -/
abbrev FnDD (K : PySem.W.Frag) (x qual : Str) (st : Stmt) (dvs : List V) (f : Addr) (fd : FuncData) : Prop := FunD K x qual (defArgs st) (defBody st) (defScope st) dvs [] f fd
theorem lt3000 {a : Int} (h0 : 0 ≤ a) (h : a < 10 ^ 400) : a.natAbs < 2 ^ 3000 := by
  have h1 : (10 : Int) ^ 400 < 2 ^ 3000 := by decide +kernel
  have h2 : ((a.natAbs : Nat) : Int) < ((2 ^ 3000 : Nat) : Int) := by
    rw [Int.natAbs_of_nonneg h0]
    exact Int.lt_trans h h1
  exact Int.ofNat_lt.mp h2
theorem lt3000s {a : Int} (h0 : -1000000000000000000000000000000 < a) (h : a < 1000000000000000000000000000000) : a.natAbs < 2 ^ 3000 := Nat.lt_trans (by omega : a.natAbs < 1000000000000000000000000000000) (by decide +kernel)
theorem inV_two (x a b : Int) : inV (.int x) [.int a, .int b] = decide (x = a ∨ x = b) := by
  show ((a == x) || ((b == x) || false)) = _
  rw [Bool.or_false, Bool.eq_iff_iff]
  simp only [Bool.or_eq_true, beq_iff_eq, decide_eq_true_eq]
  constructor
  · rintro (h | h)
    · exact .inl h.symm
    · exact .inr h.symm
  · rintro (h | h)
    · exact .inl h.symm
    · exact .inr h.symm
theorem inV_ints (x : Int) (l : List Int) : inV (.int x) (l.map V.int) = decide (x ∈ l) := by
  unfold inV
  rw [List.any_map, Bool.eq_iff_iff, List.any_eq_true]
  simp only [decide_eq_true_eq]
  constructor
  · rintro ⟨y, hy, e⟩
    have e2 : (y == x) = true := e
    rw [← beq_iff_eq.mp e2]
    exact hy
  · intro h
    refine ⟨x, h, ?_⟩
    show (x == x) = true
    exact beq_self_eq_true x
theorem all_flat (l : List Int) : (l.map V.int).all flatV = true := by
  rw [List.all_map, List.all_eq_true]
  intro x _
  rfl
end Sf

namespace Sf
open PySem PySem.Spec PyProof.Rows L2
section
variable {P : Program} {w : World} {K : PySem.W.Frag} {mg : Str → Option Value} {base : Heap} {f : Addr} {fd : FuncData}
def spNext : Sp := fun vs H Q _ => ∃ d : Int, vs = [.int d] ∧ Q (.int (if d = 2 then 3 else d + 2)) H
theorem ok_next (F : FnD K "next_divisor" "next_divisor" s_P_next_divisor f fd) : FnOk P w K mg base CX0 1 f fd ["divisor"] spNext := by
  refine F.ok sc_P_next_divisor (fun vs H Q E h => ?_) (fun cdv A outer s H vs Q E hr h => ?_)
  · obtain ⟨d, rfl, _⟩ := h; rfl
  · obtain ⟨d, rfl, q⟩ := h
    refine ⟨_, PSs.nox (pss_one (ps_ret (pe_ifExp (pt_cmp (pc_eqI (pv 0) pe_int)) pe_int (pe_op op_add (pv 0) pe_int)))), ?_⟩
    refine ⟨_, rfl, _, _, rfl, rfl, _, rfl, ifd (fun h => ?_) (fun h => ?_)⟩
    · rw [if_pos h] at q
      exact q
    · rw [if_neg h] at q
      exact ⟨_, rfl, _, _, rfl, rfl, q⟩
end
end Sf

namespace Sf
open PySem PySem.Spec PyProof.Rows L2
section
variable {P : Program} {w : World} {K : PySem.W.Frag} {mg : Str → Option Value} {base : Heap} {f : Addr} {fd : FuncData}
/-- what is left of a number other than 0, and how often p was taken out -/
def Strip (n p : Int) (m : Nat) (u : Int) : Prop := n = p ^ m * u ∧ u % p ≠ 0
def spStripped : Sp := fun vs H Q _ => ∃ n p : Int, vs = [.int n, .int p] ∧ n ≠ 0 ∧ 2 ≤ p ∧ p.natAbs < 2 ^ 3000 ∧
  ∀ (m : Nat) (u : Int) (a : Addr), Strip n p m u → H a = none → Q (.ref a) (upd H a (.tup [.int m, .int u]))
theorem strip_less {u p : Int} (hu : u ≠ 0) (hp : 2 ≤ p) (h : u % p = 0) : (u / p).natAbs < u.natAbs ∧ u / p ≠ 0 ∧ u = p * (u / p) := by
  have e : u = p * (u / p) := by
    have := Int.emod_add_mul_ediv u p
    omega
  have h2 : u / p ≠ 0 := fun z => by
    rw [z] at e
    omega
  refine ⟨?_, h2, e⟩
  have e2 : u.natAbs = p.natAbs * (u / p).natAbs := by
    conv => lhs; rw [e]
    exact Int.natAbs_mul _ _
  have h3 : 0 < (u / p).natAbs := by omega
  have h4 : 2 ≤ p.natAbs := by omega
  have h5 : 2 * (u / p).natAbs ≤ p.natAbs * (u / p).natAbs := Nat.mul_le_mul_right _ h4
  omega
theorem ok_stripped (F : FnD K "stripped" "stripped" s_P_stripped f fd) : FnOk P w K mg base CX0 1 f fd ["number", "prime"] spStripped := by
  refine F.ok sc_P_stripped (fun vs H Q E h => ?_) (fun cdv A outer s H vs Q E hr h => ?_)
  · obtain ⟨n, p, rfl, _⟩ := h; rfl
  · obtain ⟨n, p, rfl, hn, hp, hb, q⟩ := h
    refine ⟨_, PSs.nox (pss_cons (ps_set (i := 2) sc_P_stripped.nd rfl (Or.inl rfl) pe_int)
      (pss_cons (ps_while PassesOwn.never (pt_cmp (pc_eqI (pe_op op_mod (pv 0) (pv 1)) pe_int)) (pss_cons (ps_set (i := 2) sc_P_stripped.nd rfl (Or.inl rfl) (pe_op op_add (pv 2) pe_int))
      (pss_one (ps_set (i := 0) sc_P_stripped.nd rfl (Or.inl rfl) (pe_op op_fdivW (pv 0) (pv 1))))))
      (pss_one (ps_ret (pe_tup (pa_cons (pv 2) (pa_cons (pv 0) pa_nil))))))), ?_⟩
    refine ⟨fun c σ H' => H' = H ∧ ∃ (m : Nat) (u : Int), σ = [some (.int u), some (.int p), some (.int m)] ∧ n = p ^ m * u ∧ u ≠ 0 ∧ c = u.natAbs, ⟨_, rfl, 0, n, rfl, by simp, hn, rfl⟩, ?_⟩
    rintro c σ _ ⟨rfl, m, u, rfl, e, hu, rfl⟩
    refine ⟨_, rfl, _, rfl, _, _, rfl, rfl, (by omega), _, _, rfl, rfl, _, rfl, ifd (fun h => ⟨_, fun _ _ z => z, ?_⟩) (fun h => ?_)⟩
    · have hl := strip_less hu hp h
      refine ⟨_, rfl, _, _, rfl, rfl, _, rfl, _, rfl, _, _, rfl, rfl, CDivW.of (by omega) hb, ?_⟩
      refine ⟨_, hl.1, rfl, m + 1, u / p, rfl, ?_, hl.2.1, rfl⟩
      rw [e, Int.pow_succ, Int.mul_assoc, ← hl.2.2]
    · refine ⟨_, rfl, _, rfl, (by show 2 ≤ sizeLine; decide), fun a ha => ?_⟩
      exact q m u a ⟨e, h⟩ ha
end
end Sf

namespace Sf
open PySem PySem.Spec PyProof.Rows L2
section
variable {P : Program} {w : World} {K : PySem.W.Frag} {mg : Str → Option Value} {base : Heap} {f : Addr} {fd : FuncData}
theorem pow_mod (a m : Int) (k : Nat) : (a % m) ^ k % m = a ^ k % m := by
  induction k with
  | zero => rw [Int.pow_zero, Int.pow_zero]
  | succ k ih => rw [Int.pow_succ, Int.pow_succ, Int.mul_emod, ih, Int.emod_emod_of_dvd _ (Int.dvd_refl _), ← Int.mul_emod]
/-- a power, reduced -/
def spPowMod : Sp := fun vs H Q _ => ∃ n k m : Int, vs = [.int n, .int k, .int m] ∧ 0 ≤ k ∧ 1 ≤ m ∧ m.natAbs < 2 ^ 1000 ∧ Q (.int (n ^ k.toNat % m)) H
theorem mod_lt3000 {a m : Int} (h1 : 1 ≤ m) (hb : m.natAbs < 2 ^ 1000) : (a % m).natAbs < 2 ^ 3000 := by
  have h2 := Int.emod_nonneg a (by omega : m ≠ 0)
  have h3 := Int.emod_lt_of_pos a (by omega : 0 < m)
  have h4 : (a % m).natAbs < 2 ^ 1000 := by omega
  exact Nat.lt_trans h4 (by decide +kernel)
theorem pow_half (a : Int) (k : Int) (hk : 0 < k) : a ^ k.toNat = (a * a) ^ (k / 2).toNat * a ^ (k % 2).toNat := by
  have e : k.toNat = (k / 2).toNat + (k / 2).toNat + (k % 2).toNat := by omega
  rw [e, Int.pow_add, Int.pow_add, Int.mul_pow]
theorem ok_powmod (F : FnD K "power_modulo" "power_modulo" s_P_power_modulo f fd) : FnOk P w K mg base CX0 1 f fd ["number", "many", "modulus"] spPowMod := by
  refine F.ok sc_P_power_modulo (fun vs H Q E h => ?_) (fun cdv A outer s H vs Q E hr h => ?_)
  · obtain ⟨n, k, m, rfl, _⟩ := h; rfl
  · obtain ⟨n, k, m, rfl, hk, hm, hb, q⟩ := h
    refine ⟨_, PSs.nox (pss_cons (ps_set (i := 3) sc_P_power_modulo.nd rfl (Or.inl rfl) (pe_op op_mod pe_int (pv 2)))
      (pss_cons (ps_set (i := 4) sc_P_power_modulo.nd rfl (Or.inl rfl) (pe_op op_mod (pv 0) (pv 2)))
      (pss_cons (ps_while PassesOwn.never (pt_cmp (pc_gt (pv 1) pe_int)) (pss_cons (ps_if (pt_cmp (pc_eqI (pe_op op_mod (pv 1) pe_int) pe_int)) (pss_one (ps_set (i := 3) sc_P_power_modulo.nd rfl (Or.inl rfl) (pe_op op_mod (pe_op op_mulW (pv 3) (pv 4)) (pv 2)))) pss_nil)
      (pss_cons (ps_set (i := 4) sc_P_power_modulo.nd rfl (Or.inl rfl) (pe_op op_mod (pe_op op_mulW (pv 4) (pv 4)) (pv 2)))
      (pss_one (ps_set (i := 1) sc_P_power_modulo.nd rfl (Or.inl rfl) (pe_op op_fdivW (pv 1) pe_int))))))
      (pss_one (ps_ret (pv 3)))))), ?_⟩
    have hm0 : (0 : Int) < m := by omega
    refine ⟨_, rfl, _, _, rfl, rfl, hm0, _, rfl, _, rfl, _, _, rfl, rfl, hm0, ?_⟩
    refine ⟨fun c σ H' => H' = H ∧ ∃ k' made sq : Int, σ = [some (.int n), some (.int k'), some (.int m), some (.int made), some (.int sq)] ∧ 0 ≤ k' ∧ (made * sq ^ k'.toNat) % m = n ^ k.toNat % m ∧ made % m = made ∧ made.natAbs < 2 ^ 3000 ∧ sq.natAbs < 2 ^ 3000 ∧ c = k'.toNat,
      ⟨_, rfl, k, 1 % m, n % m, rfl, hk, ?_, Int.emod_emod_of_dvd _ (Int.dvd_refl _), mod_lt3000 hm hb, mod_lt3000 hm hb, rfl⟩, ?_⟩
    · rw [Int.mul_emod, Int.emod_emod_of_dvd _ (Int.dvd_refl _), ← Int.mul_emod, Int.one_mul]
      exact pow_mod _ _ _
    rintro c σ _ ⟨rfl, k', made, sq, rfl, hk', e, em, b1, b2, rfl⟩
    refine ⟨_, rfl, _, _, rfl, rfl, _, rfl, ifd (fun h => ⟨_, fun _ _ z => z, ?_⟩) (fun h => ?_)⟩
    · have hh := pow_half sq k' h
      have hsq : ((sq * sq) ^ (k' / 2).toNat) % m = ((sq * sq % m) ^ (k' / 2).toNat) % m := (pow_mod _ _ _).symm
      refine ⟨_, rfl, _, _, rfl, rfl, (by show (0 : Int) < 2; decide), _, _, rfl, rfl, _, rfl, ifd (fun h2 => ?_) (fun h2 => ?_)⟩
      · refine ⟨_, rfl, _, rfl, _, _, rfl, rfl, CMulW.of b1 b2, _, rfl, _, _, rfl, rfl, hm0, ?_⟩
        refine ⟨_, rfl, _, rfl, _, _, rfl, rfl, CMulW.of b2 b2, _, rfl, _, _, rfl, rfl, hm0, ?_⟩
        refine ⟨_, rfl, _, _, rfl, rfl, CDivW.of (by decide) (by decide +kernel), ?_⟩
        refine ⟨_, ?_, rfl, k' / 2, _, _, rfl, by omega, ?_, Int.emod_emod_of_dvd _ (Int.dvd_refl _), mod_lt3000 hm hb, mod_lt3000 hm hb, rfl⟩
        · omega
        · rw [← e, hh, h2]
          show made * sq % m * (sq * sq % m) ^ (k' / 2).toNat % m = made * ((sq * sq) ^ (k' / 2).toNat * sq ^ 1) % m
          rw [Int.mul_emod, ← hsq, Int.emod_emod_of_dvd _ (Int.dvd_refl _), ← Int.mul_emod, Int.pow_one]
          congr 1
          rw [Int.mul_assoc, Int.mul_comm sq]
      · refine ⟨_, rfl, _, rfl, _, _, rfl, rfl, CMulW.of b2 b2, _, rfl, _, _, rfl, rfl, hm0, ?_⟩
        refine ⟨_, rfl, _, _, rfl, rfl, CDivW.of (by decide) (by decide +kernel), ?_⟩
        refine ⟨_, ?_, rfl, k' / 2, _, _, rfl, by omega, ?_, em, b1, mod_lt3000 hm hb, rfl⟩
        · omega
        · have h3 : k' % 2 = 0 := by omega
          rw [← e, hh, h3]
          show made * (sq * sq % m) ^ (k' / 2).toNat % m = made * ((sq * sq) ^ (k' / 2).toNat * sq ^ 0) % m
          rw [Int.mul_emod, ← hsq, ← Int.mul_emod, Int.pow_zero, Int.mul_one]
    · have h3 : k' = 0 := by omega
      subst h3
      have e2 : made = n ^ k.toNat % m := by
        rw [← e]
        show made = made * sq ^ 0 % m
        rw [Int.pow_zero, Int.mul_one, em]
      refine ⟨_, rfl, ?_⟩
      rw [e2]
      exact q
end
end Sf

namespace Sf
/-! primes by trial -/
def PrP (n : Int) : Prop := 2 ≤ n ∧ ∀ k : Int, 2 ≤ k → k < n → n % k ≠ 0
theorem prp_of_trial {n d : Int} (hn : 2 ≤ n) (hd : 2 ≤ d) (h : ∀ k : Int, 2 ≤ k → k < d → n % k ≠ 0) (hl : n < d * d) : PrP n := by
  refine ⟨hn, fun k h2 hk hz => ?_⟩
  by_cases hkd : k < d
  · exact h k h2 hkd hz
  · have e : n = k * (n / k) := by
      have := Int.emod_add_mul_ediv n k
      omega
    have hm0 : 0 < n / k := by
      rcases Int.lt_or_le 0 (n / k) with z | z
      · exact z
      · have : k * (n / k) ≤ 0 := Int.mul_nonpos_of_nonneg_of_nonpos (by omega) z
        omega
    have hm1 : n / k ≠ 1 := fun z => by
      rw [z] at e
      omega
    have h3 : d * (n / k) ≤ k * (n / k) := Int.mul_le_mul_of_nonneg_right (by omega) (by omega)
    have h4 : d * (n / k) < d * d := by omega
    have h5 : n / k < d := Int.lt_of_mul_lt_mul_left h4 (by omega)
    refine h (n / k) (by omega) h5 ?_
    rw [e]
    exact Int.emod_eq_zero_of_dvd ⟨k, by rw [Int.mul_ediv_cancel_left _ (by omega : k ≠ 0)]; exact Int.mul_comm _ _⟩
/-- no divisor below d; d is 2 or odd -/
def NoDiv (n d : Int) : Prop := 2 ≤ d ∧ (d = 2 ∨ d % 2 = 1) ∧ ∀ k : Int, 2 ≤ k → k < d → n % k ≠ 0
theorem nodiv2 (n : Int) : NoDiv n 2 := ⟨by omega, .inl rfl, fun k h1 h2 => by omega⟩
theorem mod_of_dvd {n a b : Int} (h : n % b = 0) (hb : b % a = 0) : n % a = 0 := by
  have h1 : b ∣ n := Int.dvd_of_emod_eq_zero h
  have h2 : a ∣ b := Int.dvd_of_emod_eq_zero hb
  exact Int.emod_eq_zero_of_dvd (Int.dvd_trans h2 h1)
theorem nodiv_next {n d : Int} (h : NoDiv n d) (hd : n % d ≠ 0) : NoDiv n (if d = 2 then 3 else d + 2) := by
  obtain ⟨h1, h2, h3⟩ := h
  by_cases e : d = 2
  · rw [if_pos e]
    refine ⟨by omega, .inr rfl, fun k a b => ?_⟩
    have : k = d := by omega
    rw [this]
    exact hd
  · rw [if_neg e]
    refine ⟨by omega, .inr (by omega), fun k a b => ?_⟩
    by_cases c : k < d
    · exact h3 k a c
    · by_cases c2 : k = d
      · rw [c2]
        exact hd
      · intro z
        exact h3 2 (by omega) (by omega) (mod_of_dvd z (by omega))
theorem nodiv_prime {n d : Int} (h : NoDiv n d) (hd : n % d = 0) : PrP d := by
  refine ⟨h.1, fun k a b z => ?_⟩
  exact h.2.2 k a b (mod_of_dvd hd z)
theorem nodiv_of {n u d : Int} (h : NoDiv n d) (hu : n % u = 0) : NoDiv u d := ⟨h.1, h.2.1, fun k a b z => h.2.2 k a b (mod_of_dvd hu z)⟩
theorem nodiv_lt {n d : Int} (h : NoDiv n d) (hn : 2 ≤ n) : d ≤ n := by
  rcases Int.lt_or_le n d with z | z
  · exact absurd Int.emod_self (h.2.2 n hn z)
  · exact z
/-! factors -/
def prodF : List (Int × Nat) → Int
  | [] => 1
  | q :: l => q.1 ^ q.2 * prodF l
theorem prodF_append : ∀ l m : List (Int × Nat), prodF (l ++ m) = prodF l * prodF m
  | [], m => by
    show prodF m = 1 * prodF m
    rw [Int.one_mul]
  | q :: l, m => by
    show q.1 ^ q.2 * prodF (l ++ m) = q.1 ^ q.2 * prodF l * prodF m
    rw [prodF_append l m, Int.mul_assoc]
def Sorted (l : List (Int × Nat)) : Prop := l.Pairwise fun a b => a.1 < b.1
def Primes (l : List (Int × Nat)) : Prop := ∀ q ∈ l, PrP q.1 ∧ 1 ≤ q.2
def FactOf (n : Int) (l : List (Int × Nat)) : Prop := prodF l = n ∧ Sorted l ∧ Primes l
theorem pow_pos_int {p : Int} (h : 0 < p) (e : Nat) : 0 < p ^ e := Int.pow_pos h
theorem pow_ge {p : Int} (h : 2 ≤ p) : ∀ {e : Nat}, 1 ≤ e → 2 ≤ p ^ e
  | 0, h0 => by omega
  | e + 1, _ => by
    rw [Int.pow_succ]
    have h1 : 0 < p ^ e := pow_pos_int (by omega) e
    have h2 : 1 * 2 ≤ p ^ e * p := Int.mul_le_mul (by omega) h (by omega) (by omega)
    omega
theorem prodF_len : ∀ {l : List (Int × Nat)}, Primes l → (2 : Int) ^ l.length ≤ prodF l
  | [], _ => Int.le_refl _
  | q :: l, h => by
    have ih := prodF_len (l := l) fun r hr => h r (List.mem_cons_of_mem _ hr)
    obtain ⟨hp, he⟩ := h q List.mem_cons_self
    have h1 : 2 ≤ q.1 ^ q.2 := pow_ge hp.1 he
    show (2 : Int) ^ (l.length + 1) ≤ q.1 ^ q.2 * prodF l
    rw [Int.pow_succ, Int.mul_comm]
    have h0 : (0 : Int) < 2 ^ l.length := pow_pos_int (by omega) _
    exact Int.mul_le_mul h1 ih (by omega) (by omega)
theorem len_of_prod {l : List (Int × Nat)} (h : Primes l) (hb : prodF l ≤ 1000000000) : l.length < 30 := by
  have h1 := prodF_len h
  rcases Nat.lt_or_ge l.length 30 with z | z
  · exact z
  · have e : l.length = 30 + (l.length - 30) := by omega
    have h3 : (2 : Int) ^ 30 = 1073741824 := by decide
    have h4 : (0 : Int) < 2 ^ (l.length - 30) := pow_pos_int (by omega) _
    rw [e, Int.pow_add, h3] at h1
    omega
end Sf

namespace Sf
open PySem PySem.Spec PyProof.Rows L2
/-- what the module's names hold -/
structure Glob (mg : Str → Option Value) : Prop where
  m_isinstance : mg "isinstance" = none
  m_int : mg "int" = none
  m_bool : mg "bool" = none
  m_abs : mg "abs" = none
  m_tuple : mg "tuple" = none
  m_all : mg "all" = none
  m_len : mg "len" = none
  m_range : mg "range" = none
  m_sorted : mg "sorted" = none
  m_set : mg "set" = none
  m_max : mg "max" = none
  m_any : mg "any" = none
  m_str : mg "str" = none
  m_zip : mg "zip" = none
  m_dict : mg "dict" = none
  m_min : mg "min" = none
  m_isqrt : mg "isqrt" = some (.builtin "math.isqrt")
  m_gcd : mg "gcd" = some (.builtin "math.gcd")
  m_TOO_LONG : ∃ t, mg "TOO_LONG" = some (.int 1000000000000000000000000000000000000000000000000000000000000 t)
  m_MAX_NUMBER_numbers : ∃ t, mg "MAX_NUMBER_numbers" = some (.int 1000000000 t)
  m_MAX_NUMBER_points : ∃ t, mg "MAX_NUMBER_points" = some (.int 1000000 t)
  m_MAX_POWER : ∃ t, mg "MAX_POWER" = some (.int 1000 t)
  m_MAX_NUMBER_tables : ∃ t, mg "MAX_NUMBER_tables" = some (.int 1000000 t)
/-- what isinstance(x, int) and not isinstance(x, bool) comes to -/
def IntB (K : PySem.W.Frag) (H : Hp) (x : V) (b : Bool) : Prop := ∃ (t : String) (bi bb : Bool), TyX K H x (.type t) ∧ kitB t "int" = some bi ∧ kitB t "bool" = some bb ∧ b = (bi && !bb)
theorem IntB.int {K : PySem.W.Frag} {H : Hp} (i : Int) : IntB K H (.int i) true := ⟨"int", true, false, .base (.int i), by decide +kernel, by decide +kernel, rfl⟩
theorem IntB.bl {K : PySem.W.Frag} {H : Hp} (i : Bool) : IntB K H (.bl i) false := ⟨"bool", true, true, .base (.bl i), by decide +kernel, by decide +kernel, rfl⟩
theorem IntB.non {K : PySem.W.Frag} {H : Hp} : IntB K H .non false := ⟨"NoneType", false, false, .base .non, by decide +kernel, by decide +kernel, rfl⟩
theorem IntB.str {K : PySem.W.Frag} {H : Hp} (x : Str) : IntB K H (.str x) false := ⟨"str", false, false, .base (.str x), by decide +kernel, by decide +kernel, rfl⟩
theorem IntB.lst {K : PySem.W.Frag} {H : Hp} {a : Addr} {xs : List V} (h : H a = some (.lst xs)) : IntB K H (.ref a) false := ⟨"list", false, false, .base (.lst h), by decide +kernel, by decide +kernel, rfl⟩
theorem IntB.tup {K : PySem.W.Frag} {H : Hp} {a : Addr} {xs : List V} (h : H a = some (.tup xs)) : IntB K H (.ref a) false := ⟨"tuple", false, false, .base (.tup h), by decide +kernel, by decide +kernel, rfl⟩
theorem IntB.dK {K : PySem.W.Frag} {H : Hp} {a : Addr} {xs : List (Key × V)} (h : H a = some (.dK xs)) : IntB K H (.ref a) false := ⟨"dict", false, false, .base (.dK h), by decide +kernel, by decide +kernel, rfl⟩
end Sf

namespace Sf
open PySem PySem.Spec PyProof.Rows L2
section
variable {P : Program} {w : World} {K : PySem.W.Frag} {mg : Str → Option Value} {base : Heap} {f : Addr} {fd : FuncData}
def spIsInt (K : PySem.W.Frag) : Sp := fun vs H Q _ => ∃ (x : V) (b : Bool), vs = [x] ∧ IntB K H x b ∧ Q (.bl b) H
theorem ok_is_integer (F : FnD K "is_integer" "is_integer" s_P_is_integer f fd) (T : Glob mg) : FnOk P w K mg base CX0 1 f fd ["value"] (spIsInt K) := by
  refine F.ok sc_P_is_integer (fun vs H Q E h => ?_) (fun cdv A outer s H vs Q E hr h => ?_)
  · obtain ⟨x, b, rfl, _⟩ := h; rfl
  · obtain ⟨x, b, rfl, ⟨t, bi, bb, ty, h1, h2, rfl⟩, q⟩ := h
    refine ⟨_, PSs.nox (pss_one (ps_ret (pe_and (pe_callB call_isi (by rfl) T.m_isinstance (by decide +kernel) (pa_cons (pv 0) (pa_cons (pe_bltn (v := .ty "int") (u := .type "int") (by rfl) T.m_int (by decide +kernel) rfl) pa_nil))) (pe_one (pe_not (pe_callB call_isi (by rfl) T.m_isinstance (by decide +kernel) (pa_cons (pv 0) (pa_cons (pe_bltn (v := .ty "bool") (u := .type "bool") (by rfl) T.m_bool (by decide +kernel) rfl) pa_nil)))))))), ?_⟩
    refine ⟨_, rfl, _, _, _, _, _, rfl, .ty "int", ty, kit_ty h1, _, rfl, ifb (fun e => ?_) (fun e => ?_)⟩
    · refine ⟨_, rfl, _, _, _, _, _, rfl, .ty "bool", ty, kit_ty h2, _, rfl, ?_⟩
      rw [e] at q
      exact q
    · rw [e] at q
      exact q
end
end Sf

namespace Sf
open PySem PySem.Spec PyProof.Rows L2
section
variable {P : Program} {w : World} {K : PySem.W.Frag} {mg : Str → Option Value} {base : Heap} {f : Addr} {fd : FuncData}
def spCheckNumber : Sp := fun vs H Q _ => ∃ n : Int, vs = [.int n] ∧ n ≠ 0 ∧ -1000000000 ≤ n ∧ n ≤ 1000000000 ∧ Q .non H
theorem ok_check_number (F : FnD K "check_number" "check_number" s_P_check_number f fd) (T : Glob mg) (C_P_is_integer : Cal P w K mg base 1 "is_integer" ["value"] (spIsInt K)) : FnOk P w K mg base CX0 2 f fd ["value"] spCheckNumber := by
  refine F.ok sc_P_check_number (fun vs H Q E h => ?_) (fun cdv A outer s H vs Q E hr h => ?_)
  · obtain ⟨n, rfl, _⟩ := h; rfl
  · obtain ⟨n, rfl, h0, h1, h2, q⟩ := h
    obtain ⟨tM, hc_MAX_NUMBER_numbers⟩ := T.m_MAX_NUMBER_numbers
    refine ⟨_, PSs.nox (pss_one (ps_if (PW.pt (pw_or (pt_not (pt_val (pe_cal C_P_is_integer (hr.mono (by decide)) (pa_cons (pv 0) pa_nil)))) (pw_or (pt_cmp (pc_eqI (pv 0) pe_int)) (pw_or1 (pt_cmp (pc_gt (pe_callB call_abs (by rfl) T.m_abs (by decide +kernel) (pa_cons (pv 0) pa_nil)) (pe_glob (v := .int 1000000000) rfl hc_MAX_NUMBER_numbers ⟨_, rfl⟩))))))) (pss_one ps_never) pss_nil)), ?_⟩
    refine ⟨_, rfl, .int n, true, rfl, .int n, _, rfl, iteF ?_⟩
    refine ⟨_, rfl, _, _, rfl, rfl, _, rfl, ifd (fun e => absurd e h0) (fun _ => ?_)⟩
    refine ⟨_, rfl, n, rfl, _, _, rfl, rfl, _, rfl, ifd (fun e => ?_) (fun e => ?_)⟩
    · exfalso
      split at e <;> omega
    · exact q
end
end Sf

namespace Sf
open PySem PySem.Spec PyProof.Rows L2
section
variable {P : Program} {w : World} {K : PySem.W.Frag} {mg : Str → Option Value} {base : Heap} {f : Addr} {fd : FuncData}
/-- the residue sign by a power -/
def restSign (n p : Int) : Int := if n % p = 0 then 0 else if p = 2 then (if n % 8 = 1 ∨ n % 8 = 7 then 1 else -1) else if n ^ ((p - 1) / 2).toNat % p = 1 then 1 else -1
def spRestSign : Sp := fun vs H Q _ => ∃ n p : Int, vs = [.int n, .int p] ∧ 2 ≤ p ∧ p.natAbs < 2 ^ 1000 ∧ ∀ H', Same H H' → Q (.int (restSign n p)) H'
theorem ok_rest_sign (F : FnD K "rest_sign" "rest_sign" s_P_rest_sign f fd) (C_P_power_modulo : Cal P w K mg base 1 "power_modulo" ["number", "many", "modulus"] spPowMod) : FnOk P w K mg base CX0 2 f fd ["number", "prime"] spRestSign := by
  refine F.ok sc_P_rest_sign (fun vs H Q E h => ?_) (fun cdv A outer s H vs Q E hr h => ?_)
  · obtain ⟨n, p, rfl, _⟩ := h; rfl
  · obtain ⟨n, p, rfl, hp, hb, q⟩ := h
    refine ⟨_, PSs.nox (pss_cons (ps_if (pt_cmp (pc_eqI (pe_op op_mod (pv 0) (pv 1)) pe_int)) (pss_one (ps_ret pe_int)) pss_nil)
      (pss_cons (ps_if (pt_cmp (pc_eqI (pv 1) pe_int)) (pss_one (ps_ret (pe_ifExp (pt_cmpR op_in_seq (pe_op op_mod (pv 0) pe_int) (pe_tup (pa_cons pe_int (pa_cons pe_int pa_nil))) (by rfl)) pe_int (pe_un un_neg pe_int)))) pss_nil)
      (pss_one (ps_ret (pe_ifExp (pt_cmp (pc_eqI (pe_cal C_P_power_modulo (hr.mono (by decide)) (pa_cons (pv 0) (pa_cons (pe_op op_fdivW (pe_op op_sub (pv 1) pe_int) pe_int) (pa_cons (pv 1) pa_nil)))) pe_int)) pe_int (pe_un un_neg pe_int)))))), ?_⟩
    unfold restSign at q
    refine ⟨_, rfl, _, rfl, _, _, rfl, rfl, (by omega), _, _, rfl, rfl, _, rfl, ifd (fun h => ?_) (fun h => ?_)⟩
    · rw [if_pos h] at q
      exact q H (Same.refl H)
    · rw [if_neg h] at q
      refine ⟨_, rfl, _, _, rfl, rfl, _, rfl, ifd (fun h2 => ?_) (fun h2 => ?_)⟩
      · rw [if_pos h2] at q
        refine ⟨_, rfl, _, _, rfl, rfl, (by show (0 : Int) < 8; decide), (by show 2 ≤ sizeLine; decide), fun a ha => ?_⟩
        refine ⟨a, _, rfl, .inr (.inl (.inl upd_same)), rfl, rfl, _, rfl, ?_⟩
        rw [inV_two]
        refine ifd (fun e => ?_) (fun e => ?_)
        · rw [if_pos e] at q
          exact q _ (same_upd ha)
        · rw [if_neg e] at q
          exact ⟨_, rfl, q _ (same_upd ha)⟩
      · rw [if_neg h2] at q
        refine ⟨_, rfl, _, rfl, _, _, rfl, rfl, _, _, rfl, rfl, CDivW.of (by decide) (by decide +kernel), _, rfl, n, (p - 1) / 2, p, rfl, by omega, by omega, hb, _, _, rfl, rfl, _, rfl, ifd (fun h3 => ?_) (fun h3 => ?_)⟩
        · rw [if_pos h3] at q
          exact q H (Same.refl H)
        · rw [if_neg h3] at q
          exact ⟨_, rfl, q H (Same.refl H)⟩
end
end Sf

namespace Sf
open PySem PySem.Spec PyProof.Rows L2
/-- the sack of draws: three numbers, so many draws made -/
def SackO (n : Nat) (xs : List V) : Prop := ∃ a b c : Int, xs = [.int a, .int b, .int c] ∧ 0 ≤ a ∧ a < 10 ^ 400 ∧ 0 ≤ b ∧ b < 1000000000000000000000000 ∧ 0 ≤ c ∧ c ≤ n
theorem sq_upd {K : PySem.W.Frag} {H : Hp} {a p : Addr} {xs : List V} {o : HO} (h : SqL K H a xs) (n : a ≠ p) : SqL K (upd H p o) a xs := by
  rcases h with (h | ⟨u, h⟩) | h
  · exact .inl (.inl (by rw [upd_ne n]; exact h))
  · exact .inl (.inr ⟨u, by rw [upd_ne n]; exact h⟩)
  · exact .inr h
end Sf

namespace Sf
open PySem PySem.Spec PyProof.Rows L2
/-- all but the thing at p stays -/
def Keep (p : Addr) (H H' : Hp) : Prop := ∀ b o, H b = some o → b ≠ p → H' b = some o
theorem Keep.refl (p : Addr) (H : Hp) : Keep p H H := fun _ _ h _ => h
theorem Keep.trans {p : Addr} {H H1 H2 : Hp} (a : Keep p H H1) (b : Keep p H1 H2) : Keep p H H2 := fun c o h n => b c o (a c o h n) n
theorem Keep.same {p : Addr} {H H' : Hp} (s : Same H H') : Keep p H H' := fun c o h _ => s c o h
theorem Keep.upd {p : Addr} {H : Hp} {o : HO} : Keep p H (upd H p o) := fun c u h n => by rw [upd_ne n]; exact h
theorem Keep.new {p q : Addr} {H : Hp} {o : HO} (h : H q = none) : Keep p H (L2.upd H q o) := Keep.same (same_upd h)
/-- the sack stands at p, n draws made at most -/
def Sk (p : Addr) (n : Nat) (H : Hp) : Prop := ∃ xs, H p = some (.lst xs) ∧ SackO n xs
theorem SackO.mono {n m : Nat} {xs : List V} (h : SackO n xs) (l : n ≤ m) : SackO m xs := by
  obtain ⟨a, b, c, e, h1, h2, h3, h4, h5, h6⟩ := h
  exact ⟨a, b, c, e, h1, h2, h3, h4, h5, by omega⟩
theorem Sk.mono {p : Addr} {n m : Nat} {H : Hp} (h : Sk p n H) (l : n ≤ m) : Sk p m H := let ⟨xs, a, b⟩ := h; ⟨xs, a, b.mono l⟩
theorem Sk.same {p : Addr} {n : Nat} {H H' : Hp} (h : Sk p n H) (s : Same H H') : Sk p n H' := let ⟨xs, a, b⟩ := h; ⟨xs, s _ _ a, b⟩
theorem Sk.ne {p q : Addr} {n : Nat} {H : Hp} (h : Sk p n H) (hq : H q = none) : p ≠ q := let ⟨_, a, _⟩ := h; ne_of_none a hq
theorem Keep.free {p q : Addr} {n : Nat} {H H' : Hp} (k : Keep p H H') (s : Sk p n H') (h : H' q = none) : H q = none := by
  cases e : H q with
  | none => rfl
  | some o =>
    have n : q ≠ p := fun z => by
      obtain ⟨_, a, _⟩ := s
      rw [z, a] at h
      cases h
    rw [k q o e n] at h
    cases h
end Sf

namespace Sf
/-! the state of trial division: what was found, what is left -/
structure Trial (N : Int) (l : List (Int × Nat)) (r d : Int) : Prop where
  prod : prodF l * r = N
  pos : 1 ≤ r
  le : r ≤ N
  srt : Sorted l
  prm : Primes l
  low : ∀ q ∈ l, q.1 < d
  nod : NoDiv r d
theorem trial_start {N : Int} (h : 1 ≤ N) : Trial N [] N 2 := ⟨by show 1 * N = N; omega, h, Int.le_refl _, List.Pairwise.nil, (fun _ h => by cases h), (fun _ h => by cases h), nodiv2 N⟩
theorem sorted_snoc {l : List (Int × Nat)} {p : Int} {e : Nat} (h : Sorted l) (hl : ∀ q ∈ l, q.1 < p) : Sorted (l ++ [(p, e)]) := by
  unfold Sorted at *
  rw [List.pairwise_append]
  refine ⟨h, List.pairwise_singleton _ _, fun a ha b hb => ?_⟩
  rw [List.mem_singleton] at hb
  rw [hb]
  exact hl a ha
theorem primes_snoc {l : List (Int × Nat)} {p : Int} {e : Nat} (h : Primes l) (hp : PrP p) (he : 1 ≤ e) : Primes (l ++ [(p, e)]) := fun q hq => by
  rcases List.mem_append.mp hq with z | z
  · exact h q z
  · rw [List.mem_singleton] at z
    rw [z]
    exact ⟨hp, he⟩
theorem prodF_one (p : Int) (e : Nat) : prodF [(p, e)] = p ^ e := by
  show p ^ e * 1 = p ^ e
  rw [Int.mul_one]
theorem next_gt {d : Int} (h : 2 ≤ d) : d < (if d = 2 then 3 else d + 2) := by split <;> omega
theorem trial_pass {N r d : Int} {l : List (Int × Nat)} (h : Trial N l r d) (hd : r % d ≠ 0) : Trial N l r (if d = 2 then 3 else d + 2) :=
  ⟨h.prod, h.pos, h.le, h.srt, h.prm, fun q hq => Int.lt_trans (h.low q hq) (next_gt h.nod.1), nodiv_next h.nod hd⟩
theorem trial_take {N r d u : Int} {m : Nat} {l : List (Int × Nat)} (h : Trial N l r d) (hd : r % d = 0) (e : r = d ^ m * u) (hu : u % d ≠ 0) : Trial N (l ++ [(d, m)]) u (if d = 2 then 3 else d + 2) ∧ 1 ≤ m ∧ u ≤ r := by
  have hd2 := h.nod.1
  have hr := h.pos
  have hm : 1 ≤ m := by
    rcases Nat.eq_zero_or_pos m with z | z
    · subst z
      rw [Int.pow_zero, Int.one_mul] at e
      rw [e] at hd
      exact absurd hd hu
    · exact z
  have hdm : 0 < d ^ m := pow_pos_int (by omega) m
  have hu0 : 1 ≤ u := by
    rcases Int.lt_or_le 0 u with z | z
    · omega
    · have := Int.mul_nonpos_of_nonneg_of_nonpos (Int.le_of_lt hdm) z
      omega
  have hur : u ≤ r := by
    have : 1 * u ≤ d ^ m * u := Int.mul_le_mul_of_nonneg_right (by omega) (by omega)
    omega
  have hdu : r % u = 0 := Int.emod_eq_zero_of_dvd ⟨d ^ m, by rw [e]; exact Int.mul_comm _ _⟩
  refine ⟨⟨?_, hu0, Int.le_trans hur h.le, sorted_snoc h.srt h.low, primes_snoc h.prm (nodiv_prime h.nod hd) hm, fun q hq => ?_, nodiv_next (nodiv_of h.nod hdu) hu⟩, hm, hur⟩
  · rw [prodF_append, prodF_one, Int.mul_assoc, ← e]
    exact h.prod
  · have hn := next_gt hd2
    rcases List.mem_append.mp hq with z | z
    · exact Int.lt_trans (h.low q z) hn
    · rw [List.mem_singleton] at z
      rw [z]
      exact hn
theorem trial_end1 {N d : Int} {l : List (Int × Nat)} (h : Trial N l 1 d) : FactOf N l := ⟨by have := h.prod; rw [Int.mul_one] at this; exact this, h.srt, h.prm⟩
theorem trial_end {N r d : Int} {l : List (Int × Nat)} (h : Trial N l r d) (hr : 1 < r) (hd : r < d * d) : FactOf N (l ++ [(r, 1)]) ∧ ∀ q ∈ l, q.1 < r := by
  have h2 := nodiv_lt h.nod (by omega)
  have hl : ∀ q ∈ l, q.1 < r := fun q hq => Int.lt_of_lt_of_le (h.low q hq) h2
  have hp : PrP r := prp_of_trial (by omega) h.nod.1 h.nod.2.2 hd
  refine ⟨⟨?_, sorted_snoc h.srt hl, primes_snoc h.prm hp (by omega)⟩, hl⟩
  rw [prodF_append, prodF_one, Int.pow_succ, Int.pow_zero, Int.one_mul]
  exact h.prod
theorem prodF_pos {l : List (Int × Nat)} (h : Primes l) : 1 ≤ prodF l := by
  have h1 := prodF_len h
  have h2 : (0 : Int) < 2 ^ l.length := pow_pos_int (by omega) _
  omega
theorem trial_len {N r d : Int} {l : List (Int × Nat)} (h : Trial N l r d) (hN : N ≤ 1000000000) : l.length < 30 := by
  refine len_of_prod h.prm ?_
  have h1 := prodF_pos h.prm
  have h2 := h.prod
  have h3 := h.pos
  have h4 : prodF l * 1 ≤ prodF l * r := Int.mul_le_mul_of_nonneg_left h3 (by omega)
  omega
theorem fact_len {N : Int} {l : List (Int × Nat)} (h : FactOf N l) (hN : N ≤ 1000000000) : l.length < 30 := len_of_prod h.2.2 (by rw [h.1]; exact hN)
/-- the product of the primes with an odd power -/
def oddF : List (Int × Nat) → Int
  | [] => 1
  | q :: l => (if q.2 % 2 = 1 then q.1 else 1) * oddF l
theorem oddF_append : ∀ l m : List (Int × Nat), oddF (l ++ m) = oddF l * oddF m
  | [], m => by
    show oddF m = 1 * oddF m
    rw [Int.one_mul]
  | q :: l, m => by
    show (if q.2 % 2 = 1 then q.1 else 1) * oddF (l ++ m) = (if q.2 % 2 = 1 then q.1 else 1) * oddF l * oddF m
    rw [oddF_append l m, Int.mul_assoc]
theorem pow_split (p : Int) (e : Nat) : p ^ e = (if e % 2 = 1 then p else 1) * (p ^ (e / 2) * p ^ (e / 2)) := by
  have e1 : e = e % 2 + (e / 2 + e / 2) := by omega
  conv => lhs; rw [e1]
  rw [Int.pow_add, Int.pow_add]
  congr 1
  split
  · rename_i h
    rw [h, Int.pow_succ, Int.pow_zero, Int.one_mul]
  · rename_i h
    rw [show e % 2 = 0 by omega, Int.pow_zero]
theorem oddF_bound {l : List (Int × Nat)} : Primes l → 1 ≤ oddF l ∧ oddF l ≤ prodF l := by
  induction l with
  | nil => intro _; exact ⟨Int.le_refl _, Int.le_refl _⟩
  | cons q l ih =>
    intro h
    have ih := ih fun r hr => h r (List.mem_cons_of_mem _ hr)
    obtain ⟨hp, he⟩ := h q List.mem_cons_self
    have hp2 := hp.1
    have h1 : 1 ≤ (if q.2 % 2 = 1 then q.1 else 1) := by split <;> omega
    have h2 : (if q.2 % 2 = 1 then q.1 else 1) ≤ q.1 ^ q.2 := by
      rw [pow_split q.1 q.2]
      have h3 : 0 < q.1 ^ (q.2 / 2) := pow_pos_int (by omega) _
      have h4 : 0 < q.1 ^ (q.2 / 2) * q.1 ^ (q.2 / 2) := Int.mul_pos h3 h3
      have h5 : (if q.2 % 2 = 1 then q.1 else 1) * 1 ≤ (if q.2 % 2 = 1 then q.1 else 1) * (q.1 ^ (q.2 / 2) * q.1 ^ (q.2 / 2)) := Int.mul_le_mul_of_nonneg_left h4 (by omega)
      omega
    show 1 ≤ (if q.2 % 2 = 1 then q.1 else 1) * oddF l ∧ (if q.2 % 2 = 1 then q.1 else 1) * oddF l ≤ q.1 ^ q.2 * prodF l
    refine ⟨?_, Int.mul_le_mul h2 ih.2 (by omega) (by omega)⟩
    have := Int.mul_pos (show 0 < (if q.2 % 2 = 1 then q.1 else 1) by omega) (show 0 < oddF l by omega)
    omega
theorem prodF_take {l : List (Int × Nat)} (h : Primes l) (i : Nat) : prodF (l.take i) ≤ prodF l := by
  have e : prodF l = prodF (l.take i) * prodF (l.drop i) := by rw [← prodF_append, List.take_append_drop]
  have h1 : 1 ≤ prodF (l.take i) := prodF_pos fun q hq => h q (List.mem_of_mem_take hq)
  have h2 : 1 ≤ prodF (l.drop i) := prodF_pos fun q hq => h q (List.mem_of_mem_drop hq)
  have h3 : prodF (l.take i) * 1 ≤ prodF (l.take i) * prodF (l.drop i) := Int.mul_le_mul_of_nonneg_left h2 (by omega)
  omega
theorem self_le_pow {p : Int} (h : 2 ≤ p) : ∀ {e : Nat}, 1 ≤ e → p ≤ p ^ e
  | 0, h0 => by omega
  | e + 1, _ => by
    rw [Int.pow_succ]
    have h1 : 0 < p ^ e := pow_pos_int (by omega) e
    have h2 : 1 * p ≤ p ^ e * p := Int.mul_le_mul_of_nonneg_right (by omega) (by omega)
    omega
theorem prodF_mem : ∀ {l : List (Int × Nat)}, Primes l → ∀ q ∈ l, q.1 ≤ prodF l
  | [], _, q, hq => by cases hq
  | r :: l, h, q, hq => by
    have h1 : 1 ≤ prodF l := prodF_pos fun q hq => h q (List.mem_cons_of_mem _ hq)
    obtain ⟨hp, he⟩ := h r List.mem_cons_self
    have hp2 := hp.1
    have h2 := self_le_pow hp2 he
    show q.1 ≤ r.1 ^ r.2 * prodF l
    rcases List.mem_cons.mp hq with z | z
    · subst z
      have h3 : q.1 ^ q.2 * 1 ≤ q.1 ^ q.2 * prodF l := Int.mul_le_mul_of_nonneg_left h1 (by omega)
      omega
    · have h3 := prodF_mem (l := l) (fun q hq => h q (List.mem_cons_of_mem _ hq)) q z
      have h4 : 1 * prodF l ≤ r.1 ^ r.2 * prodF l := Int.mul_le_mul_of_nonneg_right (by omega) (by omega)
      omega
theorem nat_lt_pow {p : Int} (h : 2 ≤ p) : ∀ e : Nat, (e : Int) < p ^ e
  | 0 => by rw [Int.pow_zero]; decide
  | e + 1 => by
    have ih := nat_lt_pow h e
    rw [Int.pow_succ]
    have h1 : 0 < p ^ e := pow_pos_int (by omega) e
    have h2 : p ^ e * 2 ≤ p ^ e * p := Int.mul_le_mul_of_nonneg_left h (by omega)
    omega
theorem prodF_mem2 : ∀ {l : List (Int × Nat)}, Primes l → ∀ q ∈ l, (q.2 : Int) < prodF l
  | [], _, q, hq => by cases hq
  | r :: l, h, q, hq => by
    have h1 : 1 ≤ prodF l := prodF_pos fun q hq => h q (List.mem_cons_of_mem _ hq)
    obtain ⟨hp, he⟩ := h r List.mem_cons_self
    have hp2 := hp.1
    have h2 := self_le_pow hp2 he
    show (q.2 : Int) < r.1 ^ r.2 * prodF l
    rcases List.mem_cons.mp hq with z | z
    · subst z
      have h3 : q.1 ^ q.2 * 1 ≤ q.1 ^ q.2 * prodF l := Int.mul_le_mul_of_nonneg_left h1 (by omega)
      have h4 := nat_lt_pow hp2 q.2
      omega
    · have h3 := prodF_mem2 (l := l) (fun q hq => h q (List.mem_cons_of_mem _ hq)) q z
      have h4 : 1 * prodF l ≤ r.1 ^ r.2 * prodF l := Int.mul_le_mul_of_nonneg_right (by omega) (by omega)
      omega
end Sf

namespace Sf
open PySem PySem.Spec PyProof.Rows L2
/-- the pairs of a dict of factors -/
def kvsF (l : List (Int × Nat)) : List (Key × V) := l.map fun q => ((Sum.inl q.1 : Key), V.int q.2)
theorem kvsF_none : ∀ {l : List (Int × Nat)} {p : Int}, (∀ q ∈ l, q.1 < p) → valV (kvsF l) (Sum.inl p : Key) = none
  | [], _, _ => rfl
  | q :: l, p, h => by
    show valV (((Sum.inl q.1 : Key), V.int q.2) :: kvsF l) (Sum.inl p : Key) = none
    rw [valV_neg]
    · exact kvsF_none fun r hr => h r (List.mem_cons_of_mem _ hr)
    · intro e
      have e1 : q.1 = p := Sum.inl.inj e
      have := h q List.mem_cons_self
      omega
theorem kvsF_snoc (l : List (Int × Nat)) (p : Int) (e : Nat) : kvsF (l ++ [(p, e)]) = kvsF l ++ [((Sum.inl p : Key), V.int e)] := by
  unfold kvsF
  rw [List.map_append]
  rfl
theorem kvsF_len (l : List (Int × Nat)) : (kvsF l).length = l.length := List.length_map ..
section
variable {P : Program} {w : World} {K : PySem.W.Frag} {mg : Str → Option Value} {base : Heap} {f : Addr} {fd : FuncData}
def absI (n : Int) : Int := if n < 0 then -n else n
def spFactors : Sp := fun vs H Q _ => ∃ n : Int, vs = [.int n] ∧ n ≠ 0 ∧ -1000000000 ≤ n ∧ n ≤ 1000000000 ∧
  ∀ (l : List (Int × Nat)) (d : Addr) (H' : Hp), FactOf (absI n) l → Same H H' → H d = none → H' d = some (.dK (kvsF l)) → Q (.ref d) H'
theorem ok_prime_powers (F : FnD K "prime_powers" "prime_powers" s_P_prime_powers f fd) (T : Glob mg)
    (C_P_stripped : Cal P w K mg base 1 "stripped" ["number", "prime"] spStripped) (C_P_next_divisor : Cal P w K mg base 1 "next_divisor" ["divisor"] spNext) :
    FnOk P w K mg base CX0 2 f fd ["number"] spFactors := by
  refine F.ok sc_P_prime_powers (fun vs H Q E h => ?_) (fun cdv A outer s H vs Q E hr h => ?_)
  · obtain ⟨n, rfl, _⟩ := h; rfl
  · obtain ⟨n, rfl, hn, h1, h2, q⟩ := h
    have hu := hu_of hr
    have hN1 : 1 ≤ absI n := by unfold absI; split <;> omega
    have hN2 : absI n ≤ 1000000000 := by unfold absI; split <;> omega
    refine ⟨_, PSs.nox (pss_cons (ps_set (i := 1) sc_P_prime_powers.nd rfl (Or.inl rfl) (pe_callB call_abs (by rfl) T.m_abs (by decide +kernel) (pa_cons (pv 0) pa_nil)))
      (pss_cons (ps_set (i := 2) sc_P_prime_powers.nd rfl (Or.inl rfl) pe_dnewK)
      (pss_cons (ps_set (i := 3) sc_P_prime_powers.nd rfl (Or.inl rfl) pe_int)
      (pss_cons (ps_while PassesOwn.never (pt_cmp (pc_le (pe_op op_mulW (pv 3) (pv 3)) (pv 1))) (pss_cons (ps_if (pt_cmp (pc_eqI (pe_op op_mod (pv 1) (pv 3)) pe_int)) (pss_one (ps_asg (pe_cal C_P_stripped (hr.mono (by decide)) (pa_cons (pv 1) (pa_cons (pv 3) pa_nil))) (pg_tup (by rfl) (pgs_cons (pg_sub (pv 2) (pv 3) (set_dict hu)) (pgs_cons (pg_name (i := 1) sc_P_prime_powers.nd rfl (Or.inl rfl)) pgs_nil))))) pss_nil)
      (pss_one (ps_set (i := 3) sc_P_prime_powers.nd rfl (Or.inl rfl) (pe_cal C_P_next_divisor (hr.mono (by decide)) (pa_cons (pv 3) pa_nil))))))
      (pss_cons (ps_if (pt_cmp (pc_gt (pv 1) pe_int)) (pss_one (ps_dput hu (pv 2) (pv 1) pe_int rfl)) pss_nil)
      (pss_one (ps_ret (pv 2)))))))), ?_⟩
    refine ⟨_, rfl, n, rfl, fun d hd => ?_⟩
    refine ⟨fun c σ H' => ∃ (l : List (Int × Nat)) (r t : Int), σ = [some (.int n), some (.int r), some (.ref d), some (.int t)] ∧ Same H H' ∧ H' d = some (.dK (kvsF l)) ∧ Trial (absI n) l r t ∧ t ≤ absI n + 2 ∧ c = (r - t + 3).toNat,
      ⟨_, [], absI n, 2, rfl, same_upd hd, upd_same, trial_start hN1, by omega, rfl⟩, ?_⟩
    rintro c σ H' ⟨l, r, t, rfl, hs, hdd, ht, htN, rfl⟩
    have t2 := ht.nod.1
    have rN := ht.le
    have r1 := ht.pos
    have hlen := trial_len ht hN2
    have tb : t.natAbs < 2 ^ 3000 := lt3000s (by omega) (by omega)
    have htt : t * 2 ≤ t * t := Int.mul_le_mul_of_nonneg_left t2 (by omega)
    refine ⟨_, rfl, _, rfl, _, _, rfl, rfl, CMulW.of tb tb, _, rfl, _, _, rfl, rfl, _, rfl, ifd (fun h => ⟨_, fun _ _ z => z, ?_⟩) (fun h => ?_)⟩
    · have tr : t ≤ r := nodiv_lt ht.nod (by omega)
      refine ⟨_, rfl, _, rfl, _, _, rfl, rfl, (by omega), _, _, rfl, rfl, _, rfl, ifd (fun h2 => ?_) (fun h2 => ?_)⟩
      · refine ⟨_, rfl, _, rfl, r, t, rfl, by omega, t2, tb, fun m u a hst ha => ?_⟩
        obtain ⟨k1, k2, k3⟩ := trial_take ht h2 hst.1 hst.2
        have nad : d ≠ a := ne_of_none hdd ha
        refine ⟨a, _, rfl, .inl (.inl upd_same), rfl, _, _, rfl, _, rfl, _, rfl, d, _, rfl, DPut.k (k := Sum.inl t) (by rw [upd_ne nad]; exact hdd) (by rw [kvsF_len]; exact small1000 (by omega)), _, _, rfl, rfl, ?_⟩
        refine ⟨_, rfl, t, rfl, ?_⟩
        refine ⟨_, ?_, l ++ [(t, m)], u, _, rfl, ?_, ?_, k1, ?_, rfl⟩
        · split <;> omega
        · intro b o e
          have h3 := hs b o e
          have nb : b ≠ d := ne_of_none e hd
          rw [upd_ne nb, upd_ne (ne_of_none h3 ha)]
          exact h3
        · rw [upd_same, putK_new _ (kvsF_none ht.low), kvsF_snoc]
        · split <;> omega
      · refine ⟨_, rfl, t, rfl, ?_⟩
        refine ⟨_, ?_, l, r, _, rfl, hs, hdd, trial_pass ht h2, ?_, rfl⟩
        · split <;> omega
        · split <;> omega
    · refine ⟨_, rfl, _, _, rfl, rfl, _, rfl, ifd (fun h3 => ?_) (fun h3 => ?_)⟩
      · obtain ⟨k1, k2⟩ := trial_end ht (by omega) (by omega)
        refine ⟨_, rfl, _, rfl, d, _, rfl, DPut.k (k := Sum.inl r) hdd (by rw [kvsF_len]; exact small1000 (by omega)), ?_⟩
        refine ⟨_, rfl, q _ d _ k1 (fun b o e => ?_) hd ?_⟩
        · rw [upd_ne (ne_of_none e hd)]
          exact hs b o e
        · rw [upd_same, putK_new _ (kvsF_none k2), kvsF_snoc]
          rfl
      · have hr : r = 1 := by omega
        subst hr
        exact ⟨_, rfl, q l d H' (trial_end1 ht) hs hd hdd⟩
theorem ok_factors (F : FnD K "factors" "factors" s_P_factors f fd) (C_P_check_number : Cal P w K mg base 2 "check_number" ["value"] spCheckNumber)
    (C_P_prime_powers : Cal P w K mg base 2 "prime_powers" ["number"] spFactors) :
    FnOk P w K mg base CX0 3 f fd ["number"] spFactors := by
  refine F.ok sc_P_factors (fun vs H Q E h => ?_) (fun cdv A outer s H vs Q E hr h => ?_)
  · obtain ⟨n, rfl, _⟩ := h; rfl
  · obtain ⟨n, rfl, hn, h1, h2, q⟩ := h
    refine ⟨_, PSs.nox (pss_cons (ps_expr (pe_cal C_P_check_number (hr.mono (by decide)) (pa_cons (pv 0) pa_nil)))
      (pss_one (ps_ret (pe_cal C_P_prime_powers (hr.mono (by decide)) (pa_cons (pv 0) pa_nil))))), ?_⟩
    exact ⟨_, rfl, n, rfl, hn, h1, h2, _, rfl, n, rfl, hn, h1, h2, fun l d H1 hf hs hd hdd => q l d H1 hf hs hd hdd⟩
end
end Sf

namespace Sf
/-! a prime divides a product only if it divides a factor -/
theorem PrP.pos {p : Int} (h : PrP p) : 0 < p := by have := h.1; omega
theorem gcd_of_prime {p : Int} (h : PrP p) {a : Int} (ha : ¬ p ∣ a) : Nat.Coprime p.natAbs a.natAbs := by
  have hp := h.1
  have h1 : Nat.gcd p.natAbs a.natAbs ∣ p.natAbs := Nat.gcd_dvd_left ..
  have h2 : Nat.gcd p.natAbs a.natAbs ∣ a.natAbs := Nat.gcd_dvd_right ..
  have h0 : 0 < Nat.gcd p.natAbs a.natAbs := Nat.gcd_pos_of_pos_left _ (by omega)
  have hle : Nat.gcd p.natAbs a.natAbs ≤ p.natAbs := Nat.le_of_dvd (by omega) h1
  unfold Nat.Coprime
  rcases Nat.lt_or_ge (Nat.gcd p.natAbs a.natAbs) 2 with z | z
  · omega
  · rcases Nat.lt_or_ge (Nat.gcd p.natAbs a.natAbs) p.natAbs with z2 | z2
    · exfalso
      refine h.2 (Nat.gcd p.natAbs a.natAbs : Int) (by omega) (by omega) ?_
      refine Int.emod_eq_zero_of_dvd ?_
      have : ((Nat.gcd p.natAbs a.natAbs : Nat) : Int) ∣ ((p.natAbs : Nat) : Int) := Int.ofNat_dvd.mpr h1
      rwa [Int.natAbs_of_nonneg (by omega : 0 ≤ p)] at this
    · exfalso
      have e : Nat.gcd p.natAbs a.natAbs = p.natAbs := by omega
      rw [e] at h2
      exact ha (Int.natAbs_dvd_natAbs.mp h2)
theorem prime_mul {p : Int} (h : PrP p) {a b : Int} (hd : p ∣ a * b) : p ∣ a ∨ p ∣ b := by
  by_cases ha : p ∣ a
  · exact .inl ha
  · refine .inr ?_
    have h1 : p.natAbs ∣ a.natAbs * b.natAbs := by
      rw [← Int.natAbs_mul]
      exact Int.natAbs_dvd_natAbs.mpr hd
    exact Int.natAbs_dvd_natAbs.mp (Nat.Coprime.dvd_of_dvd_mul_left (gcd_of_prime h ha) h1)
theorem prime_one {p : Int} (h : PrP p) : ¬ p ∣ 1 := fun z => by
  have h1 := Int.le_of_dvd (by omega) z
  have := h.1
  omega
theorem prime_pow {p a : Int} (h : PrP p) : ∀ {e : Nat}, p ∣ a ^ e → p ∣ a
  | 0, z => absurd (by rwa [Int.pow_zero] at z) (prime_one h)
  | e + 1, z => by
    rw [Int.pow_succ] at z
    rcases prime_mul h z with y | y
    · exact prime_pow h y
    · exact y
theorem prime_dvd_prime {p q : Int} (hp : PrP p) (hq : PrP q) (h : p ∣ q) : p = q := by
  have h1 := hp.1
  have h2 := hq.1
  have h3 := Int.le_of_dvd (by omega) h
  rcases Int.lt_or_le p q with z | z
  · exact absurd (Int.emod_eq_zero_of_dvd h) (hq.2 p h1 z)
  · omega
theorem prime_prodF {p : Int} (h : PrP p) : ∀ {l : List (Int × Nat)}, Primes l → p ∣ prodF l → ∃ e, (p, e) ∈ l
  | [], _, z => absurd z (prime_one h)
  | q :: l, hl, z => by
    rcases prime_mul h (show p ∣ q.1 ^ q.2 * prodF l from z) with y | y
    · have e := prime_dvd_prime h (hl q List.mem_cons_self).1 (prime_pow h y)
      exact ⟨q.2, by rw [e]; exact List.mem_cons_self⟩
    · obtain ⟨e, he⟩ := prime_prodF h (fun r hr => hl r (List.mem_cons_of_mem _ hr)) y
      exact ⟨e, List.mem_cons_of_mem _ he⟩
theorem pow_cancel {p : Int} (h : PrP p) {R S : Int} (hR : ¬ p ∣ R) (hS : ¬ p ∣ S) : ∀ {a b : Nat}, p ^ a * R = p ^ b * S → a = b ∧ R = S
  | 0, 0, e => ⟨rfl, by rwa [Int.pow_zero, Int.one_mul, Int.one_mul] at e⟩
  | 0, b + 1, e => by
    rw [Int.pow_zero, Int.one_mul, Int.pow_succ, Int.mul_assoc] at e
    refine absurd ?_ hR
    rw [e, Int.mul_comm, Int.mul_assoc]
    exact Int.dvd_mul_right ..
  | a + 1, 0, e => by
    rw [Int.pow_zero, Int.one_mul, Int.pow_succ, Int.mul_assoc] at e
    refine absurd ?_ hS
    rw [← e, Int.mul_comm, Int.mul_assoc]
    exact Int.dvd_mul_right ..
  | a + 1, b + 1, e => by
    have h0 := h.pos
    rw [Int.pow_succ, Int.pow_succ, Int.mul_comm (p ^ a), Int.mul_comm (p ^ b), Int.mul_assoc, Int.mul_assoc] at e
    obtain ⟨h1, h2⟩ := pow_cancel h hR hS (Int.eq_of_mul_eq_mul_left (by omega) e)
    exact ⟨by omega, h2⟩
/-! one number, one factorization -/
def Distinct (l : List (Int × Nat)) : Prop := (l.map (·.1)).Nodup
theorem distinct_of_sorted {l : List (Int × Nat)} (h : Sorted l) : Distinct l := by
  unfold Distinct List.Nodup
  rw [List.pairwise_map]
  exact h.imp fun h e => by omega
theorem distinct_perm {l m : List (Int × Nat)} (h : l.Perm m) (d : Distinct l) : Distinct m := by
  unfold Distinct at *
  exact (h.map _).nodup_iff.mp d
theorem prodF_perm {l m : List (Int × Nat)} (h : l.Perm m) : prodF l = prodF m := by
  induction h with
  | nil => rfl
  | cons x _ ih => show x.1 ^ x.2 * _ = x.1 ^ x.2 * _; rw [ih]
  | swap x y l => show y.1 ^ y.2 * (x.1 ^ x.2 * _) = x.1 ^ x.2 * (y.1 ^ y.2 * _); exact Int.mul_left_comm ..
  | trans _ _ a b => exact a.trans b
theorem oddF_perm {l m : List (Int × Nat)} (h : l.Perm m) : oddF l = oddF m := by
  induction h with
  | nil => rfl
  | cons x _ ih => show (if x.2 % 2 = 1 then x.1 else 1) * _ = (if x.2 % 2 = 1 then x.1 else 1) * _; rw [ih]
  | swap x y l => exact Int.mul_left_comm ..
  | trans _ _ a b => exact a.trans b
theorem not_dvd_rest {p : Int} {e : Nat} {l : List (Int × Nat)} (hp : Primes ((p, e) :: l)) (hd : Distinct ((p, e) :: l)) : ¬ p ∣ prodF l := fun z => by
  obtain ⟨e', he⟩ := prime_prodF (hp (p, e) List.mem_cons_self).1 (fun r hr => hp r (List.mem_cons_of_mem _ hr)) z
  unfold Distinct at hd
  rw [List.map_cons, List.nodup_cons] at hd
  exact hd.1 (List.mem_map.mpr ⟨(p, e'), he, rfl⟩)
theorem fact_unique : ∀ {l m : List (Int × Nat)}, Primes l → Distinct l → Primes m → Distinct m → prodF l = prodF m → l.Perm m
  | [], m, _, _, hm, _, e => by
    cases m with
    | nil => exact List.Perm.nil
    | cons q m =>
      have h1 := prodF_len hm
      rw [← e] at h1
      have h2 : (0 : Int) < 2 ^ m.length := pow_pos_int (by omega) _
      rw [List.length_cons, Int.pow_succ] at h1
      have h3 : prodF [] = 1 := rfl
      omega
  | (p, a) :: l, m, hl, dl, hm, dm, e => by
    have hp := (hl (p, a) List.mem_cons_self).1
    have ha := (hl (p, a) List.mem_cons_self).2
    have hdv : p ∣ prodF m := by
      rw [← e]
      show p ∣ p ^ a * prodF l
      obtain ⟨k, rfl⟩ : ∃ k, a = k + 1 := ⟨a - 1, by have : 1 ≤ a := ha; omega⟩
      rw [Int.pow_succ, Int.mul_comm (p ^ k), Int.mul_assoc]
      exact Int.dvd_mul_right ..
    obtain ⟨b, hb⟩ := prime_prodF hp hm hdv
    have hperm := List.perm_cons_erase hb
    have hm2 : Primes ((p, b) :: m.erase (p, b)) := fun r hr => hm r (hperm.mem_iff.mpr hr)
    have dm2 : Distinct ((p, b) :: m.erase (p, b)) := distinct_perm hperm dm
    have e2 : p ^ a * prodF l = p ^ b * prodF (m.erase (p, b)) := e.trans (prodF_perm hperm)
    obtain ⟨h1, h2⟩ := pow_cancel hp (not_dvd_rest hl dl) (not_dvd_rest hm2 dm2) e2
    subst h1
    have ih := fact_unique (l := l) (m := m.erase (p, a)) (fun r hr => hl r (List.mem_cons_of_mem _ hr)) ((List.nodup_cons.mp dl).2) (fun r hr => hm2 r (List.mem_cons_of_mem _ hr)) ((List.nodup_cons.mp dm2).2) h2
    exact (ih.cons (p, a)).trans hperm.symm
/-! the square-free part -/
def oddL (l : List (Int × Nat)) : List (Int × Nat) := (l.filter fun q => q.2 % 2 == 1).map fun q => (q.1, 1)
theorem oddL_prod : ∀ l : List (Int × Nat), prodF (oddL l) = oddF l ∧ oddF (oddL l) = oddF l
  | [] => ⟨rfl, rfl⟩
  | q :: l => by
    obtain ⟨h1, h2⟩ := oddL_prod l
    unfold oddL at *
    by_cases h : q.2 % 2 = 1
    · rw [List.filter_cons_of_pos (by simp [h]), List.map_cons]
      show q.1 ^ 1 * _ = (if q.2 % 2 = 1 then q.1 else 1) * _ ∧ (if (1 : Nat) % 2 = 1 then q.1 else 1) * _ = (if q.2 % 2 = 1 then q.1 else 1) * _
      rw [if_pos h, h1, h2, Int.pow_succ, Int.pow_zero, Int.one_mul]
      exact ⟨rfl, rfl⟩
    · rw [List.filter_cons_of_neg (by simp [h])]
      show _ = (if q.2 % 2 = 1 then q.1 else 1) * _ ∧ _ = (if q.2 % 2 = 1 then q.1 else 1) * _
      rw [if_neg h, h1, h2, Int.one_mul]
      exact ⟨rfl, rfl⟩
theorem oddL_primes {l : List (Int × Nat)} (h : Primes l) : Primes (oddL l) := fun q hq => by
  obtain ⟨r, hr, e⟩ := List.mem_map.mp hq
  rw [← e]
  exact ⟨(h r (List.mem_filter.mp hr).1).1, Nat.le_refl _⟩
theorem oddL_distinct {l : List (Int × Nat)} (h : Distinct l) : Distinct (oddL l) := by
  unfold Distinct oddL
  rw [List.map_map]
  have : ((fun x : Int × Nat => x.1) ∘ fun q => (q.1, 1)) = fun q : Int × Nat => q.1 := rfl
  rw [this]
  exact h.sublist (List.filter_sublist.map _)
def rootF : List (Int × Nat) → Int
  | [] => 1
  | q :: l => q.1 ^ (q.2 / 2) * rootF l
theorem rootF_append : ∀ l m : List (Int × Nat), rootF (l ++ m) = rootF l * rootF m
  | [], m => by show rootF m = 1 * rootF m; rw [Int.one_mul]
  | q :: l, m => by
    show q.1 ^ (q.2 / 2) * rootF (l ++ m) = q.1 ^ (q.2 / 2) * rootF l * rootF m
    rw [rootF_append l m, Int.mul_assoc]
theorem odd_root : ∀ l : List (Int × Nat), oddF l * rootF l * rootF l = prodF l
  | [] => rfl
  | q :: l => by
    have ih := odd_root l
    show (if q.2 % 2 = 1 then q.1 else 1) * oddF l * (q.1 ^ (q.2 / 2) * rootF l) * (q.1 ^ (q.2 / 2) * rootF l) = q.1 ^ q.2 * prodF l
    rw [pow_split q.1 q.2, ← ih]
    generalize (if q.2 % 2 = 1 then q.1 else 1) = c
    generalize q.1 ^ (q.2 / 2) = g
    generalize oddF l = o
    generalize rootF l = r
    simp only [Int.mul_comm, Int.mul_left_comm, Int.mul_assoc]
theorem rootF_bound : ∀ {l : List (Int × Nat)}, Primes l → 1 ≤ rootF l ∧ rootF l ≤ prodF l
  | [], _ => ⟨Int.le_refl _, Int.le_refl _⟩
  | q :: l, h => by
    have ih := rootF_bound (l := l) fun r hr => h r (List.mem_cons_of_mem _ hr)
    have hp2 := (h q List.mem_cons_self).1.1
    have h1 : 0 < q.1 ^ (q.2 / 2) := pow_pos_int (by omega) _
    have h2 : q.1 ^ (q.2 / 2) ≤ q.1 ^ q.2 := by
      have e : q.2 = q.2 / 2 + (q.2 - q.2 / 2) := by omega
      have h3 : 0 < q.1 ^ (q.2 - q.2 / 2) := pow_pos_int (by omega) _
      have h4 : q.1 ^ (q.2 / 2) * 1 ≤ q.1 ^ (q.2 / 2) * q.1 ^ (q.2 - q.2 / 2) := Int.mul_le_mul_of_nonneg_left (by omega) (by omega)
      rw [← Int.pow_add, ← e] at h4
      omega
    show 1 ≤ q.1 ^ (q.2 / 2) * rootF l ∧ q.1 ^ (q.2 / 2) * rootF l ≤ q.1 ^ q.2 * prodF l
    refine ⟨?_, Int.mul_le_mul h2 ih.2 (by omega) (by omega)⟩
    have := Int.mul_pos h1 (show 0 < rootF l by omega)
    omega
theorem primes_take {l : List (Int × Nat)} (h : Primes l) (i : Nat) : Primes (l.take i) := fun r hr => h r (List.mem_of_mem_take hr)
theorem rootF_take_pos {l : List (Int × Nat)} (h : Primes l) (i j : Nat) {q : Int} (hq : 2 ≤ q := by omega) : 1 ≤ rootF (l.take i) * q ^ j := by
  have h1 := (rootF_bound (primes_take h i)).1
  have h2 : 0 < q ^ j := pow_pos_int (by omega) _
  have := Int.mul_pos (show 0 < rootF (l.take i) by omega) h2
  omega
theorem pow_le_pow {p : Int} (h : 1 ≤ p) {a b : Nat} (hab : a ≤ b) : p ^ a ≤ p ^ b := by
  have e : b = a + (b - a) := by omega
  have h1 : 0 < p ^ a := pow_pos_int (by omega) _
  have h2 : 0 < p ^ (b - a) := pow_pos_int (by omega) _
  have h4 : p ^ a * 1 ≤ p ^ a * p ^ (b - a) := Int.mul_le_mul_of_nonneg_left (by omega) (by omega)
  rw [← Int.pow_add, ← e] at h4
  omega
theorem rootF_take_le {l : List (Int × Nat)} (h : Primes l) {i j : Nat} (hi : i < l.length) (hj : j < l[i].2 / 2) : rootF (l.take i) * l[i].1 ^ j ≤ prodF l := by
  have hp2 := (h _ (List.getElem_mem hi)).1.1
  have h1 := rootF_bound (primes_take h (i + 1))
  have e : rootF (l.take (i + 1)) = rootF (l.take i) * l[i].1 ^ (l[i].2 / 2) := by
    rw [List.take_add_one, List.getElem?_eq_getElem hi, rootF_append]
    show _ = _
    congr 1
    show l[i].1 ^ (l[i].2 / 2) * 1 = _
    rw [Int.mul_one]
  have h2 := (rootF_bound (primes_take h i)).1
  have h3 : l[i].1 ^ j ≤ l[i].1 ^ (l[i].2 / 2) := pow_le_pow (by omega) (by omega)
  have h4 : rootF (l.take i) * l[i].1 ^ j ≤ rootF (l.take i) * l[i].1 ^ (l[i].2 / 2) := Int.mul_le_mul_of_nonneg_left h3 (by omega)
  have h5 := prodF_take h (i + 1)
  rw [← e] at h4
  omega
theorem sq_not_dvd {l : List (Int × Nat)} (h : Primes l) (d : Distinct l) {q : Int × Nat} (hq : q ∈ l) : ¬ (q.1 * q.1) ∣ oddF l := fun z => by
  have hp := (h q hq).1
  have hperm := List.perm_cons_erase hq
  have h2 : Primes (q :: l.erase q) := fun r hr => h r (hperm.mem_iff.mpr hr)
  have d2 : Distinct (q :: l.erase q) := distinct_perm hperm d
  rw [oddF_perm hperm] at z
  have h3 : q.1 ∣ oddF (l.erase q) := by
    obtain ⟨k, hk⟩ := z
    have hk2 : (if q.2 % 2 = 1 then q.1 else 1) * oddF (l.erase q) = q.1 * q.1 * k := hk
    by_cases c : q.2 % 2 = 1
    · rw [if_pos c, Int.mul_assoc] at hk2
      exact ⟨k, Int.eq_of_mul_eq_mul_left (by have := hp.pos; omega) hk2⟩
    · rw [if_neg c, Int.one_mul, Int.mul_assoc] at hk2
      exact ⟨q.1 * k, hk2⟩
  have h4 : q.1 ∣ prodF (l.erase q) := by
    rw [← odd_root]
    exact Int.dvd_mul_of_dvd_left (Int.dvd_mul_of_dvd_left h3)
  obtain ⟨p, e⟩ := q
  exact not_dvd_rest h2 d2 h4
end Sf

namespace Sf
open PySem PySem.Spec PyProof.Rows L2
/-- the rests of squares, and the sign by them -/
def sqs (p : Int) : List Int := (List.range (p - 1).toNat).map fun i => ((1 : Int) + (i : Nat)) * (1 + (i : Nat)) % p
theorem sqs_at {p : Int} {i : Nat} (h : i < (p - 1).toNat) : (sqs p)[i]? = some (((1 : Int) + (i : Nat)) * (1 + (i : Nat)) % p) := by
  unfold sqs
  rw [List.getElem?_map, List.getElem?_range h]
  rfl
def lawSign (n p : Int) : Int := if n % p = 0 then 0 else if p = 2 then (if n % 8 = 1 ∨ n % 8 = 7 then 1 else -1) else if n % p ∈ sqs p then 1 else -1
end Sf

namespace Sf
/-! residues by tables -/
def maskOf (p : Nat) : List Nat → Nat
  | [] => 0
  | x :: l => maskOf p l ||| 2 ^ (x * x % p)
theorem maskOf_bit (p r : Nat) : ∀ l : List Nat, (maskOf p l).testBit r = l.any fun x => x * x % p == r
  | [] => Nat.zero_testBit r
  | x :: l => by
    unfold maskOf
    rw [Nat.testBit_or, maskOf_bit p r l, Nat.testBit_two_pow, List.any_cons, Bool.or_comm]
    rfl
def euler (p : Nat) : Bool :=
  let m := maskOf p (List.range' 1 (p - 1))
  (List.range' 1 (p - 1)).all fun r => (r ^ ((p - 1) / 2) % p == 1) == m.testBit r && (r ^ ((p - 1) / 2) % p == 1 || r ^ ((p - 1) / 2) % p == p - 1)
theorem sqs_nat {p r : Nat} : ((r : Int) ∈ sqs p) ↔ (List.range' 1 (p - 1)).any (fun x => x * x % p == r) = true := by
  unfold sqs
  rw [List.mem_map, List.any_eq_true]
  constructor
  · rintro ⟨i, hi, e⟩
    rw [List.mem_range] at hi
    refine ⟨1 + i, by rw [List.mem_range'_1]; omega, ?_⟩
    rw [beq_iff_eq]
    have e2 : (((1 + i) * (1 + i) % p : Nat) : Int) = (r : Int) := by
      rw [← e]
      push_cast
      rfl
    exact Int.ofNat.inj e2
  · rintro ⟨x, hx, e⟩
    rw [List.mem_range'_1] at hx
    refine ⟨x - 1, by rw [List.mem_range]; omega, ?_⟩
    rw [beq_iff_eq] at e
    have e1 : (1 : Int) + ((x - 1 : Nat) : Int) = (x : Int) := by omega
    rw [e1, ← e]
    push_cast
    rfl
theorem emod_cast {n : Int} {p : Nat} (hp : 0 < p) : ∃ r : Nat, r < p ∧ n % p = (r : Int) := by
  have h1 := Int.emod_nonneg n (by omega : (p : Int) ≠ 0)
  have h2 := Int.emod_lt_of_pos n (by omega : (0 : Int) < p)
  exact ⟨(n % p).toNat, by omega, by omega⟩
theorem half_cast (p : Nat) (hp : 1 ≤ p) : ((((p : Int) - 1) / 2).toNat) = (p - 1) / 2 := by omega
theorem pow_rest {n : Int} {p r : Nat} (k : Nat) (e : n % p = (r : Int)) : n ^ k % p = ((r ^ k % p : Nat) : Int) := by
  rw [← pow_mod, e]
  push_cast
  rfl
theorem euler_at {p : Nat} (h : euler p = true) {r : Nat} (h1 : 1 ≤ r) (h2 : r < p) : (r ^ ((p - 1) / 2) % p = 1 ↔ (r : Int) ∈ sqs p) ∧ (r ^ ((p - 1) / 2) % p = 1 ∨ r ^ ((p - 1) / 2) % p = p - 1) := by
  unfold euler at h
  have h3 := List.all_eq_true.mp h r (by rw [List.mem_range'_1]; omega)
  rw [Bool.and_eq_true, maskOf_bit] at h3
  obtain ⟨h4, h5⟩ := h3
  refine ⟨?_, by simpa using h5⟩
  rw [sqs_nat]
  have h6 := beq_iff_eq.mp h4
  rw [← h6, beq_iff_eq]
theorem sign_eq {p : Nat} (hp : 3 ≤ p) (h : euler p = true) (n : Int) : restSign n p = lawSign n p := by
  unfold restSign lawSign
  by_cases h0 : n % p = 0
  · rw [if_pos h0, if_pos h0]
  · rw [if_neg h0, if_neg h0, if_neg (by omega : ¬ (p : Int) = 2), if_neg (by omega : ¬ (p : Int) = 2)]
    obtain ⟨r, hr, e⟩ := emod_cast (n := n) (by omega : 0 < p)
    have h1 : 1 ≤ r := by
      rcases Nat.eq_zero_or_pos r with z | z
      · rw [z] at e
        exact absurd e h0
      · exact z
    have h2 := (euler_at h h1 hr).1
    rw [half_cast p (by omega), pow_rest _ e, e]
    by_cases c : r ^ ((p - 1) / 2) % p = 1
    · rw [if_pos (h2.mp c), if_pos (by rw [c]; rfl)]
    · rw [if_neg (fun z => c (h2.mpr z)), if_neg (fun z => c (by omega))]
theorem sign_eq2 (n : Int) : restSign n 2 = lawSign n 2 := by
  unfold restSign lawSign
  rfl
theorem sign_mul {p : Nat} (hp : 3 ≤ p) (h : euler p = true) (hq : PrP p) (a b : Int) : restSign (a * b) p = restSign a p * restSign b p := by
  unfold restSign
  have hn : ¬ (p : Int) = 2 := by omega
  by_cases ha : a % p = 0
  · have hab : a * b % p = 0 := Int.emod_eq_zero_of_dvd (Int.dvd_mul_of_dvd_left (Int.dvd_of_emod_eq_zero ha))
    rw [if_pos ha, if_pos hab, Int.zero_mul]
  · by_cases hb : b % p = 0
    · have hab : a * b % p = 0 := Int.emod_eq_zero_of_dvd (Int.dvd_mul_of_dvd_right (Int.dvd_of_emod_eq_zero hb))
      rw [if_pos hb, if_pos hab, Int.mul_zero]
    · have hab : ¬ a * b % p = 0 := fun z => by
        rcases prime_mul hq (Int.dvd_of_emod_eq_zero z) with y | y
        · exact ha (Int.emod_eq_zero_of_dvd y)
        · exact hb (Int.emod_eq_zero_of_dvd y)
      rw [if_neg ha, if_neg hb, if_neg hab, if_neg hn, if_neg hn, if_neg hn, half_cast p (by omega)]
      obtain ⟨r, hr, er⟩ := emod_cast (n := a) (by omega : 0 < p)
      obtain ⟨t, ht, et⟩ := emod_cast (n := b) (by omega : 0 < p)
      have r1 : 1 ≤ r := by
        rcases Nat.eq_zero_or_pos r with z | z
        · rw [z] at er
          exact absurd er ha
        · exact z
      have t1 : 1 ≤ t := by
        rcases Nat.eq_zero_or_pos t with z | z
        · rw [z] at et
          exact absurd et hb
        · exact z
      have e1 := (euler_at h r1 hr).2
      have e2 := (euler_at h t1 ht).2
      have p1 := pow_rest ((p - 1) / 2) er
      have p2 := pow_rest ((p - 1) / 2) et
      have pm : (a * b) ^ ((p - 1) / 2) % p = ((a ^ ((p - 1) / 2) % p) * (b ^ ((p - 1) / 2) % p)) % p := by rw [Int.mul_pow, Int.mul_emod]
      have c1 : ((p - 1 : Nat) : Int) = (p : Int) - 1 := by omega
      have q1 : ((p : Int) - 1) * ((p : Int) - 1) % p = 1 := by
        have : ((p : Int) - 1) * ((p : Int) - 1) = 1 + p * (p - 2) := by
          have e3 : (p : Int) * (p - 2) = p * p - p * 2 := Int.mul_sub ..
          rw [e3, Int.sub_mul, Int.mul_sub]
          omega
        rw [this, Int.add_mul_emod_self_left]
        exact Int.emod_eq_of_lt (by omega) (by omega)
      have q2 : ((p : Int) - 1) % p = p - 1 := Int.emod_eq_of_lt (by omega) (by omega)
      have n1 : ¬ ((p : Int) - 1) = 1 := by omega
      rw [pm, p1, p2]
      rcases e1 with e1 | e1 <;> rcases e2 with e2 | e2 <;> rw [e1, e2]
      · have : ((1 : Nat) : Int) * ((1 : Nat) : Int) % p = 1 := Int.emod_eq_of_lt (by decide) (by show (1 : Int) < p; omega)
        rw [this]
        rfl
      · rw [c1, show ((1 : Nat) : Int) * ((p : Int) - 1) = p - 1 by omega, q2, if_neg n1]
        rfl
      · rw [c1, show ((p : Int) - 1) * ((1 : Nat) : Int) = p - 1 by omega, q2, if_neg n1]
        rfl
      · rw [c1, q1, if_neg n1]
        rfl
theorem sign_mul2 (a b : Int) : restSign (a * b) 2 = restSign a 2 * restSign b 2 := by
  have key : ∀ r : Fin 8, ∀ t : Fin 8, restSign ((r.val : Int) * (t.val : Int)) 2 = restSign r.val 2 * restSign t.val 2 := by decide +kernel
  have red : ∀ n : Int, restSign n 2 = restSign (n % 8) 2 := fun n => by
    unfold restSign
    have h1 : n % 8 % 2 = n % 2 := by omega
    have h2 : n % 8 % 8 = n % 8 := by omega
    rw [h1, h2]
    rfl
  have k2 : ∀ n : Int, ∃ r : _root_.Fin 8, n % 8 = (r.val : Int) := fun n => ⟨⟨(n % 8).toNat, by omega⟩, by show n % 8 = ((n % 8).toNat : Int); omega⟩
  obtain ⟨r, hr⟩ := k2 a
  obtain ⟨t, ht⟩ := k2 b
  rw [red (a * b), Int.mul_emod, ← red, red a, red b, hr, ht]
  exact key r t
end Sf

namespace Sf
open PySem PySem.Spec PyProof.Rows L2
/-! lists and tuples of ints as data -/
theorem lay_ints : ∀ ns : List Int, PyData.canLayAll0 (ns.map PyData.int) = true ∧ PyData.depthAll (ns.map PyData.int) = 0
  | [] => ⟨rfl, rfl⟩
  | n :: ns => by
    obtain ⟨h1, h2⟩ := lay_ints ns
    refine ⟨?_, ?_⟩
    · show (true && PyData.canLayAll0 (ns.map PyData.int)) = true
      rw [h1]
      rfl
    · show max 0 (PyData.depthAll (ns.map PyData.int)) = 0
      rw [h2]
      rfl
theorem shp_list (ns : List Int) : SeqAt.shaped (.list (ns.map PyData.int)) = true := by
  obtain ⟨h1, h2⟩ := lay_ints ns
  show (PyData.canLayAll0 (ns.map PyData.int) && decide (PyData.depthAll (ns.map PyData.int) + 1 ≤ 64)) = true
  rw [h1, h2]
  rfl
theorem shp_tup (ns : List Int) : SeqAt.shaped (.tuple (ns.map PyData.int)) = true := by
  obtain ⟨h1, h2⟩ := lay_ints ns
  show (PyData.canLayAll0 (ns.map PyData.int) && decide (PyData.depthAll (ns.map PyData.int) + 1 ≤ 64)) = true
  rw [h1, h2]
  rfl
theorem eqv_ints : ∀ a b : List Int, PyData.eqvAll (a.map PyData.int) (b.map PyData.int) = decide (a = b)
  | [], [] => rfl
  | [], _ :: _ => rfl
  | _ :: _, [] => rfl
  | x :: a, y :: b => by
    show ((x == y) && PyData.eqvAll (a.map PyData.int) (b.map PyData.int)) = _
    rw [eqv_ints a b, Bool.eq_iff_iff]
    simp only [Bool.and_eq_true, beq_iff_eq, decide_eq_true_eq, List.cons.injEq]
theorem dpAll_ints (K : PySem.W.Frag) (H : Hp) : ∀ ns : List Int, DpAll K H (ns.map V.int) (ns.map PyData.int)
  | [] => .nil
  | n :: ns => .cons (.int n) (dpAll_ints K H ns)
theorem dp_list {K : PySem.W.Frag} {H : Hp} {a : Addr} {ns : List Int} (h : SqL K H a (ns.map V.int)) : Dp K H (.ref a) (.list (ns.map PyData.int)) := .lst h (dpAll_ints K H ns)
theorem dp_tup {K : PySem.W.Frag} {H : Hp} {a : Addr} {ns : List Int} (h : SqT K H a (ns.map V.int)) : Dp K H (.ref a) (.tuple (ns.map PyData.int)) := .tup h (dpAll_ints K H ns)
end Sf

namespace Sf
theorem strip_unique {n p : Int} (hp : PrP p) {m m' : Nat} {u u' : Int} (h : Strip n p m u) (h' : Strip n p m' u') : m = m' ∧ u = u' :=
  pow_cancel hp (fun z => h.2 (Int.emod_eq_zero_of_dvd z)) (fun z => h'.2 (Int.emod_eq_zero_of_dvd z)) (h.1.symm.trans h'.1)
theorem strip_ne {n p : Int} {m : Nat} {u : Int} (h : Strip n p m u) : u ≠ 0 := fun z => h.2 (by rw [z]; exact Int.zero_emod _)
theorem strip_le {n p : Int} (hp : 2 ≤ p) {m : Nat} {u : Int} (h : Strip n p m u) : u.natAbs ≤ n.natAbs ∧ (m : Int) < n.natAbs + 1 := by
  have h1 := h.1
  have hu := strip_ne h
  have hpm : 0 < p ^ m := pow_pos_int (by omega) m
  have e : n.natAbs = (p ^ m).natAbs * u.natAbs := by rw [h1]; exact Int.natAbs_mul _ _
  have g1 : 1 ≤ (p ^ m).natAbs := by omega
  have g2 : 1 ≤ u.natAbs := by omega
  have g3 : 1 * u.natAbs ≤ (p ^ m).natAbs * u.natAbs := Nat.mul_le_mul_right _ g1
  have g4 : (p ^ m).natAbs * 1 ≤ (p ^ m).natAbs * u.natAbs := Nat.mul_le_mul_left _ g2
  have g5 := nat_lt_pow hp m
  omega
/-- the sign at a prime by what is stripped -/
def sgnAt (p : Int) (s t : Nat) (u v : Int) : Int :=
  if p = 2 then (if ((u - 1) / 2 * ((v - 1) / 2) + s * ((v * v - 1) / 8) + t * ((u * u - 1) / 8)) % 2 = 1 then -1 else 1)
  else (if s * t % 2 = 1 then restSign (-1) p else 1) * (if t % 2 = 1 then restSign u p else 1) * (if s % 2 = 1 then restSign v p else 1)
def HSign (a b p r : Int) : Prop := (p = 0 ∧ r = if a < 0 ∧ b < 0 then -1 else 1) ∨ (p ≠ 0 ∧ ∃ (s t : Nat) (u v : Int), Strip a p s u ∧ Strip b p t v ∧ r = sgnAt p s t u v)
theorem hsign_unique {a b p r r' : Int} (hp : p = 0 ∨ PrP p) (h : HSign a b p r) (h' : HSign a b p r') : r = r' := by
  rcases h with ⟨h0, h1⟩ | ⟨h0, s, t, u, v, h1, h2, h3⟩
  · rcases h' with ⟨_, g1⟩ | ⟨g0, _⟩
    · rw [h1, g1]
    · exact absurd h0 g0
  · rcases h' with ⟨g0, _⟩ | ⟨_, s', t', u', v', g1, g2, g3⟩
    · exact absurd g0 h0
    · have hp := hp.resolve_left h0
      obtain ⟨e1, e2⟩ := strip_unique hp h1 g1
      obtain ⟨e3, e4⟩ := strip_unique hp h2 g2
      rw [h3, g3, e1, e2, e3, e4]
theorem sgnAt_comm (p : Int) (s t : Nat) (u v : Int) : sgnAt p s t u v = sgnAt p t s v u := by
  unfold sgnAt
  by_cases h : p = 2
  · rw [if_pos h, if_pos h]
    have e : (u - 1) / 2 * ((v - 1) / 2) + s * ((v * v - 1) / 8) + t * ((u * u - 1) / 8) = (v - 1) / 2 * ((u - 1) / 2) + t * ((u * u - 1) / 8) + s * ((v * v - 1) / 8) := by
      rw [Int.mul_comm ((u - 1) / 2)]
      omega
    rw [e]
  · rw [if_neg h, if_neg h, Nat.mul_comm s t, Int.mul_assoc, Int.mul_assoc]
    congr 1
    exact Int.mul_comm _ _
theorem hsign_comm {a b p r : Int} (h : HSign a b p r) : HSign b a p r := by
  rcases h with ⟨h0, h1⟩ | ⟨h0, s, t, u, v, h1, h2, h3⟩
  · refine .inl ⟨h0, ?_⟩
    rw [h1]
    by_cases c : a < 0 ∧ b < 0
    · rw [if_pos c, if_pos c.symm]
    · rw [if_neg c, if_neg (fun z => c z.symm)]
  · exact .inr ⟨h0, t, s, v, u, h2, h1, by rw [h3]; exact sgnAt_comm ..⟩
theorem rest_small (n p : Int) : -1 ≤ restSign n p ∧ restSign n p ≤ 1 := by
  unfold restSign
  split
  · decide
  · split
    · split <;> decide
    · split <;> decide
end Sf

namespace Sf
open PySem PySem.Spec PyProof.Rows L2
section
variable {P : Program} {w : World} {K : PySem.W.Frag} {mg : Str → Option Value} {base : Heap} {f : Addr} {fd : FuncData}
def spQuarter : Sp := fun vs H Q _ => ∃ u : Int, vs = [.int u] ∧ Q (.int ((u - 1) / 2)) H
theorem ok_quarter (F : FnD K "quarter" "quarter" s_P_quarter f fd) : FnOk P w K mg base CX0 1 f fd ["unit"] spQuarter := by
  refine F.ok sc_P_quarter (fun vs H Q E h => ?_) (fun cdv A outer s H vs Q E hr h => ?_)
  · obtain ⟨n, rfl, _⟩ := h; rfl
  · obtain ⟨n, rfl, q⟩ := h
    refine ⟨_, PSs.nox (pss_one (ps_ret (pe_op op_fdivW (pe_op op_sub (pv 0) pe_int) pe_int))), ?_⟩
    exact ⟨_, rfl, _, _, rfl, rfl, _, _, rfl, rfl, CDivW.of (by decide) (by decide +kernel), q⟩
def spEighth : Sp := fun vs H Q _ => ∃ u : Int, vs = [.int u] ∧ u.natAbs < 2 ^ 3000 ∧ Q (.int ((u * u - 1) / 8)) H
theorem ok_eighth (F : FnD K "eighth" "eighth" s_P_eighth f fd) : FnOk P w K mg base CX0 1 f fd ["unit"] spEighth := by
  refine F.ok sc_P_eighth (fun vs H Q E h => ?_) (fun cdv A outer s H vs Q E hr h => ?_)
  · obtain ⟨n, rfl, _⟩ := h; rfl
  · obtain ⟨n, rfl, hb, q⟩ := h
    refine ⟨_, PSs.nox (pss_one (ps_ret (pe_op op_fdivW (pe_op op_sub (pe_op op_mulW (pv 0) (pv 0)) pe_int) pe_int))), ?_⟩
    exact ⟨_, rfl, _, rfl, _, _, rfl, rfl, CMulW.of hb hb, _, _, rfl, rfl, _, _, rfl, rfl, CDivW.of (by decide) (by decide +kernel), q⟩
structure SgnP (two : Bool) (vs : List V) (H : Hp) (Q : VK) : Prop where
  ex : ∃ a b p : Int, vs = (if two then [.int a, .int b] else [.int a, .int b, .int p]) ∧ (two = true → p = 2) ∧ (two = false → p ≠ 2) ∧ a ≠ 0 ∧ b ≠ 0 ∧ a.natAbs ≤ 1000000000 ∧ b.natAbs ≤ 1000000000 ∧ 2 ≤ p ∧ p ≤ 1000000000 ∧
    ∀ (s t : Nat) (u v : Int) (H' : Hp), Strip a p s u → Strip b p t v → Same H H' → Q (.int (sgnAt p s t u v)) H'
def spSgn (two : Bool) : Sp := fun vs H Q _ => SgnP two vs H Q
theorem small_mul {a b A B : Int} (ha : a.natAbs ≤ A.natAbs) (hb : b.natAbs ≤ B.natAbs) : (a * b).natAbs ≤ (A * B).natAbs := by
  rw [Int.natAbs_mul, Int.natAbs_mul]
  exact Nat.mul_le_mul ha hb
theorem ok_sign_at_two (F : FnD K "sign_at_two" "sign_at_two" s_P_sign_at_two f fd) (C_P_stripped : Cal P w K mg base 1 "stripped" ["number", "prime"] spStripped) (C_P_quarter : Cal P w K mg base 1 "quarter" ["unit"] spQuarter) (C_P_eighth : Cal P w K mg base 1 "eighth" ["unit"] spEighth) :
    FnOk P w K mg base CX0 2 f fd ["a", "b"] (spSgn true) := by
  refine F.ok sc_P_sign_at_two (fun vs H Q E h => ?_) (fun cdv A outer s H vs Q E hr h => ?_)
  · obtain ⟨a, b, p, rfl, _⟩ := h.ex; rfl
  · obtain ⟨a, b, p, rfl, h2, _, a0, b0, a1, b1, _, _, q⟩ := h.ex
    obtain rfl : p = 2 := h2 rfl
    refine ⟨_, PSs.nox (pss_cons (ps_asg (pe_cal C_P_stripped (hr.mono (by decide)) (pa_cons (pv 0) (pa_cons pe_int pa_nil))) (pg_tup (by rfl) (pgs_cons (pg_name (i := 2) sc_P_sign_at_two.nd rfl (Or.inl rfl)) (pgs_cons (pg_name (i := 3) sc_P_sign_at_two.nd rfl (Or.inl rfl)) pgs_nil))))
      (pss_cons (ps_asg (pe_cal C_P_stripped (hr.mono (by decide)) (pa_cons (pv 1) (pa_cons pe_int pa_nil))) (pg_tup (by rfl) (pgs_cons (pg_name (i := 4) sc_P_sign_at_two.nd rfl (Or.inl rfl)) (pgs_cons (pg_name (i := 5) sc_P_sign_at_two.nd rfl (Or.inl rfl)) pgs_nil))))
      (pss_cons (ps_set (i := 6) sc_P_sign_at_two.nd rfl (Or.inl rfl) (pe_op op_add (pe_op op_add (pe_op op_mulW (pe_cal C_P_quarter (hr.mono (by decide)) (pa_cons (pv 3) pa_nil)) (pe_cal C_P_quarter (hr.mono (by decide)) (pa_cons (pv 5) pa_nil))) (pe_op op_mulW (pv 2) (pe_cal C_P_eighth (hr.mono (by decide)) (pa_cons (pv 5) pa_nil)))) (pe_op op_mulW (pv 4) (pe_cal C_P_eighth (hr.mono (by decide)) (pa_cons (pv 3) pa_nil)))))
      (pss_one (ps_ret (pe_ifExp (pt_cmp (pc_eqI (pe_op op_mod (pv 6) pe_int) pe_int)) (pe_un un_neg pe_int) pe_int)))))), ?_⟩
    have tb : (2 : Int).natAbs < 2 ^ 3000 := by decide +kernel
    refine ⟨_, rfl, a, 2, rfl, a0, by decide, tb, fun s u x1 st1 hx1 => ⟨x1, _, rfl, .inl (.inl upd_same), rfl, _, _, rfl, _, _, rfl, rfl, ?_⟩⟩
    refine ⟨_, rfl, b, 2, rfl, b0, by decide, tb, fun t v x2 st2 hx2 => ⟨x2, _, rfl, .inl (.inl upd_same), rfl, _, _, rfl, _, _, rfl, rfl, ?_⟩⟩
    have l1 := strip_le (by decide) st1
    have l2 := strip_le (by decide) st2
    have ub : u.natAbs < 2 ^ 3000 := lt3000s (by omega) (by omega)
    have vb : v.natAbs < 2 ^ 3000 := lt3000s (by omega) (by omega)
    have uu : (u * u).natAbs ≤ 1000000000000000000 := by
      have := small_mul (a := u) (b := u) (A := 1000000000) (B := 1000000000) (by omega) (by omega)
      exact this
    have vv : (v * v).natAbs ≤ 1000000000000000000 := by
      have := small_mul (a := v) (b := v) (A := 1000000000) (B := 1000000000) (by omega) (by omega)
      exact this
    refine ⟨_, rfl, u, rfl, _, rfl, v, rfl, _, _, rfl, rfl, CMulW.of (lt3000s (by omega) (by omega)) (lt3000s (by omega) (by omega)), _, rfl, _, rfl, v, rfl, vb, _, _, rfl, rfl, CMulW.of (lt3000s (by omega) (by omega)) (lt3000s (by omega) (by omega)), _, _, rfl, rfl, _, rfl, _, rfl, u, rfl, ub, _, _, rfl, rfl, CMulW.of (lt3000s (by omega) (by omega)) (lt3000s (by omega) (by omega)), _, _, rfl, rfl, ?_⟩
    have z := q s t u v (upd (upd H x1 (.tup [.int s, .int u])) x2 (.tup [.int t, .int v])) st1 st2 ((same_upd hx1).trans (same_upd hx2))
    unfold sgnAt at z
    rw [if_pos rfl] at z
    refine ⟨_, rfl, _, _, rfl, rfl, (by show (0 : Int) < 2; decide), _, _, rfl, rfl, _, rfl, ifd (fun h => ?_) (fun h => ?_)⟩
    · rw [if_pos h] at z
      exact ⟨_, rfl, z⟩
    · rw [if_neg h] at z
      exact z
theorem mul1 (a : Int) : 1 * a = a := Int.one_mul a
theorem ok_sign_at_odd (F : FnD K "sign_at_odd" "sign_at_odd" s_P_sign_at_odd f fd) (C_P_stripped : Cal P w K mg base 1 "stripped" ["number", "prime"] spStripped) (C_P_rest_sign : Cal P w K mg base 2 "rest_sign" ["number", "prime"] spRestSign) :
    FnOk P w K mg base CX0 3 f fd ["a", "b", "prime"] (spSgn false) := by
  refine F.ok sc_P_sign_at_odd (fun vs H Q E h => ?_) (fun cdv A outer s H vs Q E hr h => ?_)
  · obtain ⟨a, b, p, rfl, _⟩ := h.ex; rfl
  · obtain ⟨a, b, p, rfl, _, hp2, a0, b0, a1, b1, p2, p9, q⟩ := h.ex
    have pn : p ≠ 2 := hp2 rfl
    refine ⟨_, PSs.nox (pss_cons (ps_asg (pe_cal C_P_stripped (hr.mono (by decide)) (pa_cons (pv 0) (pa_cons (pv 2) pa_nil))) (pg_tup (by rfl) (pgs_cons (pg_name (i := 3) sc_P_sign_at_odd.nd rfl (Or.inl rfl)) (pgs_cons (pg_name (i := 4) sc_P_sign_at_odd.nd rfl (Or.inl rfl)) pgs_nil))))
      (pss_cons (ps_asg (pe_cal C_P_stripped (hr.mono (by decide)) (pa_cons (pv 1) (pa_cons (pv 2) pa_nil))) (pg_tup (by rfl) (pgs_cons (pg_name (i := 5) sc_P_sign_at_odd.nd rfl (Or.inl rfl)) (pgs_cons (pg_name (i := 6) sc_P_sign_at_odd.nd rfl (Or.inl rfl)) pgs_nil))))
      (pss_cons (ps_set (i := 7) sc_P_sign_at_odd.nd rfl (Or.inl rfl) pe_int)
      (Evl.pss_cut (ps_if (pt_cmp (pc_eqI (pe_op op_mod (pe_op op_mulW (pv 3) (pv 5)) pe_int) pe_int)) (pss_one (ps_set (i := 7) sc_P_sign_at_odd.nd rfl (Or.inl rfl) (pe_op op_mulW (pv 7) (pe_cal C_P_rest_sign (hr.mono (by decide)) (pa_cons (pe_un un_neg pe_int) (pa_cons (pv 2) pa_nil)))))) pss_nil)
      (Evl.pss_cut (ps_if (pt_cmp (pc_eqI (pe_op op_mod (pv 5) pe_int) pe_int)) (pss_one (ps_set (i := 7) sc_P_sign_at_odd.nd rfl (Or.inl rfl) (pe_op op_mulW (pv 7) (pe_cal C_P_rest_sign (hr.mono (by decide)) (pa_cons (pv 4) (pa_cons (pv 2) pa_nil)))))) pss_nil)
      (pss_cons (ps_if (pt_cmp (pc_eqI (pe_op op_mod (pv 3) pe_int) pe_int)) (pss_one (ps_set (i := 7) sc_P_sign_at_odd.nd rfl (Or.inl rfl) (pe_op op_mulW (pv 7) (pe_cal C_P_rest_sign (hr.mono (by decide)) (pa_cons (pv 6) (pa_cons (pv 2) pa_nil)))))) pss_nil)
      (pss_one (ps_ret (pv 7))))))))), ?_⟩
    have tb : p.natAbs < 2 ^ 3000 := lt3000s (by omega) (by omega)
    have tb1 : p.natAbs < 2 ^ 1000 := Nat.lt_trans (by omega : p.natAbs < 2000000000) (by decide +kernel)
    refine ⟨_, rfl, _, rfl, a, p, rfl, a0, p2, tb, fun s u x1 st1 hx1 => ⟨x1, _, rfl, .inl (.inl upd_same), rfl, _, _, rfl, _, _, rfl, rfl, ?_⟩⟩
    refine ⟨_, rfl, _, rfl, b, p, rfl, b0, p2, tb, fun t v x2 st2 hx2 => ⟨x2, _, rfl, .inl (.inl upd_same), rfl, _, _, rfl, _, _, rfl, rfl, ?_⟩⟩
    have l1 := strip_le p2 st1
    have l2 := strip_le p2 st2
    have k0 : Same H (upd (upd H x1 (.tup [.int s, .int u])) x2 (.tup [.int t, .int v])) := (same_upd hx1).trans (same_upd hx2)
    have est : ((s : Int) * (t : Int)) = ((s * t : Nat) : Int) := (Int.natCast_mul s t).symm
    have hst : ((s : Int) * (t : Int)) % 2 = 1 ↔ s * t % 2 = 1 := by rw [est]; omega
    have r1 := rest_small (-1) p
    have r2 := rest_small u p
    have r3 := rest_small v p
    have z := fun H' k => q s t u v H' st1 st2 k
    unfold sgnAt at z
    rw [if_neg pn] at z
    refine ⟨fun σ' H' => σ' = [some (.int a), some (.int b), some (.int p), some (.int s), some (.int u), some (.int t), some (.int v), some (.int (if s * t % 2 = 1 then restSign (-1) p else 1))] ∧ Same H H', ?_, ?_⟩
    · refine ⟨_, rfl, _, rfl, _, _, rfl, rfl, CMulW.of (lt3000s (by omega) (by omega)) (lt3000s (by omega) (by omega)), _, _, rfl, rfl, (by show (0 : Int) < 2; decide), _, _, rfl, rfl, _, rfl, ifd (fun h => ?_) (fun h => ?_)⟩
      · have h' := hst.mp h
        rw [if_pos h']
        exact ⟨_, rfl, 1, rfl, _, rfl, -1, p, rfl, p2, tb1, fun H' k => ⟨_, _, rfl, rfl, CMulW.of (lt3000s (by decide) (by decide)) (lt3000s (by omega) (by omega)), (by show [some (V.int a), some (.int b), some (.int p), some (.int s), some (.int u), some (.int t), some (.int v), some (.int (1 * restSign (-1) p))] = _; rw [mul1]), k0.trans k⟩⟩
      · have h' := fun z => h (hst.mpr z)
        rw [if_neg h']
        exact ⟨rfl, k0⟩
    rintro σ' H1 ⟨rfl, k1⟩
    have b1 : -1 ≤ (if s * t % 2 = 1 then restSign (-1) p else 1) ∧ (if s * t % 2 = 1 then restSign (-1) p else 1) ≤ 1 := by split <;> omega
    have b2 : -1 ≤ (if t % 2 = 1 then restSign u p else 1) ∧ (if t % 2 = 1 then restSign u p else 1) ≤ 1 := by split <;> omega
    generalize (if s * t % 2 = 1 then restSign (-1) p else 1) = x at z b1
    refine ⟨fun σ' H' => σ' = [some (.int a), some (.int b), some (.int p), some (.int s), some (.int u), some (.int t), some (.int v), some (.int (x * (if t % 2 = 1 then restSign u p else 1)))] ∧ Same H H', ?_, ?_⟩
    · refine ⟨_, rfl, _, _, rfl, rfl, (by show (0 : Int) < 2; decide), _, _, rfl, rfl, _, rfl, ifd (fun h => ?_) (fun h => ?_)⟩
      · have h' : t % 2 = 1 := by omega
        rw [if_pos h']
        exact ⟨_, rfl, _, rfl, _, rfl, u, p, rfl, p2, tb1, fun H' k => ⟨_, _, rfl, rfl, CMulW.of (lt3000s (by omega) (by omega)) (lt3000s (by omega) (by omega)), rfl, k1.trans k⟩⟩
      · have h' : ¬ t % 2 = 1 := by omega
        rw [if_neg h', Int.mul_one]
        exact ⟨rfl, k1⟩
    rintro σ' H2 ⟨rfl, k2⟩
    generalize (if t % 2 = 1 then restSign u p else 1) = y at z b2
    have b3 : (x * y).natAbs ≤ 1 := small_mul (A := 1) (B := 1) (by omega) (by omega)
    refine ⟨_, rfl, _, _, rfl, rfl, (by show (0 : Int) < 2; decide), _, _, rfl, rfl, _, rfl, ifd (fun h => ?_) (fun h => ?_)⟩
    · have h' : s % 2 = 1 := by omega
      rw [if_pos h'] at z
      exact ⟨_, rfl, _, rfl, _, rfl, v, p, rfl, p2, tb1, fun H' k => ⟨_, _, rfl, rfl, CMulW.of (lt3000s (by omega) (by omega)) (lt3000s (by omega) (by omega)), _, rfl, z _ (k2.trans k)⟩⟩
    · have h' : ¬ s % 2 = 1 := by omega
      rw [if_neg h', Int.mul_one] at z
      exact ⟨_, rfl, z _ k2⟩
structure SignP (vs : List V) (H : Hp) (Q : VK) : Prop where
  ex : ∃ a b p : Int, vs = [.int a, .int b, .int p] ∧ a ≠ 0 ∧ b ≠ 0 ∧ a.natAbs ≤ 1000000000 ∧ b.natAbs ≤ 1000000000 ∧ (p = 0 ∨ PrP p ∧ p ≤ 1000000000) ∧ ∀ (r : Int) (H' : Hp), HSign a b p r → Same H H' → Q (.int r) H'
def spSign : Sp := fun vs H Q _ => SignP vs H Q
theorem ok_sign (F : FnD K "sign" "sign" s_P_sign f fd) (C_P_sign_at_two : Cal P w K mg base 2 "sign_at_two" ["a", "b"] (spSgn true)) (C_P_sign_at_odd : Cal P w K mg base 3 "sign_at_odd" ["a", "b", "prime"] (spSgn false)) :
    FnOk P w K mg base CX0 4 f fd ["a", "b", "place"] spSign := by
  refine F.ok sc_P_sign (fun vs H Q E h => ?_) (fun cdv A outer s H vs Q E hr h => ?_)
  · obtain ⟨a, b, p, rfl, _⟩ := h.ex; rfl
  · obtain ⟨a, b, p, rfl, a0, b0, a1, b1, hp, q⟩ := h.ex
    refine ⟨_, PSs.nox (pss_cons (ps_if (pt_cmp (pc_eqI (pv 2) pe_int)) (pss_one (ps_ret (pe_ifExp (PW.pt (pw_and (pt_cmp (pc_lt (pv 0) pe_int)) (pw_and1 (pt_cmp (pc_lt (pv 1) pe_int))))) (pe_un un_neg pe_int) pe_int))) pss_nil)
      (pss_cons (ps_if (pt_cmp (pc_eqI (pv 2) pe_int)) (pss_one (ps_ret (pe_cal C_P_sign_at_two (hr.mono (by decide)) (pa_cons (pv 0) (pa_cons (pv 1) pa_nil))))) pss_nil)
      (pss_one (ps_ret (pe_cal C_P_sign_at_odd (hr.mono (by decide)) (pa_cons (pv 0) (pa_cons (pv 1) (pa_cons (pv 2) pa_nil)))))))), ?_⟩
    refine ⟨_, rfl, _, _, rfl, rfl, _, rfl, ifd (fun h => ?_) (fun h => ?_)⟩
    · have z := fun r e => q r H (.inl ⟨h, e⟩) (Same.refl H)
      refine ⟨_, rfl, _, _, rfl, rfl, _, rfl, ifd (fun h1 => ⟨_, rfl, _, _, rfl, rfl, _, rfl, ifd (fun h2 => ?_) (fun h2 => ?_)⟩) (fun h1 => ?_)⟩
      · exact ⟨_, rfl, z _ (by rw [if_pos ⟨h1, h2⟩])⟩
      · exact z _ (by rw [if_neg (fun c => h2 c.2)])
      · exact z _ (by rw [if_neg (fun c => h1 c.1)])
    · have hp := hp.resolve_left h
      have p2 := hp.1.1
      refine ⟨_, rfl, _, _, rfl, rfl, _, rfl, ifd (fun h2 => ?_) (fun h2 => ?_)⟩
      · have h2 : p = 2 := h2
        subst h2
        exact ⟨_, rfl, _, rfl, ⟨a, b, 2, rfl, fun _ => rfl, fun z => Bool.noConfusion z, a0, b0, a1, b1, by decide, by decide, fun s t u v H' h3 h4 k => q _ H' (.inr ⟨h, s, t, u, v, h3, h4, rfl⟩) k⟩⟩
      · exact ⟨_, rfl, _, rfl, _, rfl, ⟨a, b, p, rfl, fun z => Bool.noConfusion z, fun _ => h2, a0, b0, a1, b1, p2, hp.2, fun s t u v H' h3 h4 k => q _ H' (.inr ⟨h, s, t, u, v, h3, h4, rfl⟩) k⟩⟩
end
end Sf

namespace Sf
open PySem PySem.Spec PyProof.Rows L2
theorem strip_exists {n p : Int} (hn : n ≠ 0) (hp : 2 ≤ p) : ∃ (m : Nat) (u : Int), Strip n p m u := by
  generalize hN : n.natAbs = N
  induction N using Nat.strongRecOn generalizing n with
  | ind N ih =>
    by_cases h : n % p = 0
    · obtain ⟨l1, l2, l3⟩ := strip_less hn hp h
      obtain ⟨m, u, e, hu⟩ := ih _ (by omega) l2 rfl
      refine ⟨m + 1, u, ?_, hu⟩
      rw [Int.pow_succ, Int.mul_comm (p ^ m) p, Int.mul_assoc, ← e]
      exact l3
    · exact ⟨0, n, by rw [Int.pow_zero, Int.one_mul], h⟩
theorem odd_sq8 {w : Int} (h : w % 2 ≠ 0) : w * w % 8 = 1 := by
  have h1 : w % 8 = 1 ∨ w % 8 = 3 ∨ w % 8 = 5 ∨ w % 8 = 7 := by omega
  rw [Int.mul_emod]
  rcases h1 with e | e | e | e <;> rw [e] <;> decide
/-- the same unit, up to what the sign sees -/
def Alike (p u v : Int) : Prop := if p = 2 then u % 8 = v % 8 else restSign u p = restSign v p
theorem half_par {u v : Int} (h : u % 8 = v % 8) : ((u - 1) / 2) % 2 = ((v - 1) / 2) % 2 := by omega
theorem w_par {u v : Int} (h : u % 8 = v % 8) : ((u * u - 1) / 8) % 2 = ((v * v - 1) / 8) % 2 := by
  have e : u = v + 8 * ((u - v) / 8) := by omega
  generalize (u - v) / 8 = k at e
  have e2 : u * u = v * v + 16 * (v * k + 4 * (k * k)) := by rw [e]; grind
  omega
theorem par_mul (a b c d : Int) (h1 : a % 2 = c % 2) (h2 : b % 2 = d % 2) : (a * b) % 2 = (c * d) % 2 := by
  rw [Int.mul_emod, h1, h2, ← Int.mul_emod]
theorem sgn_congr {p : Int} {s t s' t' : Nat} {u v u' v' : Int} (hs : s % 2 = s' % 2) (ht : t % 2 = t' % 2) (hu : Alike p u u') (hv : Alike p v v') : sgnAt p s t u v = sgnAt p s' t' u' v' := by
  unfold sgnAt
  unfold Alike at hu hv
  by_cases h : p = 2
  · rw [if_pos h] at hu hv ⊢
    rw [if_pos h]
    have h1 := par_mul _ _ _ _ (half_par hu) (half_par hv)
    have h2 := par_mul (s : Int) ((v * v - 1) / 8) (s' : Int) ((v' * v' - 1) / 8) (by omega) (w_par hv)
    have h3 := par_mul (t : Int) ((u * u - 1) / 8) (t' : Int) ((u' * u' - 1) / 8) (by omega) (w_par hu)
    have e : ((u - 1) / 2 * ((v - 1) / 2) + s * ((v * v - 1) / 8) + t * ((u * u - 1) / 8)) % 2 = ((u' - 1) / 2 * ((v' - 1) / 2) + s' * ((v' * v' - 1) / 8) + t' * ((u' * u' - 1) / 8)) % 2 := by omega
    rw [e]
  · rw [if_neg h] at hu hv ⊢
    rw [if_neg h, hu, hv, hs, ht, Nat.mul_mod s t, hs, ht, ← Nat.mul_mod]
theorem rest_unit {w p : Int} (h : w % p ≠ 0) : restSign w p * restSign w p = 1 := by
  unfold restSign
  rw [if_neg h]
  split
  · split <;> decide
  · split <;> decide
theorem alike_sq {p u w : Int} (hp : PrP p) (he : p = 2 ∨ ∃ q : Nat, p = q ∧ 3 ≤ q ∧ euler q = true) (hw : w % p ≠ 0) : Alike p (u * (w * w)) u := by
  unfold Alike
  by_cases h : p = 2
  · rw [if_pos h, Int.mul_emod, odd_sq8 (by rw [← h]; exact hw), Int.mul_one, Int.emod_emod_of_dvd _ (Int.dvd_refl _)]
  · rw [if_neg h]
    obtain ⟨q, rfl, h3, e⟩ := he.resolve_left h
    rw [sign_mul h3 e hp, sign_mul h3 e hp, rest_unit hw, Int.mul_one]
theorem strip_sq {p n m k u u' : Int} {s s' : Nat} (hp : PrP p) (hk : k ≠ 0) (e : n = m * (k * k)) (h : Strip n p s u) (h' : Strip m p s' u') : ∃ w : Int, w % p ≠ 0 ∧ u = u' * (w * w) ∧ s % 2 = s' % 2 := by
  obtain ⟨c, w, hw⟩ := strip_exists hk hp.1
  refine ⟨w, hw.2, ?_⟩
  have hs : Strip n p (s' + 2 * c) (u' * (w * w)) := by
    constructor
    · rw [e, h'.1, hw.1, Int.pow_add, Nat.two_mul, Int.pow_add]
      grind
    · intro z
      have d := Int.dvd_of_emod_eq_zero z
      rcases prime_mul hp d with d | d
      · exact h'.2 (Int.emod_eq_zero_of_dvd d)
      · rcases prime_mul hp d with d | d <;> exact hw.2 (Int.emod_eq_zero_of_dvd d)
  obtain ⟨e1, e2⟩ := strip_unique hp h hs
  exact ⟨e2, by omega⟩
theorem hsign_bare {a b a' b' p r : Int} (hp : PrP p) (he : p = 2 ∨ ∃ q : Nat, p = q ∧ 3 ≤ q ∧ euler q = true) (ha : ∃ k, k ≠ 0 ∧ a = a' * (k * k)) (hb : ∃ k, k ≠ 0 ∧ b = b' * (k * k)) (a0 : a' ≠ 0) (b0 : b' ≠ 0) (h : HSign a b p r) : HSign a' b' p r := by
  have p2 := hp.1
  rcases h with ⟨h0, _⟩ | ⟨h0, s, t, u, v, h1, h2, h3⟩
  · omega
  · obtain ⟨s', u', g1⟩ := strip_exists a0 p2
    obtain ⟨t', v', g2⟩ := strip_exists b0 p2
    obtain ⟨k, k0, e⟩ := ha
    obtain ⟨j, j0, f⟩ := hb
    obtain ⟨w, w0, w1, w2⟩ := strip_sq hp k0 e h1 g1
    obtain ⟨x, x0, x1, x2⟩ := strip_sq hp j0 f h2 g2
    refine .inr ⟨h0, s', t', u', v', g1, g2, ?_⟩
    rw [h3]
    exact sgn_congr w2 x2 (by rw [w1]; exact alike_sq hp he w0) (by rw [x1]; exact alike_sq hp he x0)
theorem rest_mod {n p : Int} (h : p ≠ 2) : restSign (n % p) p = restSign n p := by
  unfold restSign
  rw [Int.emod_emod_of_dvd _ (Int.dvd_refl p), if_neg h, if_neg h, pow_mod]
end Sf

namespace Sf
open PySem PySem.Spec PyProof.Rows L2
/-- the ascending places where the sign is -1 -/
def PlacesOf (a b : Int) (l : List Int) : Prop := l.Pairwise (· < ·) ∧ ∀ p : Int, p ∈ l ↔ (p = 0 ∨ PrP p) ∧ HSign a b p (-1)
theorem asc_unique : ∀ {l m : List Int}, l.Pairwise (· < ·) → m.Pairwise (· < ·) → (∀ x, x ∈ l ↔ x ∈ m) → l = m
  | [], [], _, _, _ => rfl
  | [], y :: m, _, _, h => absurd ((h y).mpr List.mem_cons_self) (by simp)
  | x :: l, [], _, _, h => absurd ((h x).mp List.mem_cons_self) (by simp)
  | x :: l, y :: m, h1, h2, h => by
    obtain ⟨a1, a2⟩ := List.pairwise_cons.mp h1
    obtain ⟨b1, b2⟩ := List.pairwise_cons.mp h2
    have e : x = y := by
      have c1 := (h x).mp List.mem_cons_self
      have c2 := (h y).mpr List.mem_cons_self
      rcases List.mem_cons.mp c1 with c1 | c1
      · exact c1
      · rcases List.mem_cons.mp c2 with c2 | c2
        · exact c2.symm
        · have := a1 y c2
          have := b1 x c1
          omega
    subst e
    rw [asc_unique a2 b2 fun z => ?_]
    constructor
    · intro hz
      rcases List.mem_cons.mp ((h z).mp (List.mem_cons_of_mem _ hz)) with e | e
      · have := a1 z hz
        omega
      · exact e
    · intro hz
      rcases List.mem_cons.mp ((h z).mpr (List.mem_cons_of_mem _ hz)) with e | e
      · have := b1 z hz
        omega
      · exact e
theorem places_unique {a b : Int} {l m : List Int} (h : PlacesOf a b l) (h' : PlacesOf a b m) : l = m := asc_unique h.1 h'.1 fun x => (h.2 x).trans (h'.2 x).symm
/-- at an odd prime that divides neither number the sign is 1 -/
theorem sign_far {a b p r : Int} (hp : PrP p) (h2 : p ≠ 2) (ha : a % p ≠ 0) (hb : b % p ≠ 0) (h : HSign a b p r) : r = 1 := by
  rcases h with ⟨h0, _⟩ | ⟨_, s, t, u, v, g1, g2, g3⟩
  · have := hp.1
    omega
  · have e1 := strip_unique hp g1 ⟨by rw [Int.pow_zero, Int.one_mul], ha⟩
    have e2 := strip_unique hp g2 ⟨by rw [Int.pow_zero, Int.one_mul], hb⟩
    rw [g3, e1.1, e2.1]
    unfold sgnAt
    rw [if_neg h2]
    rfl
theorem hsign_some {a b p : Int} (ha : a ≠ 0) (hb : b ≠ 0) (hp : p = 0 ∨ PrP p) : ∃ r, HSign a b p r := by
  rcases hp with e | hp
  · exact ⟨_, .inl ⟨e, rfl⟩⟩
  · obtain ⟨s, u, h1⟩ := strip_exists ha hp.1
    obtain ⟨t, v, h2⟩ := strip_exists hb hp.1
    have := hp.1
    exact ⟨_, .inr ⟨by omega, s, t, u, v, h1, h2, rfl⟩⟩
theorem abs_mod {n p : Int} (h : absI n % p = 0) : n % p = 0 := by
  unfold absI at h
  split at h
  · have d := Int.dvd_of_emod_eq_zero h
    exact Int.emod_eq_zero_of_dvd ((Int.dvd_neg).mp d)
  · exact h
theorem mod_abs {n p : Int} (h : n % p = 0) : absI n % p = 0 := by
  unfold absI
  split
  · exact Int.emod_eq_zero_of_dvd ((Int.dvd_neg).mpr (Int.dvd_of_emod_eq_zero h))
  · exact h
/-- a prime divides a number exactly if it is one of its factors -/
theorem fact_keys {n p : Int} {l : List (Int × Nat)} (h : FactOf n l) (hp : PrP p) : p ∈ l.map (·.1) ↔ n % p = 0 := by
  constructor
  · intro hm
    obtain ⟨q, hq, e⟩ := List.mem_map.mp hm
    subst e
    obtain ⟨i, hi, e⟩ := List.mem_iff_getElem.mp hq
    obtain ⟨k, hk⟩ : ∃ k, q.2 = k + 1 := ⟨q.2 - 1, by have := (h.2.2 q hq).2; omega⟩
    have : ∀ (l : List (Int × Nat)), q ∈ l → q.1 ∣ prodF l := fun l hl => by
      induction l with
      | nil => cases hl
      | cons x l ih =>
        show q.1 ∣ x.1 ^ x.2 * prodF l
        rcases List.mem_cons.mp hl with e | e
        · subst e
          rw [hk, Int.pow_succ, Int.mul_assoc]
          exact Int.dvd_trans (Int.dvd_mul_right _ _) (Int.dvd_mul_left _ _)
        · exact Int.dvd_trans (ih e) (Int.dvd_mul_left _ _)
    have d := this l hq
    rw [h.1] at d
    exact Int.emod_eq_zero_of_dvd d
  · intro hm
    have d := Int.dvd_of_emod_eq_zero hm
    rw [← h.1] at d
    obtain ⟨e, he⟩ := prime_prodF hp h.2.2 d
    exact List.mem_map.mpr ⟨_, he, rfl⟩
/-- the places out of 0 and the divisors -/
theorem places_of {a b : Int} {la lb : List (Int × Nat)} {D : List Int} (ha : a ≠ 0) (hb : b ≠ 0) (fa : FactOf (absI a) la) (fb : FactOf (absI b) lb) (hD : D.Pairwise (· < ·)) (hm : ∀ k, k ∈ D ↔ k ∈ 2 :: (la.map (·.1) ++ lb.map (·.1)))
    : (∀ k ∈ 0 :: D, k = 0 ∨ PrP k) ∧ ∀ {l : List Int} (hl : l.Sublist (0 :: D)) (hs : ∀ k, k ∈ l ↔ k ∈ 0 :: D ∧ HSign a b k (-1)), PlacesOf a b l := by
  have hP : ∀ k ∈ 0 :: D, k = 0 ∨ PrP k := fun k hk => by
    rcases List.mem_cons.mp hk with e | e
    · exact .inl e
    · rcases List.mem_cons.mp ((hm k).mp e) with e | e
      · exact .inr (e ▸ prp_of_trial (d := 2) (by decide) (by decide) (fun k a b => by omega) (by decide))
      · rcases List.mem_append.mp e with e | e
        · obtain ⟨q, hq, e⟩ := List.mem_map.mp e
          exact .inr (e ▸ (fa.2.2 q hq).1)
        · obtain ⟨q, hq, e⟩ := List.mem_map.mp e
          exact .inr (e ▸ (fb.2.2 q hq).1)
  refine ⟨hP, fun {l} hl hs => ⟨?_, fun p => ?_⟩⟩
  · refine List.Pairwise.sublist hl (List.pairwise_cons.mpr ⟨fun k hk => ?_, hD⟩)
    rcases List.mem_cons.mp ((hm k).mp hk) with e | e
    · omega
    · rcases hP k (List.mem_cons_of_mem _ hk) with e2 | e2
      · rcases List.mem_append.mp e with e | e
        · obtain ⟨q, hq, e⟩ := List.mem_map.mp e
          have := (fa.2.2 q hq).1.1
          omega
        · obtain ⟨q, hq, e⟩ := List.mem_map.mp e
          have := (fb.2.2 q hq).1.1
          omega
      · have := e2.1
        omega
  · rw [hs]
    constructor
    · rintro ⟨h1, h2⟩
      exact ⟨hP p h1, h2⟩
    · rintro ⟨h1, h2⟩
      refine ⟨?_, h2⟩
      rcases h1 with e | hp
      · rw [e]
        exact List.mem_cons_self
      · by_cases c : p ∈ D
        · exact List.mem_cons_of_mem _ c
        · exfalso
          rw [hm, List.mem_cons, List.mem_append, fact_keys fa hp, fact_keys fb hp] at c
          have n2 : p ≠ 2 := fun z => c (.inl z)
          have := sign_far hp n2 (fun z => c (.inr (.inl (mod_abs z)))) (fun z => c (.inr (.inr (mod_abs z)))) h2
          exact absurd this (by decide)
end Sf

namespace Sf
open PySem PySem.Spec PyProof.Rows L2
section
variable {P : Program} {w : World} {A : Around} {E : Value → Shared → Prop} {s : Shared}
/-- a set that is just made -/
abbrev nso (w : World) : Obj := { cls := .type "set", dict := none, data := .set #[] 0 (.fresh 0 0 (!w.params.followText "set-order")) }
abbrev nsh (w : World) (s : Shared) : Heap := s.heap.push (nso w)
/-- the first half: the set's loop over a list of ints -/
theorem set_loop {l : Addr} {its : Array Value} (ns : List Int) (hh : A.handled = none) (hl : s.heap.IsList l its) (hi : IntsAre its.toList ns) (hb : ns.length + 1 < scanBound)
    {R : Result → Shared → Prop} (hR : ∀ (h' : Heap) (tk c : Nat), SetR w h' s.heap.objs.size (fun j => decide (j ∈ ns)) c → c ≤ ns.length → (∀ b o, s.heap.get? b = some o → h'.get? b = some o) → R (.ok (.ret .none)) { s with heap := h', toks := tk }) :
    codeAny (model P w) A (.builtin "set.update.loop" ⟨[.ref s.heap.objs.size, .ref (nsh w s).objs.size], []⟩) R { s with heap := (nsh w s).push { cls := .type "list_iterator", data := .fields #[.ref l, .int 0 0] } } := by
  have sz : its.size = ns.length := (Array.length_toList (xs := its)).symm.trans (IntsAre.length hi)
  obtain ⟨ol, ho, r⟩ := hl
  have lt : l < s.heap.objs.size := Heap.lt_size ho
  have e1 : (nsh w s).objs.size = s.heap.objs.size + 1 := Heap.size_push ..
  have n1 : l ≠ (nsh w s).objs.size := by rw [e1]; exact Nat.ne_of_lt (Nat.lt_succ_of_lt lt)
  have n2 : ¬ s.heap.objs.size ∈ [(nsh w s).objs.size, l] := by
    rw [e1]
    intro z
    rcases List.mem_cons.mp z with z | z
    · exact absurd z (Nat.ne_of_lt (Nat.lt_succ_self _))
    · exact absurd (List.mem_singleton.mp z) (Nat.ne_of_gt lt)
  have isl : (nsh w s).IsList l its := ⟨ol, Heap.get?_push_of_some _ ho, r⟩
  have hA : A.in1.handled = none := by simp [hh]
  refine set_update_ints ((Walks.list hA _ l n1 its).toS) s.heap.objs.size n2 ns sz hb (fun i v hv => ?_) (its.size - 0) 0 _ rfl (Nat.zero_le _) ⟨⟨_, Heap.get?_push_size _ rfl, rfl, rfl⟩, isl.push _⟩ ?_ fun t c hm hc hS => ?_
  · have hlt : i < ns.length := sz ▸ (Array.getElem?_eq_some_iff.mp hv).1
    obtain ⟨t, e⟩ := IntsAre.int_at hi i v (by rw [Array.getElem?_toList]; exact hv)
    exact ⟨ns[i], t, List.getElem?_eq_getElem hlt, by rw [e, List.getD_eq_getElem?_getD, List.getElem?_eq_getElem hlt] <;> rfl⟩
  · refine ⟨0, Nat.le_refl 0, setR_new_at ?_⟩
    exact Heap.get?_push_of_some _ (Heap.get?_push_size _ rfl)
  · obtain ⟨h', g', d', t', o'⟩ := t
    cases (show g' = s.gens from hm.gens)
    cases (show d' = s.drawn from hm.drawn)
    cases (show o' = s.os from hm.os)
    refine hR h' t' c hS (sz ▸ hc) fun b o e => ?_
    have hb0 : b < s.heap.objs.size := Heap.lt_size e
    refine hm.heap b o (fun z => ?_) (Heap.get?_push_of_some _ (Heap.get?_push_of_some _ e))
    rcases List.mem_cons.mp z with z | z
    · exact absurd z (Nat.ne_of_lt hb0)
    · exact absurd ((List.mem_singleton.mp z).trans e1) (Nat.ne_of_lt (Nat.lt_succ_of_lt hb0))
set_option maxHeartbeats 8000000 in
theorem set_init {l : Addr} {its : Array Value} (ns : List Int) (hh : A.handled = none) (hl : s.heap.IsList l its) (hi : IntsAre its.toList ns) (hb : ns.length + 1 < scanBound) :
    codeAny (model P w) A (.call (.builtin "set.__init__") ⟨[.ref s.heap.objs.size, .ref l], []⟩) (wants (fun r t => r = .none ∧ ∃ h' tk c, t = { s with heap := h', toks := tk } ∧ SetR w h' s.heap.objs.size (fun j => decide (j ∈ ns)) c ∧ c ≤ ns.length ∧
      (∀ b o, s.heap.get? b = some o → h'.get? b = some o)) E) { s with heap := nsh w s } := by
  have hS : (nsh w s).get? s.heap.objs.size = some (nso w) := Heap.get?_push_size _ rfl
  have hT : Shared.TypeIs { s with heap := nsh w s } (.ref s.heap.objs.size) "set" := ⟨_, hS, rfl⟩
  refine codeAny_call_builtin F.called_set.init.plain F.entry_set_init (check_set_init_1 hT ?_)
  obtain ⟨⟨oc, odct, odat, osl⟩, ho, hc, n0, hd⟩ := hl
  cases hc
  cases hd
  have ho' : (nsh w s).get? l = some { cls := .type "list", dict := odct, data := .seq its n0, slots := osl } := Heap.get?_push_of_some _ ho
  have isl : (nsh w s).IsList l its := ⟨_, ho', rfl, n0, rfl⟩
  have g1 := F.sub_list_set
  have g2 := F.sub_list_frozenset
  have g3 : (Value.type "list" == Value.type "dict") = false := by decide
  unfold Builtin.«set.__init__» noKeywords Builtin.Frozenset.updateFrom
  generalize hPI : pyIter = it
  wp_walk
  subst hPI
  refine wpAny_pyIter_list isl ?_
  refine wpAny_bind (wpAny_runValue (set_loop (A := A.in1) ns (by simp [hh]) ⟨_, ho, rfl, n0, rfl⟩ hi hb fun h' tk c a b k => ?_))
  exact wpAny_pure (wpAny_pure ⟨rfl, h', tk, c, rfl, a, b, k⟩)
end
end Sf
namespace Sf
open PySem PySem.Spec PyProof.Rows L2
section
variable {P : Program} {w : World} {A : Around} {E : Value → Shared → Prop} {s : Shared}
set_option maxHeartbeats 8000000 in
theorem set_call {l : Addr} {its : Array Value} (ns : List Int) {Q : Value → Shared → Prop} (hh : A.handled = none) (hl : s.heap.IsList l its) (hi : IntsAre its.toList ns) (hb : ns.length + 1 < scanBound)
    (h : ∀ (h' : Heap) (tk c : Nat), SetR w h' s.heap.objs.size (fun j => decide (j ∈ ns)) c → c ≤ ns.length → (∀ b o, s.heap.get? b = some o → h'.get? b = some o) → Q (.ref s.heap.objs.size) { s with heap := h', toks := tk }) :
    wpAny (model P w) A (call (.type "set") [.ref l]) Q E s := by
  obtain ⟨c, tl, g0⟩ := F.called_set.mro
  have g1 := F.called_set.made
  have g2 := F.called_set.sub
  have g3 := F.called_set.notType
  have g4 := F.called_set.canCreate
  have g5 := F.typeCall_set_1 (.ref l)
  have g6 := F.called_set.init.lookup
  refine wpAny_call (codeAny_of_tree ?_)
  show wpAny _ _ (callAny (.type "set") _) _ _ _
  refine wpAny_pure ⟨Code.quiet_builtin _ (by decide +kernel), codeAny_builtin F.entry_type_call ?_⟩
  rw [Around.under_plain (weight_type_call_type "set" [.ref l] []) rfl]
  repeat (any_goals (first | assumption | wp_step))
  refine codeAny_mono (code_set_led1 (.ref l) (E := E) (Q₁ := fun ob t => ob = .ref s.heap.objs.size ∧ t = { s with heap := nsh w s }) ⟨rfl, rfl⟩) fun r t hr => ?_
  cases r with
  | error e => exact hr
  | ok fl =>
    cases fl with
    | ret ob =>
      obtain ⟨rfl, rfl⟩ := hr
      have hT : Shared.TypeIs { s with heap := nsh w s } (.ref s.heap.objs.size) "set" := ⟨_, Heap.get?_push_size _ rfl, rfl⟩
      have g7 := F.called_set.init.bind (.ref s.heap.objs.size)
      repeat (any_goals (first | assumption | wp_step))
      refine codeAny_mono (set_init (E := E) ns (by simp [hh]) hl hi hb) fun r t hr => ?_
      cases r with
      | error e => exact hr
      | ok fl =>
        cases fl with
        | ret v =>
          obtain ⟨rfl, h', tk, c', rfl, a1, a2, a3⟩ := hr
          repeat (any_goals (first | assumption | wp_step))
          exact h _ _ _ a1 a2 a3
        | _ => exact hr.elim
    | _ => exact hr.elim
end
section
variable {X : Cx} {e : Expr} {es : List Expr} {te : TE} {t : TA} {p : Pos}
/-- set(xs), xs a list of ints -/
def rSetL (K : PySem.W.Frag) (w : World) : List V → Hp → VK → Prop := fun xs H Q => ∃ (a : Addr) (ns : List Int), xs = [.ref a] ∧ SqL K H a (ns.map V.int) ∧ ns.length ≤ 1000 ∧ ∀ (q : Addr) (n : Nat), n ≤ ns.length → H q = none → Q (.ref q) (upd H q (SetO w q (fun j => decide (j ∈ ns)) n))
theorem cr_setL (hc : X.calm = true) : CallR X (.type "set") (rSetL X.K X.w) := by
  intro pins s σ H xs us Q I r h
  obtain ⟨a, ns, rfl, hs, hz, q⟩ := h
  obtain ⟨its, rv, pl, _⟩ := I.list hs
  rw [Vals.ref1 r]
  refine set_call ns (I.ok.hd hc) pl.isList (by simpa using rv.ints) (by unfold scanBound; omega) fun h' tk c R hcn k => ?_
  exact ⟨.ref _, upd H s.heap.objs.size (SetO X.w s.heap.objs.size (fun j => decide (j ∈ ns)) c), I.laid (t' := tk) k (Nat.le_refl _) (setO_new R), rfl, q _ c hcn (I.hok.fresh (Nat.le_refl _))⟩
/-- *d in a display, d a dict -/
theorem star_dict {pins : List (Addr × Obj)} {σ : L2.St} {H : Hp} {s : Shared} {a : Addr} {kvs : List (Key × V)} {E : Value → Shared → Prop} {Q : List Value → Shared → Prop} (hc : X.calm = true) (I : Inv X pins σ H s) (h : Rd H a (.dK kvs))
    (hQ : ∀ us s', Inv X pins σ H s' → Vals (kvs.map fun kv => kV kv.1) us → Q us s') : PySem.W.StarOf (model X.prog X.w) X.A E (.ref a) Q s := by
  obtain ⟨z, lo, vs, rel, dd⟩ := dk_rd I.hok h
  obtain ⟨ep, hat⟩ := dd.dictAt
  have ek : (kvs.map fun kv => kV kv.1) = vs.map fun p => kV p.1 := by
    have e := congrArg (List.map kV) rel.keys
    rw [List.map_map, List.map_map] at e
    exact e
  have z : wpAny (model X.prog X.w) X.A (collect (.ref a)) Q E s := by
    refine PySem.W.kdu_collect (A := X.A) (PySem.W.kdl_dict (knd := mixKind X.prog X.w) (kvs := vs) (ep := ep) lo) (I.ok.hd hc) hat (by rw [← rel.length]; exact z) fun h' tk acc hk hacc => ?_
    refine hQ _ _ (I.kept (t' := tk) hk) ?_
    rw [ek]
    exact keys_at (by rw [Array.length_toList]; exact hacc.1) fun j v e => hacc.2 j v (by rw [← Array.getElem?_toList]; exact e)
  unfold PySem.W.StarOf notIterableAtAll
  exact wpAny_bind (wpAny_specialOf dd.typeIs PySem.F.slot_dict_iter.lookup (wpAny_pure ⟨rfl, z⟩))
def tStarD (te : TE) (t : TA) : TA := fun σ H Q => te σ H fun x H1 => ∃ p kvs, x = V.ref p ∧ Rd H1 p (.dK kvs) ∧ t σ H1 fun ys H2 => Q ((kvs.map fun kv => kV kv.1) ++ ys) H2
theorem pa_starD (hc : X.calm = true) (he : PE X e te) (hr : PA X es t) (hs : starEach (.Starred e p :: es) X.env = (true, eval e X.env) :: starEach es X.env := by rfl) : PA X (.Starred e p :: es) (tStarD te t) :=
  ⟨fun pos pins s σ H Q I h => PySem.W.items_star (thn (he.run pins s σ H _ I h) fun v s1 ⟨y, H1, I1, ry, a, kvs, ey, hx, q⟩ => by
    subst ey
    cases (show v = Value.ref a from ry)
    exact star_dict hc I1 hx fun us s2 I2 rv => thn (hr.run pos pins s2 σ H1 _ I2 q) fun ws s3 ⟨vs, H3, I3, r3, q3⟩ => ⟨_, H3, I3, rv.append r3, q3⟩) hs⟩
end
end Sf

namespace Sf
open PySem PySem.Spec PyProof.Rows L2
section
variable {P : Program} {w : World} {K : PySem.W.Frag} {mg : Str → Option Value} {base : Heap} {f : Addr} {fd : FuncData}
theorem keys_ints (l : List (Int × Nat)) : ((kvsF l).map fun kv => kV kv.1) = (l.map (·.1)).map V.int := by
  unfold kvsF
  rw [List.map_map, List.map_map]
  rfl
structure PlacesP (vs : List V) (H : Hp) (Q : VK) : Prop where
  ex : ∃ a b : Int, vs = [.int a, .int b] ∧ a ≠ 0 ∧ b ≠ 0 ∧ a.natAbs ≤ 1000000000 ∧ b.natAbs ≤ 1000000000 ∧ ∀ (l : List Int) (p : Addr) (H' : Hp), PlacesOf a b l → l.length ≤ 62 → Same H H' → H p = none → H' p = some (.tup (l.map V.int)) → Q (.ref p) H'
def spPlaces : Sp := fun vs H Q _ => PlacesP vs H Q
theorem ok_signed_places (F : FnD K "signed_places" "signed_places" s_P_signed_places f fd) (T : Glob mg) (C_P_check_number : Cal P w K mg base 2 "check_number" ["value"] spCheckNumber) (C_P_factors : Cal P w K mg base 3 "factors" ["number"] spFactors) (C_P_sign : Cal P w K mg base 4 "sign" ["a", "b", "place"] spSign) :
    FnOk P w K mg base CX0 5 f fd ["a", "b"] spPlaces := by
  refine F.ok sc_P_signed_places (fun vs H Q E h => ?_) (fun cdv A outer s H vs Q E hr h => ?_)
  · obtain ⟨a, b, rfl, _⟩ := h.ex; rfl
  · obtain ⟨a, b, rfl, a0, b0, a1, b1, q⟩ := h.ex
    have hu := hu_of hr
    refine ⟨_, PSs.nox (pss_cons (ps_expr (pe_cal C_P_check_number (hr.mono (by decide)) (pa_cons (pv 0) pa_nil)))
      (pss_cons (ps_expr (pe_cal C_P_check_number (hr.mono (by decide)) (pa_cons (pv 1) pa_nil)))
      (pss_cons (ps_set (i := 2) sc_P_signed_places.nd rfl (Or.inl rfl) (pe_callB (cr_sortedSet rfl) (by rfl) T.m_sorted (by decide +kernel) (pa_cons (pe_callTy (cr_setL rfl) (by rfl) T.m_set (by decide +kernel) (pa_cons (pe_lst (pa_cons pe_int (pa_starD rfl (pe_cal C_P_factors (hr.mono (by decide)) (pa_cons (pv 0) pa_nil)) (pa_starD rfl (pe_cal C_P_factors (hr.mono (by decide)) (pa_cons (pv 1) pa_nil)) pa_nil)))) pa_nil)) pa_nil)))
      (pss_one (ps_ret (pe_callTy call_tuple_of (by rfl) T.m_tuple (by decide +kernel) (pa_cons (pe_lc rfl sc_P_signed_places.nd (own := [("place", 3)]) (pi_list (pe_lst (pa_cons pe_int (StX.pa_star (pv 2) pa_nil)))) (blkOk_by (N := ["a", "b", "divisors", "place"]) (sc := defScope s_P_signed_places) (by decide +kernel)) (fun _ _ _ _ _ => pg_name (i := 3) sc_P_signed_places.nd rfl (Or.inl rfl)) (fun _ _ _ _ _ => pts_one (pt_cmp (pc_eqI (pe_cal C_P_sign (hr.mono (by decide)) (pa_cons (pv 0) (pa_cons (pv 1) (pa_cons (pv 3) pa_nil)))) (pe_un un_neg pe_int)))) (fun _ _ _ _ _ => (pv 3))) pa_nil))))))), ?_⟩
    refine ⟨_, rfl, a, rfl, a0, by omega, by omega, _, rfl, b, rfl, b0, by omega, by omega, ?_⟩
    refine ⟨_, rfl, a, rfl, a0, by omega, by omega, fun la da H1 fa e1 na hda => ⟨da, kvsF la, rfl, .inl hda, ?_⟩⟩
    refine ⟨_, rfl, b, rfl, b0, by omega, by omega, fun lb db H2 fb e2 nb hdb => ⟨db, kvsF lb, rfl, .inl hdb, ?_⟩⟩
    have A2 : absI a ≤ 1000000000 := by unfold absI; split <;> omega
    have B2 : absI b ≤ 1000000000 := by unfold absI; split <;> omega
    have hla := fact_len fa A2
    have hlb := fact_len fb B2
    generalize hns : (2 : Int) :: (la.map (·.1) ++ lb.map (·.1)) = ns
    have hlen : ns.length ≤ 61 := by
      rw [← hns, List.length_cons, List.length_append, List.length_map, List.length_map]
      omega
    have hitems : V.int 2 :: ((kvsF la).map (fun kv => kV kv.1) ++ ((kvsF lb).map (fun kv => kV kv.1) ++ [])) = ns.map V.int := by
      rw [← hns, keys_ints, keys_ints, List.append_nil, List.map_cons, List.map_append]
    refine ⟨?_, fun x hx => ?_⟩
    · show (V.int 2 :: ((kvsF la).map (fun kv => kV kv.1) ++ ((kvsF lb).map (fun kv => kV kv.1) ++ []))).length ≤ sizeLine
      rw [hitems, List.length_map]
      exact Nat.le_trans hlen (by decide)
    refine ⟨x, ns, rfl, SqL.of ?_, by omega, fun y n hn hy => ?_⟩
    · rw [upd_same, ← hitems]
    refine ⟨y, _, n, rfl, upd_same, by omega, fun D z hD hm hDl hz => ?_⟩
    have hP0 := places_of (D := D) a0 b0 fa fb hD (fun k => (hm k).trans (by rw [← hns]; exact decide_eq_true_iff))
    have eH : Same H (upd (upd (upd H2 x (.lst (V.int 2 :: ((kvsF la).map (fun kv => kV kv.1) ++ ((kvsF lb).map (fun kv => kV kv.1) ++ []))))) y (SetO w y (fun j => decide (j ∈ ns)) n)) z (.lst (D.map V.int))) :=
      (((e1.trans e2).trans (same_upd hx)).trans (same_upd hy)).trans (same_upd hz)
    refine ⟨_, rfl, z, _, rfl, .inr (SqL.of upd_same), ?_, fun c hc => ?_⟩
    · refine Nat.le_trans (?_ : _ ≤ 70) (by decide)
      show (V.int 0 :: (D.map V.int ++ [])).length ≤ 70
      rw [List.append_nil, List.length_cons, List.length_map]
      omega
    have eL : V.int 0 :: (D.map V.int ++ []) = (0 :: D).map V.int := by rw [List.append_nil]; rfl
    rw [eL]
    have eH2 := eH.trans (same_upd (o := .lst ((0 :: D).map V.int)) hc)
    refine ⟨c, rfl, ⟨_, SqL.of upd_same⟩, fun d hd => ?_⟩
    have hdH : H d = none := eH2.free hd
    have ncd : c ≠ d := fun z => by
      rw [← z, upd_same] at hd
      cases hd
    refine lc_list (K := K) (a := c) (xs := (0 :: D).map V.int) (fun i H' => Same H H' ∧ SqL K H' c ((0 :: D).map V.int) ∧ ∃ m : List Int, H' d = some (.lst (m.map V.int)) ∧ m.Sublist ((0 :: D).take i) ∧ ∀ k, k ∈ m ↔ k ∈ (0 :: D).take i ∧ HSign a b k (-1)) ⟨eH2.trans (same_upd hd), sq_upd (SqL.of upd_same) ncd, [], upd_same, List.Sublist.refl _, fun k => ⟨fun z => (by cases z), fun z => absurd z.1 (by simp)⟩⟩ (fun i H' _ hp => hp.2.1) (fun i v H' hv hp => ?_) (fun H' hp => ?_)
    · obtain ⟨e5, hL, m, hmd, msub, hmm⟩ := hp
      obtain ⟨k, hk, rfl⟩ : ∃ k, (0 :: D)[i]? = some k ∧ v = V.int k := by
        rw [List.getElem?_map] at hv
        cases e : (0 :: D)[i]? with
        | none => rw [e] at hv; cases hv
        | some z => rw [e] at hv; exact ⟨z, rfl, (Option.some.inj hv).symm⟩
      have kP := hP0.1 k (List.mem_of_getElem? hk)
      have kB : k ≤ 1000000000 := by
        rcases List.mem_cons.mp (List.mem_of_getElem? hk) with e | e
        · omega
        · have e := (hm k).mp e
          rw [decide_eq_true_iff, ← hns] at e
          rcases List.mem_cons.mp e with e | e
          · omega
          · rcases List.mem_append.mp e with e | e
            · obtain ⟨r, hr, rfl⟩ := List.mem_map.mp e
              have := prodF_mem fa.2.2 r hr
              rw [fa.1] at this
              omega
            · obtain ⟨r, hr, rfl⟩ := List.mem_map.mp e
              have := prodF_mem fb.2.2 r hr
              rw [fb.1] at this
              omega
      have et : (0 :: D).take (i + 1) = (0 :: D).take i ++ [k] := by rw [List.take_add_one, hk]; rfl
      refine ⟨rfl, ⟨_, rfl, _, rfl, _, rfl, ⟨a, b, k, rfl, a0, b0, a1, b1, kP.imp id fun z => ⟨z, kB⟩, fun r H6 hr e6 => ?_⟩⟩⟩
      refine ⟨1, rfl, _, _, rfl, rfl, _, rfl, ifd (fun h => ?_) (fun h => ?_)⟩
      · have h : r = -1 := h
        subst h
        refine ⟨_, rfl, m.map V.int, e6 _ _ hmd, ?_, ?_, sq_upd (e6.seq hL) ncd, m ++ [k], ?_, ?_, fun j => ?_⟩
        · rw [List.length_map]
          have := msub.length_le
          rw [List.length_take, List.length_cons] at this
          exact Nat.lt_of_le_of_lt (by omega : m.length ≤ 70) (by decide)
        · intro b' o e
          rw [upd_ne (ne_of_none e hdH)]
          exact e6 _ _ (e5 _ _ e)
        · rw [upd_same, List.map_append]; rfl
        · rw [et]
          exact msub.append (List.Sublist.refl _)
        · rw [et, List.mem_append, List.mem_append, hmm, List.mem_singleton]
          constructor
          · rintro (h | h)
            · exact ⟨.inl h.1, h.2⟩
            · exact ⟨.inr h, h ▸ hr⟩
          · rintro ⟨h | h, h2⟩
            · exact .inl ⟨h, h2⟩
            · exact .inr h
      · refine ⟨e5.trans e6, e6.seq hL, m, e6 _ _ hmd, ?_, fun j => ?_⟩
        · rw [et]
          exact msub.trans (List.sublist_append_left _ _)
        · rw [et, List.mem_append, hmm, List.mem_singleton]
          constructor
          · rintro h
            exact ⟨.inl h.1, h.2⟩
          · rintro ⟨h1 | h1, h2⟩
            · exact ⟨h1, h2⟩
            · subst h1
              exact absurd (hsign_unique kP hr h2) h
    · obtain ⟨e5, hL, m, hmd, msub, hmm⟩ := hp
      rw [List.length_map, List.take_length] at msub hmm
      refine ⟨d, m.map V.int, rfl, .inl ⟨SqL.of hmd, fun t ht => ?_⟩⟩
      have hl := hP0.2 msub hmm
      have ml := msub.length_le
      rw [List.length_cons] at ml
      exact q m t _ hl (by omega) (e5.trans (same_upd ht)) (e5.free ht) upd_same
end
end Sf

namespace Sf
open PySem PySem.Spec PyProof.Rows L2
section
variable {X : Cx} {CX : CXT} {n : Nat} {f C : Addr} {fd : FuncData} {ps : List Str} {sp : Sp} {E : XK} {op : Operator}
/-- no value of ours stands for "not implemented" -/
theorem cmpBack {v : V} {u : Value} {s : Shared} {Q : Value → Shared → Prop} (r : RelV v u) (q : Q u s) : PySem.W.CmpBack Q u s := by
  cases v with
  | non => cases (show u = Value.none from r); exact q
  | bl b => cases (show u = Value.bool b from r); exact q
  | int i => obtain ⟨t, rfl⟩ := (show ∃ t, u = Value.int i t from r); exact q
  | str x => obtain ⟨t, rfl⟩ := (show ∃ t, u = Value.str x t from r); exact q
  | byt b => obtain ⟨t, rfl⟩ := (show ∃ t, u = Value.bytes b t from r); exact q
  | flt b => obtain ⟨t, rfl⟩ := (show ∃ t, u = Value.float b t from r); exact q
  | ref a => cases (show u = Value.ref a from r); exact q
  | ty t => cases (show u = Value.type t from r); exact q
/-- an instance of the class at C -/
def Ins (H : Hp) (a C : Addr) : Prop := ∃ dx fs, H a = some (.ins C dx fs)
theorem ins_inst {pins : List (Addr × Obj)} {σ : L2.St} {H : Hp} {s : Shared} {a : Addr} (I : Inv X pins σ H s) (h : Ins H a C) : ∃ (ox : Obj) (od : Obj), PySem.W.InstAt s.heap a ox C (some od) := by
  obtain ⟨dx, fs, ea⟩ := h
  obtain ⟨mA, O, _⟩ := ins_get I.hok ea
  obtain ⟨od, J, _⟩ := O.look
  exact ⟨_, od, J⟩
/-- x op y, both of one own class that says what op is -/
def rOwn (C : Addr) (sp : Sp) (E : XK) : R2 := fun x y H Q => ∃ a b, x = .ref a ∧ y = .ref b ∧ Ins H a C ∧ Ins H b C ∧ sp [.ref a, .ref b] H Q E
theorem op_own (M : Meth X.K C (PySem.dunder op.info.2) f) (F : FnOk X.prog X.w X.K X.mg X.base CX n f fd ps sp) (hr : Room n X.A) (hb : Binds X.K fd ps []) (hx : Passes CX X E) (hc : PySem.W.selfFirst X.K C = true) : OpR X (binaryOp op) (rOwn C sp E) := by
  intro pins s σ H x y v u Q I rx ry h
  obtain ⟨a, b, rfl, rfl, ha, hb', q⟩ := h
  cases (show v = Value.ref a from rx)
  cases (show u = Value.ref b from ry)
  obtain ⟨ox, od, J⟩ := ins_inst I ha
  obtain ⟨oy, oe, J'⟩ := ins_inst I hb'
  obtain ⟨m, hF⟩ := I.fr
  refine PySem.W.binop_K hF I.ok.mod.kin J J'.type hc M.at_ M.fn (wpAny_mono (run_fn (us := [.ref a, .ref b]) (vs := [.ref a, .ref b]) F hr hb .nil hx I (.cons rfl (.cons rfl .nil)) q) (fun w s' h => ?_) fun _ _ z => z)
  obtain ⟨z, H', I', rz, qz⟩ := id h
  exact cmpBack rz h
/-- x op n, n an int -/
def rOwnI (C : Addr) (sp : Sp) (E : XK) : R2 := fun x y H Q => ∃ a i, x = .ref a ∧ y = .int i ∧ Ins H a C ∧ sp [.ref a, .int i] H Q E
theorem op_ownI {fo ro : Option Value} (M : Meth X.K C (PySem.dunder op.info.2) f) (F : FnOk X.prog X.w X.K X.mg X.base CX n f fd ps sp) (hr : Room n X.A) (hb : Binds X.K fd ps []) (hx : Passes CX X E) (hc : PySem.W.selfFirst X.K C = true)
    (nr : NoAttr X.K C (dunderR op.info.2)) (hsub : PySem.W.subIn X.K (.type "int") (.ref C) = some false) (h1 : PySem.W.findIn X.K (.type "int") (PySem.dunder op.info.2) = some fo) (h2 : PySem.W.findIn X.K (.type "int") (dunderR op.info.2) = some ro) :
    OpR X (binaryOp op) (rOwnI C sp E) := by
  intro pins s σ H x y v u Q I rx ry h
  obtain ⟨a, i, rfl, rfl, ha, q⟩ := h
  cases (show v = Value.ref a from rx)
  obtain ⟨t, rfl⟩ := (show ∃ t, u = Value.int i t from ry)
  obtain ⟨ox, od, J⟩ := ins_inst I ha
  obtain ⟨m, hF⟩ := I.fr
  refine PySem.W.ksp_binT (T := "int") hF I.ok.mod.kin J rfl hc M.at_ M.fn nr (.inl rfl) h1 h2 hsub (wpAny_mono (run_fn (us := [.ref a, .int i t]) (vs := [.ref a, .int i]) F hr hb .nil hx I (.cons rfl (.cons ⟨t, rfl⟩ .nil)) q) (fun w s' h => ?_) fun _ _ z => z)
  obtain ⟨z, H', I', rz, qz⟩ := id h
  exact cmpBack rz h
/-- -x -/
def rOwn1 (C : Addr) (sp : Sp) (E : XK) : V → Hp → VK → Prop := fun x H Q => ∃ a, x = .ref a ∧ Ins H a C ∧ sp [.ref a] H Q E
theorem un_own (M : Meth X.K C "__neg__" f) (F : FnOk X.prog X.w X.K X.mg X.base CX n f fd ps sp) (hr : Room n X.A) (hb : Binds X.K fd ps []) (hx : Passes CX X E) : UnR X (unaryOp .USub) (rOwn1 C sp E) := by
  intro pins s σ H x v Q I rx h
  obtain ⟨a, rfl, ha, q⟩ := h
  cases (show v = Value.ref a from rx)
  obtain ⟨ox, od, J⟩ := ins_inst I ha
  obtain ⟨m, hF⟩ := I.fr
  exact PySem.W.ksp_neg hF I.ok.mod.kin J M.at_ M.fn (run_fn (us := [.ref a]) (vs := [.ref a]) F hr hb .nil hx I (.cons rfl .nil) q)
/-- the truth of an own object -/
theorem tru_own (M : Meth X.K C "__bool__" f) (F : FnOk X.prog X.w X.K X.mg X.base CX n f fd ps sp) (hr : Room n X.A) (hb : Binds X.K fd ps []) (hx : Passes CX X E) :
    TruR X (fun x H Q => ∃ a, x = .ref a ∧ Ins H a C ∧ sp [.ref a] H (fun v H' => ∃ k, v = .bl k ∧ Q k H') E) := by
  intro pins s σ H x v Q I rx h
  obtain ⟨a, rfl, ha, q⟩ := h
  cases (show v = Value.ref a from rx)
  obtain ⟨ox, od, J⟩ := ins_inst I ha
  obtain ⟨m, hF⟩ := I.fr
  refine PySem.W.truthy_K hF I.ok.mod.kin J M.at_ M.fn (wpAny_mono (run_fn (us := [.ref a]) (vs := [.ref a]) F hr hb .nil hx I (.cons rfl .nil) q) (fun w s' h => ?_) fun _ _ z => z)
  obtain ⟨z, H', I', rz, k, rfl, qz⟩ := h
  cases (show w = Value.bool k from rz)
  exact ⟨H', I', qz⟩
/-- x == y by an own __eq__, y of the same class -/
theorem eq_own (M : Meth X.K C "__eq__" f) (F : FnOk X.prog X.w X.K X.mg X.base CX n f fd ps sp) (hr : Room n X.A) (hb : Binds X.K fd ps []) (hx : Passes CX X E) : OpR X (compareOp .Eq) (rOwn C sp E) := by
  intro pins s σ H x y v u Q I rx ry h
  obtain ⟨a, b, rfl, rfl, ha, hb', q⟩ := h
  cases (show v = Value.ref a from rx)
  cases (show u = Value.ref b from ry)
  obtain ⟨ox, od, J⟩ := ins_inst I ha
  obtain ⟨oy, oe, J'⟩ := ins_inst I hb'
  obtain ⟨m, hF⟩ := I.fr
  show wpAny (model X.prog X.w) X.A (richCompare .Eq _ _) (EP X pins σ Q) X.xe s
  refine PySem.W.cmp_K (op := .Eq) (tb := .ref C) hr.units0 hF I.ok.mod.kin J J'.type (by simp [PySem.W.notFirst]) M.at_ M.fn (wpAny_mono (run_fn (us := [.ref a, .ref b]) (vs := [.ref a, .ref b]) F hr hb .nil hx I (.cons rfl (.cons rfl .nil)) q) (fun w s' h => ?_) fun _ _ z => z)
  obtain ⟨z, H', I', rz, qz⟩ := id h
  exact cmpBack rz h
/-- x == n by an own __eq__, n an int -/
theorem eq_ownI (M : Meth X.K C "__eq__" f) (F : FnOk X.prog X.w X.K X.mg X.base CX n f fd ps sp) (hr : Room n X.A) (hb : Binds X.K fd ps []) (hx : Passes CX X E) (hsub : PySem.W.subIn X.K (.type "int") (.ref C) = some false) : OpR X (compareOp .Eq) (rOwnI C sp E) := by
  intro pins s σ H x y v u Q I rx ry h
  obtain ⟨a, i, rfl, rfl, ha, q⟩ := h
  cases (show v = Value.ref a from rx)
  obtain ⟨t, rfl⟩ := (show ∃ t, u = Value.int i t from ry)
  obtain ⟨ox, od, J⟩ := ins_inst I ha
  obtain ⟨m, hF⟩ := I.fr
  show wpAny (model X.prog X.w) X.A (richCompare .Eq _ _) (EP X pins σ Q) X.xe s
  refine PySem.W.cmp_K (op := .Eq) (tb := .type "int") hr.units0 hF I.ok.mod.kin J (PySem.W.Looks.of_pure rfl) (by unfold PySem.W.notFirst; rw [hsub]; simp) M.at_ M.fn (wpAny_mono (run_fn (us := [.ref a, .int i t]) (vs := [.ref a, .int i]) F hr hb .nil hx I (.cons rfl (.cons ⟨t, rfl⟩ .nil)) q) (fun w s' h => ?_) fun _ _ z => z)
  obtain ⟨z, H', I', rz, qz⟩ := id h
  exact cmpBack rz h
/-- a def called somewhere below the running body -/
theorem run_sub {A : Around} {pins : List (Addr × Obj)} {σ : L2.St} {H : Hp} {s : Shared} {Q : VK} {us : List Value} {vs : List V} (F : FnOk X.prog X.w X.K X.mg X.base CX n f fd ps sp) (sb : Sub X n A) (hb : Binds X.K fd ps []) (hx : Passes CX X E)
    (I : Inv X pins σ H s) (r : Vals vs us) (h : sp vs H Q E) : wpAny (model X.prog X.w) A (call (.ref f) us) (EP X pins σ Q) X.xe s := by
  have e0 : Env0 X.prog X.w X.K X.mg X.base A X.stack s H := by
    have e := I.env0
    exact ⟨by rw [sb.fr]; exact e.frames, e.mod, e.bs, e.bsz, e.funs, e.frf, e.hok, e.bare⟩
  have hl : us.length = ps.length := by rw [← r.length]; exact F.len _ _ _ _ h
  refine wpAny_call (codeAny_mono (F.run A X.stack s H ⟨us, []⟩ us vs Q E sb.room e0 (by
    have := hb s us I.kIn (by rw [List.append_nil]; exact hl)
    rw [List.append_nil] at this
    exact this) r h) fun r s' hq => ?_)
  cases r with
  | error e => exact hx pins σ H s e s' I hq
  | ok fl =>
    cases fl with
    | ret u => exact I.after hq
    | next => exact False.elim hq
    | brk => exact False.elim hq
    | cont => exact False.elim hq
section
variable {K : PySem.W.Frag} {s : Shared} {x : Addr} {ox : Obj} {od : Option Obj} {name : Str} {id : String} {A : Around} {Ee : Value → Shared → Prop}
theorem ifBound_B {M : Model} {args : List Value} {Q : Option Value → Shared → Prop} (Y : K.In s.heap) (I : PySem.W.InstAt s.heap x ox C od) (hs : PySem.W.findIn K (.ref C) name = some (some (.builtin id)))
    (hb : ∀ self, bindSpecial (.builtin id) self = pure (.builtin id, [self])) (h : wpAny M A (call (.builtin id) (.ref x :: args)) (fun v => Q (some v)) Ee s) : wpAny M A (callSpecialIfBound? (.ref x) name args) Q Ee s := by
  simp only [callSpecialIfBound?, bindSpecialIfBound?]
  refine wpAny_holding (wpAny_bind (wpAny_bind (wpAny_bind (I.type.here ((PySem.W.looks_findIn Y hs).here ?_)))))
  have z : wpAny M A (call (.builtin id) ([.ref x] ++ args) >>= fun v => pure (some v)) Q Ee s := wpAny_bind (wpAny_mono h (fun _ _ w => wpAny_pure w) fun _ _ w => w)
  refine wpAny_bind (wpAny_askSetting (wpAny_ite ?_))
  split
  · exact wpAny_bind ((PySem.W.Looks.of_pure (hb _)).here (wpAny_pure (by exact z)))
  · exact wpAny_tryCatch (wpAny_bind ((PySem.W.Looks.of_pure (hb _)).here (wpAny_pure (by exact z))))
end
/-- x != y: object.__ne__ asks the own __eq__ -/
theorem ne_own_core {a : Addr} {b : V} {bu tb : Value} {pins : List (Addr × Obj)} {σ : L2.St} {H : Hp} {s : Shared} {Q : VK} (M : Meth X.K C "__eq__" f) (F : FnOk X.prog X.w X.K X.mg X.base CX n f fd ps sp) (hr : Room (n + 1) X.A) (hb : Binds X.K fd ps []) (hx : Passes CX X E)
    (hn : PySem.W.findIn X.K (.ref C) "__ne__" = some (some (.builtin "object.__ne__"))) (hm : PySem.W.mroIn X.K C (.type "object") = some true) (I : Inv X pins σ H s) (ha : Ins H a C) (rb : RelV b bu)
    (hT : PySem.W.Looks (model X.prog X.w) s.heap (typeOf bu) tb) (hF : PySem.W.notFirst X.K C tb = true)
    (q : sp [.ref a, b] H (fun v H' => ∃ k, v = .bl k ∧ Q (.bl (!k)) H') E) : wpAny (model X.prog X.w) X.A (richCompare .NotEq (.ref a) bu) (EP X pins σ Q) X.xe s := by
  obtain ⟨ox, od, J⟩ := ins_inst I ha
  have Y := I.kIn
  have one : wpAny (model X.prog X.w) X.A (tryCompare (.ref a) "__ne__" bu) (fun r s' => ∃ k : Bool, r = some (Value.bool k) ∧ EP X pins σ Q (.bool k) s') X.xe s := by
    unfold tryCompare
    refine wpAny_bind (ifBound_B Y J hn PySem.F.cmp_object.ne.bind ?_)
    refine wpAny_call (codeAny_call_builtin PySem.F.cmp_object.ne.plain PySem.F.cmpEntry_ne (PySem.W.check_slot (i := "object.__ne__") (owner := "object") (n := "__ne__") PySem.F.cmpKind_ne PySem.F.cmpSplit_ne (J.type.andThen (PySem.W.looks_mroIn Y hm)) (PySem.F.cmpArgs_ne _ _) ?_))
    unfold Builtin.«object.__ne__»
    refine wpAny_bind (m := slotArgs "__ne__" 1 _) (wpAny_pure ?_)
    refine wpAny_bind (m := cRoomFor _ _) (wpAny_cRoomFor hr.in1.units0 ?_)
    refine wpAny_bind (m := callSpecialIfBound? (.ref a) (Str.ofString "__eq__") _) (PySem.W.ifBound_K Y J M.at_ M.fn (wpAny_mono (run_sub (us := [.ref a, bu]) (vs := [.ref a, b]) F (Sub.in1 ⟨hr, rfl⟩) hb hx I (.cons rfl (.cons rb .nil)) q) (fun w s' h => ?_) fun _ _ z => z))
    obtain ⟨z, H', I', rz, k, rfl, qz⟩ := h
    cases (show w = Value.bool k from rz)
    refine wpAny_bind (m := truthy (.bool _)) (wpAny_truthy_bool ?_)
    refine wpAny_pure ?_
    exact wpAny_pure ⟨!k, rfl, .bl (!k), H', I', rfl, qz⟩
  unfold richCompare
  simp only [oneThing_ref]
  refine wpAny_holding (wpAny_bind (wpAny_cRoomFor hr.units0 ?_))
  refine wpAny_bind (J.type.here (wpAny_bind (hT.here ?_)))
  have fin : ∀ (r : Option Value) (s' : Shared), (∃ k : Bool, r = some (Value.bool k) ∧ EP X pins σ Q (.bool k) s') → ∃ v, r = some v ∧ EP X pins σ Q v s' := fun r s' ⟨k, e, h⟩ => ⟨_, e, h⟩
  split
  · rename_i c
    have e : PySem.W.subIn X.K tb (.ref C) = some false := by
      rcases Bool.or_eq_true_iff.mp hF with e | e
      · rw [beq_iff_eq.mp e] at c; simp at c
      · exact beq_iff_eq.mp e
    refine wpAny_bind ((PySem.W.looks_subIn Y e).here ?_)
    simp only [Bool.false_eq_true, if_false]
    refine wpAny_bind (wpAny_mono one (fun r s' z => ?_) fun _ _ e => e)
    obtain ⟨v, rfl, hq⟩ := fin r s' z
    exact wpAny_pure hq
  · refine wpAny_bind (wpAny_pure ?_)
    simp only [Bool.false_eq_true, if_false]
    refine wpAny_bind (wpAny_mono one (fun r s' z => ?_) fun _ _ e => e)
    obtain ⟨v, rfl, hq⟩ := fin r s' z
    exact wpAny_pure hq
/-- x != y, both of one own class -/
def rOwnNe (C : Addr) (sp : Sp) (E : XK) : R2 := fun x y H Q => ∃ a b, x = .ref a ∧ y = .ref b ∧ Ins H a C ∧ Ins H b C ∧ sp [.ref a, .ref b] H (fun v H' => ∃ k, v = .bl k ∧ Q (.bl (!k)) H') E
theorem ne_own (M : Meth X.K C "__eq__" f) (F : FnOk X.prog X.w X.K X.mg X.base CX n f fd ps sp) (hr : Room (n + 1) X.A) (hb : Binds X.K fd ps []) (hx : Passes CX X E)
    (hn : PySem.W.findIn X.K (.ref C) "__ne__" = some (some (.builtin "object.__ne__"))) (hm : PySem.W.mroIn X.K C (.type "object") = some true) : OpR X (compareOp .NotEq) (rOwnNe C sp E) := by
  intro pins s σ H x y v u Q I rx ry h
  obtain ⟨a, b, rfl, rfl, ha, hb', q⟩ := h
  cases (show v = Value.ref a from rx)
  obtain ⟨oy, oe, J'⟩ := ins_inst I hb'
  cases (show u = Value.ref b from ry)
  exact ne_own_core (b := .ref b) M F hr hb hx hn hm I ha rfl J'.type (by simp [PySem.W.notFirst]) q
/-- x != n, n an int -/
def rOwnNeI (C : Addr) (sp : Sp) (E : XK) : R2 := fun x y H Q => ∃ a i, x = .ref a ∧ y = .int i ∧ Ins H a C ∧ sp [.ref a, .int i] H (fun v H' => ∃ k, v = .bl k ∧ Q (.bl (!k)) H') E
theorem ne_ownI (M : Meth X.K C "__eq__" f) (F : FnOk X.prog X.w X.K X.mg X.base CX n f fd ps sp) (hr : Room (n + 1) X.A) (hb : Binds X.K fd ps []) (hx : Passes CX X E)
    (hn : PySem.W.findIn X.K (.ref C) "__ne__" = some (some (.builtin "object.__ne__"))) (hm : PySem.W.mroIn X.K C (.type "object") = some true) (hsub : PySem.W.subIn X.K (.type "int") (.ref C) = some false) : OpR X (compareOp .NotEq) (rOwnNeI C sp E) := by
  intro pins s σ H x y v u Q I rx ry h
  obtain ⟨a, i, rfl, rfl, ha, q⟩ := h
  cases (show v = Value.ref a from rx)
  obtain ⟨t, rfl⟩ := (show ∃ t, u = Value.int i t from ry)
  exact ne_own_core (b := .int i) M F hr hb hx hn hm I ha ⟨t, rfl⟩ (PySem.W.Looks.of_pure rfl) (by unfold PySem.W.notFirst; rw [hsub]; simp) q
/-- bool(x), x of an own class -/
theorem bool_own (M : Meth X.K C "__bool__" f) (F : FnOk X.prog X.w X.K X.mg X.base CX n f fd ps sp) (hr : Room (n + 3) X.A) (hb : Binds X.K fd ps []) (hx : Passes CX X E) :
    CallR X (.type "bool") (fun xs H Q => ∃ a, xs = [.ref a] ∧ Ins H a C ∧ sp [.ref a] H (fun v H' => ∃ k, v = .bl k ∧ Q v H') E) := by
  intro pins s σ H xs us Q I r h
  obtain ⟨a, rfl, ha, q⟩ := h
  rw [Vals.ref1 r]
  obtain ⟨ox, od, J⟩ := ins_inst I ha
  obtain ⟨m, hF⟩ := I.fr
  refine callType_codes (T := "bool") (Bi := Builtin.«object.__init__») (Q₁ := fun r t => ∃ k : Bool, r = .bool k ∧ EP X pins σ Q r t) PySem.F.called_bool (PySem.F.typeCall_bool_1 _) PySem.F.entry_object_init ?_ ?_
  · refine codeAny_of_tree ?_
    show wpAny _ X.A.in1.in1 (checkBuiltinCall "bool.__new__" ⟨[.type "bool", .ref a], []⟩ >>= fun _ => again (.builtin "bool.__new__" ⟨[.type "bool", .ref a], []⟩)) _ _ s
    refine wpAny_bind (wpAny_of_eq (PySem.F.newCall_bool_1 _) (wpAny_pure ⟨plainId_quiet (by decide +kernel) _, codeAny_builtin PySem.F.entry_bool_new ?_⟩))
    rw [Around.under_plainId (by decide +kernel) _]
    have key : wpAny (model X.prog X.w) X.A.in1.in1 (truthy (.ref a)) (fun k t => EP X pins σ Q (.bool k) t) X.xe s := by
      refine PySem.W.truthy_K hF I.ok.mod.kin J M.at_ M.fn (wpAny_mono (run_sub (us := [.ref a]) (vs := [.ref a]) F (Sub.in1 (Sub.in1 ⟨hr.mono (by omega), rfl⟩)) hb hx I (.cons rfl .nil) q) (fun w s' h => ?_) fun _ _ z => z)
      obtain ⟨z, H', I', rz, k, rfl, qz⟩ := h
      cases (show w = Value.bool k from rz)
      exact ⟨.bl k, H', I', rfl, qz⟩
    have f1 := PySem.F.conv_sub_bool
    unfold Builtin.«bool.__new__»
    generalize hTR : truthy = TR at key ⊢
    wp_walk
    refine wpAny_mono key (fun k t h => ?_) fun _ _ z => z
    exact wpAny_pure ⟨k, rfl, h⟩
  · rintro obj t ⟨k, rfl, h⟩
    exact ⟨PySem.typeIs_bool _ _, PySem.F.args_object_init_2 _ _, object_init_meets PySem.F.called_bool.init.lookup PySem.F.called_bool.made (by decide) X.prog X.w X.A.in1 _ t ⟨PySem.typeIs_bool _ _, rfl, h⟩⟩
/-- str(x), x of an own class -/
theorem str_own (M : Meth X.K C "__str__" f) (F : FnOk X.prog X.w X.K X.mg X.base CX n f fd ps sp) (hr : Room (n + 3) X.A) (hb : Binds X.K fd ps []) (hx : Passes CX X E) :
    CallR X (.type "str") (fun xs H Q => ∃ a, xs = [.ref a] ∧ Ins H a C ∧ sp [.ref a] H (fun v H' => ∃ k, v = .str k ∧ Q v H') E) := by
  intro pins s σ H xs us Q I r h
  obtain ⟨a, rfl, ha, q⟩ := h
  rw [Vals.ref1 r]
  obtain ⟨ox, od, J⟩ := ins_inst I ha
  have Y := I.kIn
  refine callType_codes (T := "str") (Bi := Builtin.«object.__init__») (Q₁ := fun r t => ∃ y u, r = .str y u ∧ EP X pins σ Q r t) PySem.F.called_str (PySem.F.typeCall_str_1 _) PySem.F.entry_object_init ?_ ?_
  · refine codeAny_of_tree ?_
    show wpAny _ X.A.in1.in1 (checkBuiltinCall "str.__new__" ⟨[.type "str", .ref a], []⟩ >>= fun _ => again (.builtin "str.__new__" ⟨[.type "str", .ref a], []⟩)) _ _ s
    refine wpAny_bind (wpAny_of_eq (PySem.F.newCall_str_1 _) (wpAny_pure ⟨plainId_quiet (by decide +kernel) _, codeAny_builtin PySem.F.entry_str_new ?_⟩))
    rw [Around.under_plainId (by decide +kernel) _]
    have key : wpAny (model X.prog X.w) X.A.in1.in1 (PySem.Builtin.Str.strOf (.ref a)) (fun v t => ∃ y u, v = Value.str y u ∧ EP X pins σ Q v t) X.xe s := by
      unfold PySem.Builtin.Str.strOf
      rw [show PySem.Builtin.Str.isExactStr (.ref a) = false from rfl]
      refine wpAny_bind (m := cRoomFor _ _) (wpAny_cRoomFor hr.in1.in1.units0 ?_)
      refine wpAny_bind (m := callSpecial? (.ref a) (Str.ofString "__str__")) (PySem.W.special_fn Y J M.at_ (beq_iff_eq.mp M.fn) (wpAny_mono (run_sub (us := [.ref a]) (vs := [.ref a]) F (Sub.in1 (Sub.in1 ⟨hr.mono (by omega), rfl⟩)) hb hx I (.cons rfl .nil) q) (fun w s' h => ?_) fun _ _ z => z))
      obtain ⟨z, H', I', rz, k, rfl, qz⟩ := h
      obtain ⟨u, rfl⟩ := (show ∃ t, w = Value.str k t from rz)
      exact wpAny_pure ⟨k, u, rfl, .str k, H', I', ⟨u, rfl⟩, qz⟩
    have f1 : isSubtype (.type "str") (.type "str") = pure true := isSubtype_str_str
    unfold Builtin.«str.__new__»
    generalize hTR : PySem.Builtin.Str.strOf = TR at key ⊢
    wp_walk
    refine wpAny_mono key (fun v t h => ?_) fun _ _ z => z
    obtain ⟨y, u, rfl, h⟩ := h
    exact wpAny_pure ⟨y, u, rfl, h⟩
  · rintro obj t ⟨y, u, rfl, h⟩
    exact ⟨PySem.typeIs_str _ _ _, PySem.F.args_object_init_2 _ _, object_init_meets PySem.F.called_str.init.lookup PySem.F.called_str.made (by decide) X.prog X.w X.A.in1 _ t ⟨PySem.typeIs_str _ _ _, rfl, h⟩⟩
end
end Sf

namespace Sf
open PySem PySem.Spec PyProof.Rows L2
section
variable {X : Cx} {o : Expr} {f : Str} {pos : Pos} {to : TE}
/-- o.f = .. as a target -/
def gAttr (K : PySem.W.Frag) (to : TE) (f : Str) : TG := fun y σ H Q => to σ H fun x H1 => ∃ a C dx fs, x = .ref a ∧ H1 a = some (.ins C dx fs) ∧ Cls K C ∧ NoAttr K C f ∧ fs.length < 1000 ∧ Q σ (upd H1 a (.ins C dx (putF f y fs)))
theorem pg_attr (ho : PE X o to) : PG X (.Attribute o f pos) (gAttr X.K to f) := by
  refine ⟨fun pins s σ H v u Q I r h => ?_⟩
  rw [arm_assign_Attribute]
  refine wpAny_bind (wpAny_holding (thn (ho.run pins s σ H _ I h) fun ov s1 ⟨x, H1, I1, r1, a, C, dx, fs, ex, ea, c, nn, l, q⟩ => ?_))
  subst ex
  cases (show ov = Value.ref a from r1)
  refine wpAny_bind (wpAny_standAt (wpAny_bind (wpAny_holding (setattr_ok I1 ea c nn l r fun s2 I2 => ?_))))
  exact wpAny_release ⟨σ, _, I2, q⟩
end
end Sf

namespace Sf
open PySem PySem.Spec PyProof.Rows L2
section
variable {X : Cx}
def CDivZ (_ j : Int) : Prop := j ≠ 0 ∧ j.natAbs.log2 < 9000
/-- // by a divisor of any sign -/
theorem op_fdivZ : OpR X (binaryOp .FloorDiv) (rI CDivZ fun i j => .int (i.fdiv j)) := opI fun _ _ _ _ _ _ _ hc q => floordiv_int hc.1 q (.inl (PyProof.noPylong_of_log2 hc.2))
theorem CDivZ.of {i j : Int} (h : j ≠ 0) (hb : j.natAbs < 2 ^ 8000) : CDivZ i j := ⟨h, Nat.lt_of_lt_of_le ((Nat.log2_lt (by omega)).mpr hb) (by decide)⟩
theorem gcd_args5 (a b c d e : Value) : argsOk "math.gcd" ⟨[a, b, c, d, e], []⟩ := by unfold argsOk; kernel_rfl
theorem gcd_run5 (a b c d e : Int) (ta tb tc td te : Tok) : Gives (Builtin.«math.gcd» ⟨[.int a ta, .int b tb, .int c tc, .int d td, .int e te], []⟩) (.int ((((((Nat.gcd 0 a.natAbs).gcd b.natAbs).gcd c.natAbs).gcd d.natAbs).gcd e.natAbs : Nat) : Int)) :=
  .of_wp fun M A E s Q h => by
    obtain ⟨hp, g, d, tk, os⟩ := s
    wp_walk
    exact ⟨_, rfl, h⟩
/-- gcd of five integers -/
def rGcd5 : List V → Hp → VK → Prop := fun vs H Q => ∃ a b c d e : Int, vs = [.int a, .int b, .int c, .int d, .int e] ∧ Q (.int (((((a.natAbs.gcd b.natAbs).gcd c.natAbs).gcd d.natAbs).gcd e.natAbs : Nat) : Int)) H
theorem cr_gcd5 : CallR X (.builtin "math.gcd") rGcd5 := by
  intro pins s σ H xs us Q I r h
  obtain ⟨a, b, c, d, e, rfl, q⟩ := h
  cases r with
  | cons r1 r => cases r with
    | cons r2 r => cases r with
      | cons r3 r => cases r with
        | cons r4 r => cases r with
          | cons r5 r =>
            cases r
            obtain ⟨t1, rfl⟩ := r1
            obtain ⟨t2, rfl⟩ := r2
            obtain ⟨t3, rfl⟩ := r3
            obtain ⟨t4, rfl⟩ := r4
            obtain ⟨t5, rfl⟩ := r5
            have g := gcd_run5 a b c d e t1 t2 t3 t4 t5
            rw [Nat.gcd_zero_left] at g
            exact call_function_meets PySem.W.MGF.kind_gcd PySem.W.MGF.plain_gcd PySem.W.MGF.entry_gcd (gcd_args5 _ _ _ _ _) g.meets ⟨.int _, H, I.tok _, ⟨_, rfl⟩, q⟩
/-- x(e, ..), x a name of the module that holds a built-in function -/
theorem pe_callGB {r : List V → Hp → VK → Prop} {t : TA} {x : Str} {id : String} {e : Expr} {es : List Expr} {p pos : Pos} (hc : CallR X (.builtin id) r) (hg : Gl X x) (hm : X.mg x = some (.builtin id)) (ha : PA X (e :: es) t) (hdb : (x == ("__debug__" : Str)) = false := by decide)
    (he : starEach (e :: es) X.env = (false, eval e X.env) :: starEach es X.env := by rfl) (hpl : (backTo pos (starEach es X.env)).any (·.1) = false := by rfl) : PE X (.Call (.Name x p) (e :: es) [] pos) (tCB r t) := by
  refine ⟨fun pins s σ H Q I h => ?_⟩
  refine wpAny_Call_Name_kw (ld_glob I hg hm ?_ hdb)
  exact PyProof.Rows.callWith_builtin1 (thn (ha.run pos pins s σ H _ I h) fun us s1 ⟨vs, H1, I1, r1, q1⟩ => hc pins s1 σ H1 vs us Q I1 r1 q1) he hpl
end
end Sf

namespace Sf
open PySem PySem.Spec PyProof.Rows L2
/-- an own class, ready to be called with so many arguments; ds fills up -/
structure CalC (P : Program) (w : World) (K : PySem.W.Frag) (mg : Str → Option Value) (base : Heap) (k : Nat) (x : Str) (C : Addr) (ps : List Str) (ds : List V) (sp : Sp) where
  f : Addr
  fd : FuncData
  us : List Value
  ok : FnOk P w K mg base CX0 k f fd ps sp
  mkr : Mk K C f
  g : mg x = some (.ref C)
  b : Binds K fd ps us
  d : Vals ds us
/-- a method, ready to be called -/
structure CalM (P : Program) (w : World) (K : PySem.W.Frag) (mg : Str → Option Value) (base : Heap) (k : Nat) (m : Str) (C : Addr) (ps : List Str) (sp : Sp) where
  f : Addr
  fd : FuncData
  ok : FnOk P w K mg base CX0 k f fd ps sp
  me : Meth K C m f
  b : Binds K fd ps []
theorem _root_.L2.Meth.cast {K : PySem.W.Frag} {C f : Addr} {m m' : Str} (M : Meth K C m f) (e : m = m') : Meth K C m' f := e ▸ M
section
variable {X : Cx} {k : Nat} {x m : Str} {C : Addr} {ps : List Str} {ds : List V} {sp : Sp} {e o : Expr} {es : List Expr} {t : TA} {ta : TE} {p pos apos : Pos}
theorem pe_new (N : CalC X.prog X.w X.K X.mg X.base k x C ps ds sp) (hr : Room (k + 1) X.A) (ha : PA X (e :: es) t) (hg : Gl X x := by rfl) (hdb : (x == ("__debug__" : Str)) = false := by decide)
    (he : starEach (e :: es) X.env = (false, eval e X.env) :: starEach es X.env := by rfl) (hpl : (backTo pos (starEach es X.env)).any (·.1) = false := by rfl) :
    PE X (.Call (.Name x p) (e :: es) [] pos) (tMake C sp ds E0 t) :=
  pe_make N.mkr N.ok hr hg N.g N.b N.d pass0 ha hdb he hpl
end
/-- what the text says of a class whose objects are told by fields alone -/
structure OwnK (K : PySem.W.Frag) (C : Addr) : Prop where
  cls : Cls K C
  sf : PySem.W.selfFirst K C = true
  si : PySem.W.subIn K (.type "int") (.ref C) = some false
  ne : PySem.W.findIn K (.ref C) "__ne__" = some (some (.builtin "object.__ne__"))
  mo : PySem.W.mroIn K C (.type "object") = some true
  ca : PySem.W.findIn K (.ref C) "__class__" = some (some (.builtin "object.__class__"))
  cg : PySem.W.specialIn K (.builtin "object.__class__") "__get__" = some (some (.builtin "getset_descriptor.__get__"))
  ct : PySem.W.takesIn K (.builtin "object.__class__") = some true
  kk : PySem.W.kitOne K (.ref C) (.ref C) = some true
  ki : PySem.W.kitOne K (.type "int") (.ref C) = some false
theorem OwnK.ty {K : PySem.W.Frag} {C : Addr} {H : Hp} {a : Addr} (o : OwnK K C) (h : Ins H a C) : TyX K H (.ref a) (.ref C) := by
  obtain ⟨dx, fs, e⟩ := h
  exact .base (.ins e o.cls o.ca o.cg o.ct o.mo)
theorem ownB_ok {K : PySem.W.Frag} {x : Str} (c : Cls K (He.ga K x)) (h : ownB K x = true) : OwnK K (He.ga K x) := by
  obtain ⟨h1, h⟩ := He.ba h
  obtain ⟨h2, h⟩ := He.ba h
  obtain ⟨h3, h⟩ := He.ba h
  obtain ⟨h4, h⟩ := He.ba h
  obtain ⟨h5, h⟩ := He.ba h
  obtain ⟨h6, h⟩ := He.ba h
  obtain ⟨h7, h⟩ := He.ba h
  obtain ⟨h8, h9⟩ := He.ba h
  exact ⟨c, h1, of_decide_eq_true h2, He.eqO_ok h3, of_decide_eq_true h4, He.eqO_ok h5, He.eqO_ok h6, of_decide_eq_true h7, of_decide_eq_true h8, of_decide_eq_true h9⟩
/-- e.f where K is told from outside (within a comprehension) -/
theorem pe_fldK {X : Cx} {K : PySem.W.Frag} {e : Expr} {f : Str} {pos : Pos} {ta : TE} (hK : X.K = K) (he : PE X e ta) (hb : attributeBase e f X.env (eval e X.env) = eval e X.env) : PE X (.Attribute e f pos) (tFld K ta f) := hK ▸ pe_fld he hb
theorem pg_tupK {X : Cx} {K : PySem.W.Frag} {es : List Expr} {k : Nat} {t : TGs} {n : Nat} {pos : Pos} (hK : X.K = K) (hc : X.calm = true) (h : PGs X es t)
    (hn : (assignEach es X.env).length = n := by rfl) (hst : (assignEach es X.env).findIdx? (·.1) = none := by rfl) : PG X (.Tuple es k pos) (gTup K n t) := hK ▸ pg_tup hc h hn hst
theorem walk_zipT {K : PySem.W.Frag} {a b : Addr} {xs ys : List V} {n : Nat} (h1 : xs.length = n) (h2 : ys.length = n) : Walk (RZ.ItzT K a b) n (fun H => SqT K H a xs ∧ SqT K H b ys) (YPair (fun i => xs[i]?) (fun i => ys[i]?)) :=
  ⟨fun i H hi q => ⟨xs, ys, xs[i], ys[i], q.1, q.2, by simp, by simp⟩, fun H q => ⟨xs, ys, q.1, q.2, .inl (Nat.le_of_eq h1)⟩, fun i H x H' hi q y => by
    obtain ⟨T, u, v, e, hT, eH, g1, g2⟩ := y
    exact ⟨T, u, v, e, hT, eH, g1 xs q.1, g2 ys q.2⟩⟩
theorem ifnb {b : Bool} {A B : Prop} (h1 : b = false → A) (h2 : b = true → B) : if (!b) = true then A else B := by
  cases b with
  | false => exact h1 rfl
  | true => exact h2 rfl
end Sf

namespace Sf
open PySem PySem.Spec PyProof.Rows L2
def sgnI (t : Int) : Int := if t = 0 then 0 else if t > 0 then 1 else -1
/-- lowest terms -/
def LowT (t b t' b' : Int) : Prop := 0 < b' ∧ t * b' = t' * b ∧ t'.natAbs.gcd b'.natAbs = 1
theorem low_of {t b : Int} (hb : b ≠ 0) : (((t.natAbs.gcd b.natAbs : Nat) : Int) ≠ 0) ∧ LowT t b (t.fdiv (if b < 0 then -((t.natAbs.gcd b.natAbs : Nat) : Int) else ((t.natAbs.gcd b.natAbs : Nat) : Int))) (b.fdiv (if b < 0 then -((t.natAbs.gcd b.natAbs : Nat) : Int) else ((t.natAbs.gcd b.natAbs : Nat) : Int))) := by
  have g0 : 0 < t.natAbs.gcd b.natAbs := Nat.gcd_pos_of_pos_right _ (by omega)
  obtain ⟨u, hu⟩ := (Int.natAbs_dvd_natAbs.mp (show t.natAbs.gcd b.natAbs ∣ t.natAbs from Nat.gcd_dvd_left _ _) : ((t.natAbs.gcd b.natAbs : Nat) : Int) ∣ t)
  obtain ⟨v, hv⟩ := (Int.natAbs_dvd_natAbs.mp (show t.natAbs.gcd b.natAbs ∣ b.natAbs from Nat.gcd_dvd_right _ _) : ((t.natAbs.gcd b.natAbs : Nat) : Int) ∣ b)
  refine ⟨by omega, ?_⟩
  have hc : (t.natAbs / (t.natAbs.gcd b.natAbs)).gcd (b.natAbs / (t.natAbs.gcd b.natAbs)) = 1 := by
    rw [Nat.gcd_div (Nat.gcd_dvd_left _ _) (Nat.gcd_dvd_right _ _), Nat.div_self g0]
  generalize t.natAbs.gcd b.natAbs = g at *
  have gi : (0 : Int) < g := by omega
  have eu : t.natAbs / g = u.natAbs := by
    rw [hu, Int.natAbs_mul, Int.natAbs_natCast, Nat.mul_div_cancel_left _ g0]
  have ev : b.natAbs / g = v.natAbs := by
    rw [hv, Int.natAbs_mul, Int.natAbs_natCast, Nat.mul_div_cancel_left _ g0]
  rw [eu, ev] at hc
  by_cases c : b < 0
  · rw [if_pos c]
    have e1 : t.fdiv (-(g : Int)) = -u := by
      rw [show t = (-(g : Int)) * (-u) by rw [Int.neg_mul_neg]; exact hu]
      exact Int.mul_fdiv_cancel_left _ (by omega)
    have e2 : b.fdiv (-(g : Int)) = -v := by
      rw [show b = (-(g : Int)) * (-v) by rw [Int.neg_mul_neg]; exact hv]
      exact Int.mul_fdiv_cancel_left _ (by omega)
    rw [e1, e2]
    refine ⟨?_, ?_, by rw [Int.natAbs_neg, Int.natAbs_neg]; exact hc⟩
    · by_cases v0 : 0 ≤ v
      · have := Int.mul_nonneg (Int.le_of_lt gi) v0
        omega
      · omega
    · rw [hu, hv]; grind
  · rw [if_neg c]
    have e1 : t.fdiv (g : Int) = u := by
      rw [hu]
      exact Int.mul_fdiv_cancel_left _ (by omega)
    have e2 : b.fdiv (g : Int) = v := by
      rw [hv]
      exact Int.mul_fdiv_cancel_left _ (by omega)
    rw [e1, e2]
    refine ⟨?_, ?_, hc⟩
    · by_cases v0 : v ≤ 0
      · have := Int.mul_nonneg (Int.le_of_lt gi) (show 0 ≤ -v by omega)
        rw [Int.mul_neg] at this
        omega
      · omega
    · rw [hu, hv]; grind
section
variable {P : Program} {w : World} {K : PySem.W.Frag} {mg : Str → Option Value} {base : Heap} {f : Addr} {fd : FuncData} {CR : Addr}
def spPassed (K : PySem.W.Frag) : Sp := fun vs H Q _ => ∃ (x : V) (b : Bool), vs = [x] ∧ IntB K H x b ∧ (b = true ↔ ∃ n, x = .int n) ∧ ∀ r : Bool, (r = true ↔ ∃ n : Int, x = .int n ∧ n.natAbs < 10 ^ 60) → Q (.bl r) H
theorem ok_is_passed (F : FnD K "is_passed" "is_passed" s_P_is_passed f fd) (T : Glob mg) (C_P_is_integer : Cal P w K mg base 1 "is_integer" ["value"] (spIsInt K)) : FnOk P w K mg base CX0 2 f fd ["value"] (spPassed K) := by
  refine F.ok sc_P_is_passed (fun vs H Q E h => ?_) (fun cdv A outer s H vs Q E hr h => ?_)
  · obtain ⟨x, b, rfl, _⟩ := h; rfl
  · obtain ⟨x, b, rfl, hb, hi, q⟩ := h
    obtain ⟨tM, hc_TOO_LONG⟩ := T.m_TOO_LONG
    refine ⟨_, PSs.nox (pss_one (ps_ret (pe_and (pe_cal C_P_is_integer (hr.mono (by decide)) (pa_cons (pv 0) pa_nil)) (pe_one (pe_cmp (pc_lt (pe_callB call_abs (by rfl) T.m_abs (by decide +kernel) (pa_cons (pv 0) pa_nil)) (pe_glob (v := .int 1000000000000000000000000000000000000000000000000000000000000) rfl hc_TOO_LONG ⟨_, rfl⟩)) rfl))))), ?_⟩
    refine ⟨_, rfl, x, b, rfl, hb, ?_⟩
    cases b with
    | false =>
      refine ⟨_, rfl, ?_⟩
      exact q false ⟨fun z => Bool.noConfusion z, fun ⟨n, e, _⟩ => hi.mpr ⟨n, e⟩⟩
    | true =>
      obtain ⟨n, rfl⟩ := hi.mp rfl
      refine ⟨_, rfl, _, rfl, n, rfl, _, _, rfl, rfl, ?_⟩
      have e60 : (10 : Nat) ^ 60 = 1000000000000000000000000000000000000000000000000000000000000 := by decide +kernel
      refine q _ ?_
      rw [decide_eq_true_iff, e60]
      constructor
      · intro h
        refine ⟨n, rfl, ?_⟩
        split at h <;> omega
      · rintro ⟨m, e, h⟩
        cases e
        split <;> omega
def spLowest : Sp := fun vs H Q _ => ∃ t b : Int, vs = [.int t, .int b] ∧ b ≠ 0 ∧ b.natAbs < 2 ^ 8000 ∧ ∀ (t' b' : Int) (a : Addr), LowT t b t' b' → H a = none → Q (.ref a) (upd H a (.tup [.int t', .int b']))
theorem ok_lowest_terms (F : FnD K "lowest_terms" "lowest_terms" s_P_lowest_terms f fd) (T : Glob mg) : FnOk P w K mg base CX0 1 f fd ["top", "bottom"] spLowest := by
  refine F.ok sc_P_lowest_terms (fun vs H Q E h => ?_) (fun cdv A outer s H vs Q E hr h => ?_)
  · obtain ⟨t, b, rfl, _⟩ := h; rfl
  · obtain ⟨t, b, rfl, b0, bb, q⟩ := h
    refine ⟨_, PSs.nox (pss_cons (ps_set (i := 2) sc_P_lowest_terms.nd rfl (Or.inl rfl) (pe_callGB cr_gcd (by rfl) T.m_gcd (pa_cons (pv 0) (pa_cons (pv 1) pa_nil))))
      (Evl.pss_cut (ps_if (pt_cmp (pc_lt (pv 1) pe_int)) (pss_one (ps_set (i := 2) sc_P_lowest_terms.nd rfl (Or.inl rfl) (pe_un un_neg (pv 2)))) pss_nil)
      (pss_one (ps_ret (pe_tup (pa_cons (pe_op op_fdivZ (pv 0) (pv 2)) (pa_cons (pe_op op_fdivZ (pv 1) (pv 2)) pa_nil))))))), ?_⟩
    obtain ⟨g0, hl⟩ := low_of (t := t) b0
    have gb : t.natAbs.gcd b.natAbs < 2 ^ 8000 := Nat.lt_of_le_of_lt (Nat.le_of_dvd (by omega) (Nat.gcd_dvd_right _ _)) bb
    refine ⟨_, rfl, _, rfl, t, b, rfl, ?_⟩
    generalize ((t.natAbs.gcd b.natAbs : Nat)) = g at *
    refine ⟨fun σ' H' => σ' = [some (.int t), some (.int b), some (.int (if b < 0 then -(g : Int) else (g : Int)))] ∧ H = H', ?_, ?_⟩
    · refine ⟨_, rfl, _, _, rfl, rfl, _, rfl, ifd (fun h => ?_) (fun h => ?_)⟩
      · rw [if_pos h]
        exact ⟨_, rfl, _, rfl, rfl, rfl⟩
      · rw [if_neg h]
        exact ⟨rfl, rfl⟩
    · rintro σ' _ ⟨rfl, rfl⟩
      have c0 : (if b < 0 then -(g : Int) else (g : Int)) ≠ 0 := by split <;> omega
      have cb : (if b < 0 then -(g : Int) else (g : Int)).natAbs < 2 ^ 8000 := by split <;> omega
      generalize (if b < 0 then -(g : Int) else (g : Int)) = c at *
      exact ⟨_, rfl, _, rfl, _, _, rfl, rfl, CDivZ.of c0 cb, _, rfl, _, rfl, _, _, rfl, rfl, CDivZ.of c0 cb, (by show 2 ≤ sizeLine; decide), fun a ha => q _ _ a hl ha⟩
def spSignOf : Sp := fun vs H Q _ => ∃ t : Int, vs = [.int t] ∧ Q (.int (sgnI t)) H
theorem ok_sign_of (F : FnD K "sign_of" "sign_of" s_P_sign_of f fd) : FnOk P w K mg base CX0 1 f fd ["number"] spSignOf := by
  refine F.ok sc_P_sign_of (fun vs H Q E h => ?_) (fun cdv A outer s H vs Q E hr h => ?_)
  · obtain ⟨t, rfl, _⟩ := h; rfl
  · obtain ⟨t, rfl, q⟩ := h
    refine ⟨_, PSs.nox (pss_cons (ps_if (pt_cmp (pc_eqI (pv 0) pe_int)) (pss_one (ps_ret pe_int)) pss_nil)
      (pss_one (ps_ret (pe_ifExp (pt_cmp (pc_gt (pv 0) pe_int)) pe_int (pe_un un_neg pe_int))))), ?_⟩
    unfold sgnI at q
    refine ⟨_, rfl, _, _, rfl, rfl, _, rfl, ifd (fun h => ?_) (fun h => ?_)⟩
    · rw [if_pos h] at q
      exact q
    · rw [if_neg h] at q
      refine ⟨_, rfl, _, _, rfl, rfl, _, rfl, ifd (fun h2 => ?_) (fun h2 => ?_)⟩
      · rw [if_pos h2] at q
        exact q
      · rw [if_neg h2] at q
        exact ⟨_, rfl, q⟩
/-- a ratio in lowest terms -/
def RatioAt (CR : Addr) (H : Hp) (a : Addr) (t b : Int) : Prop := ∃ dx, H a = some (.ins CR dx [("top", .int t), ("bottom", .int b), ("sign", .int (sgnI t))])
theorem RatioAt.ins {H : Hp} {a : Addr} {t b : Int} (h : RatioAt CR H a t b) : Ins H a CR := let ⟨dx, e⟩ := h; ⟨dx, _, e⟩
theorem RatioAt.same {H H' : Hp} {a : Addr} {t b : Int} (h : RatioAt CR H a t b) (s : Same H H') : RatioAt CR H' a t b := let ⟨dx, e⟩ := h; ⟨dx, s _ _ e⟩
structure RatioK (K : PySem.W.Frag) (CR : Addr) : Prop where
  own : OwnK K CR
  nt : NoAttr K CR "top"
  nb : NoAttr K CR "bottom"
  ns : NoAttr K CR "sign"
structure RatInitP (CR : Addr) (vs : List V) (H : Hp) (Q : VK) : Prop where
  ex : ∃ (a dx : Addr) (t b : Int), vs = [.ref a, .int t, .int b] ∧ b ≠ 0 ∧ t.natAbs < 10 ^ 60 ∧ b.natAbs < 10 ^ 60 ∧ H a = some (.ins CR dx []) ∧ ∀ (t' b' : Int) (H' : Hp), LowT t b t' b' → Keep a H H' → RatioAt CR H' a t' b' → Q .non H'
def spRatInit (CR : Addr) : Sp := fun vs H Q _ => RatInitP CR vs H Q
theorem ok_Ratio_init (F : FnDD K "__init__" "Ratio.__init__" s_P_Ratio___init__ [.int 1] f fd) (R : RatioK K CR) (C_P_is_passed : Cal P w K mg base 2 "is_passed" ["value"] (spPassed K)) (C_P_lowest_terms : Cal P w K mg base 1 "lowest_terms" ["top", "bottom"] spLowest) (C_P_sign_of : Cal P w K mg base 1 "sign_of" ["number"] spSignOf) :
    FnOk P w K mg base CX0 3 f fd ["self", "top", "bottom"] (spRatInit CR) := by
  refine F.ok sc_P_Ratio___init__ (fun vs H Q E h => ?_) (fun cdv A outer s H vs Q E hr h => ?_)
  · obtain ⟨a, dx, t, b, rfl, _⟩ := h.ex; rfl
  · obtain ⟨a, dx, t, b, rfl, b0, tb, bb, ha, q⟩ := h.ex
    refine ⟨_, PSs.nox (pss_cons (ps_if (pt_not (pt_val (pe_cal C_P_is_passed (hr.mono (by decide)) (pa_cons (pv 1) pa_nil)))) (pss_one ps_never) pss_nil)
      (pss_cons (ps_if (PW.pt (pw_or (pt_not (pt_val (pe_cal C_P_is_passed (hr.mono (by decide)) (pa_cons (pv 2) pa_nil)))) (pw_or1 (pt_cmp (pc_eqI (pv 2) pe_int))))) (pss_one ps_never) pss_nil)
      (pss_cons (ps_asg (pe_cal C_P_lowest_terms (hr.mono (by decide)) (pa_cons (pv 1) (pa_cons (pv 2) pa_nil))) (pg_tup (by rfl) (pgs_cons (pg_attr (pv 0)) (pgs_cons (pg_attr (pv 0)) pgs_nil))))
      (pss_one (ps_fld (pv 0) (pe_cal C_P_sign_of (hr.mono (by decide)) (pa_cons (pe_fld (pv 0) rfl) pa_nil)) rfl))))), ?_⟩
    refine ⟨_, rfl, .int t, true, rfl, .int t, ⟨fun _ => ⟨t, rfl⟩, fun _ => rfl⟩, fun r hr2 => ⟨_, rfl, ?_⟩⟩
    have e : r = true := hr2.mpr ⟨t, rfl, tb⟩
    subst e
    refine ⟨_, rfl, .int b, true, rfl, .int b, ⟨fun _ => ⟨b, rfl⟩, fun _ => rfl⟩, fun r hr2 => ⟨_, rfl, ?_⟩⟩
    have e : r = true := hr2.mpr ⟨b, rfl, bb⟩
    subst e
    refine ⟨_, rfl, _, _, rfl, rfl, _, rfl, ifd (fun h => absurd h b0) (fun _ => ?_)⟩
    refine ⟨_, rfl, _, rfl, t, b, rfl, b0, Nat.lt_trans bb (by decide +kernel), fun t' b' c hl hc => ?_⟩
    have nac : a ≠ c := ne_of_none ha hc
    refine ⟨c, _, rfl, .inl (.inl upd_same), rfl, _, _, rfl, _, rfl, a, CR, dx, [], rfl, by rw [upd_ne nac]; exact ha, R.own.cls, R.nt, by decide, ?_⟩
    refine ⟨_, _, rfl, _, rfl, a, CR, dx, _, rfl, upd_same, R.own.cls, R.nb, (by show 1 < 1000; decide), rfl, ?_⟩
    refine ⟨_, rfl, a, CR, dx, _, .int t', rfl, upd_same, R.own.cls, R.nt, rfl, t', rfl, ?_⟩
    refine ⟨_, rfl, a, CR, dx, _, rfl, upd_same, R.own.cls, R.ns, (by show 2 < 1000; decide), ?_⟩
    refine q t' b' _ hl (fun d o e n => ?_) ⟨dx, upd_same⟩
    rw [upd_ne n, upd_ne n, upd_ne n, upd_ne (ne_of_none e hc)]
    exact e
def spMadeRatio (CR : Addr) : Sp := fun vs H Q _ => ∃ t b : Int, vs = [.int t, .int b] ∧ b ≠ 0 ∧ b.natAbs < 2 ^ 8000 ∧ ∀ (t' b' : Int) (a : Addr) (H' : Hp), LowT t b t' b' → H a = none → Same H H' → RatioAt CR H' a t' b' → Q (.ref a) H'
theorem ok_made_ratio (F : FnD K "made_ratio" "made_ratio" s_P_made_ratio f fd) (R : RatioK K CR) (C_P_lowest_terms : Cal P w K mg base 1 "lowest_terms" ["top", "bottom"] spLowest) (C_P_sign_of : Cal P w K mg base 1 "sign_of" ["number"] spSignOf)
    (N_Ratio_1 : CalC P w K mg base 3 "Ratio" CR ["self", "top", "bottom"] [.int 1] (spRatInit CR)) : FnOk P w K mg base CX0 5 f fd ["top", "bottom"] (spMadeRatio CR) := by
  refine F.ok sc_P_made_ratio (fun vs H Q E h => ?_) (fun cdv A outer s H vs Q E hr h => ?_)
  · obtain ⟨t, b, rfl, _⟩ := h; rfl
  · obtain ⟨t, b, rfl, b0, bb, q⟩ := h
    refine ⟨_, PSs.nox (pss_cons (ps_set (i := 2) sc_P_made_ratio.nd rfl (Or.inl rfl) (pe_cal C_P_lowest_terms (hr.mono (by decide)) (pa_cons (pv 0) (pa_cons (pv 1) pa_nil))))
      (pss_cons (ps_set (i := 3) sc_P_made_ratio.nd rfl (Or.inl rfl) (pe_new N_Ratio_1 (hr.mono (by decide)) (pa_cons pe_int pa_nil)))
      (pss_cons (ps_fld (pv 3) (pe_ix ix_tup (pv 2) pe_int (fun _ _ => rfl)) rfl)
      (pss_cons (ps_fld (pv 3) (pe_ix ix_tup (pv 2) pe_int (fun _ _ => rfl)) rfl)
      (pss_cons (ps_fld (pv 3) (pe_cal C_P_sign_of (hr.mono (by decide)) (pa_cons (pe_ix ix_tup (pv 2) pe_int (fun _ _ => rfl)) pa_nil)) rfl)
      (pss_one (ps_ret (pv 3)))))))), ?_⟩
    refine ⟨_, rfl, _, rfl, t, b, rfl, b0, bb, fun t' b' c hl hc => ?_⟩
    refine fun x dx hx hdx nd => ⟨x, dx, 0, 1, rfl, by decide, by decide +kernel, by decide +kernel, upd_same, fun t0 b1 H1 _ k1 ⟨dx2, r1⟩ => ⟨rfl, ?_⟩⟩
    have ncx : c ≠ x := ne_of_none upd_same hx
    have ncd : c ≠ dx := ne_of_none upd_same hdx
    have hcH : H1 c = some (.tup [.int t', .int b']) := k1 _ _ (by rw [upd_ne ncx, upd_ne ncd, upd_same]) ncx
    have hT : ∀ {H' : Hp} {o : HO}, H' c = some (.tup [.int t', .int b']) → (upd H' x o) c = some (.tup [.int t', .int b']) := fun {H' o} h => by
      rw [upd_ne ncx]
      exact h
    refine ⟨_, rfl, c, _, 0, .int t', rfl, rfl, SqT.of hcH, rfl, _, rfl, x, CR, dx2, _, rfl, r1, R.own.cls, R.nt, (by show 3 < 1000; decide), ?_⟩
    refine ⟨_, rfl, c, _, 1, .int b', rfl, rfl, SqT.of (hT hcH), rfl, _, rfl, x, CR, dx2, _, rfl, upd_same, R.own.cls, R.nb, (by show 3 < 1000; decide), ?_⟩
    refine ⟨_, rfl, c, _, 0, .int t', rfl, rfl, SqT.of (hT (hT hcH)), rfl, t', rfl, _, rfl, x, CR, dx2, _, rfl, upd_same, R.own.cls, R.ns, (by show 3 < 1000; decide), ?_⟩
    have hxH : H x = none := by
      have z := hx
      rw [upd_ne ncx.symm] at z
      exact z
    refine ⟨_, rfl, q t' b' x _ hl hxH (fun d o e => ?_) ⟨dx2, upd_same⟩⟩
    have nd1 : d ≠ x := ne_of_none e hxH
    have hdH : H dx = none := by
      have z := hdx
      rw [upd_ne ncd.symm] at z
      exact z
    rw [upd_ne nd1, upd_ne nd1, upd_ne nd1]
    refine k1 _ _ ?_ nd1
    rw [upd_ne nd1, upd_ne (ne_of_none e hdH), upd_ne (ne_of_none e hc)]
    exact e
end
end Sf

namespace Sf
open PySem PySem.Spec PyProof.Rows L2
section
variable {P : Program} {w : World} {K : PySem.W.Frag} {mg : Str → Option Value} {base : Heap} {f : Addr} {fd : FuncData} {CR : Addr}
/-- a ratio, or an integer that can be passed -/
inductive RatV (CR : Addr) (H : Hp) : V → Int → Int → Prop
  | rat {a : Addr} {t b : Int} (h : RatioAt CR H a t b) : RatV CR H (.ref a) t b
  | int {t : Int} (h : t.natAbs < 10 ^ 60) : RatV CR H (.int t) t 1
theorem RatV.same {H H' : Hp} {x : V} {t b : Int} (h : RatV CR H x t b) (s : Same H H') : RatV CR H' x t b := by
  cases h with
  | rat h => exact .rat (h.same s)
  | int h => exact .int h
def spRatV (CR : Addr) (v : V) : Sp := fun vs H Q _ => ∃ (x : V) (t b : Int), vs = [x] ∧ RatV CR H x t b ∧ Q v H
theorem ok_is_fraction (F : FnD K "is_fraction" "is_fraction" s_P_is_fraction f fd) (T : Glob mg) (R : RatioK K CR) (G_Ratio : mg "Ratio" = some (.ref CR)) (C_P_is_passed : Cal P w K mg base 2 "is_passed" ["value"] (spPassed K)) : FnOk P w K mg base CX0 3 f fd ["value"] (spRatV CR (.bl true)) := by
  refine F.ok sc_P_is_fraction (fun vs H Q E h => ?_) (fun cdv A outer s H vs Q E hr h => ?_)
  · obtain ⟨x, t, b, rfl, _⟩ := h; rfl
  · obtain ⟨x, t, b, rfl, hx, q⟩ := h
    refine ⟨_, PSs.nox (pss_one (ps_ret (pe_or (pe_callB call_isi (by rfl) T.m_isinstance (by decide +kernel) (pa_cons (pv 0) (pa_cons (pe_glob (v := .ref _) rfl G_Ratio rfl) pa_nil))) (pe_one (pe_cal C_P_is_passed (hr.mono (by decide)) (pa_cons (pv 0) pa_nil)))))), ?_⟩
    cases hx with
    | rat hx =>
      exact ⟨_, rfl, _, .ref CR, _, _, true, rfl, .own CR, R.own.ty hx.ins, R.own.kk, _, rfl, q⟩
    | int hb =>
      refine ⟨_, rfl, _, .ref CR, _, _, false, rfl, .own CR, .base (.int _), R.own.ki, _, rfl, ?_⟩
      refine ⟨_, rfl, .int t, true, rfl, .int t, ⟨fun _ => ⟨t, rfl⟩, fun _ => rfl⟩, fun r hr2 => ?_⟩
      have e : r = true := hr2.mpr ⟨t, rfl, hb⟩
      subst e
      exact q
theorem ok_check_ratio (F : FnD K "check_ratio" "check_ratio" s_P_check_ratio f fd) (C_P_is_fraction : Cal P w K mg base 3 "is_fraction" ["value"] (spRatV CR (.bl true))) : FnOk P w K mg base CX0 4 f fd ["value"] (spRatV CR .non) := by
  refine F.ok sc_P_check_ratio (fun vs H Q E h => ?_) (fun cdv A outer s H vs Q E hr h => ?_)
  · obtain ⟨x, t, b, rfl, _⟩ := h; rfl
  · obtain ⟨x, t, b, rfl, hx, q⟩ := h
    refine ⟨_, PSs.nox (pss_one (ps_if (pt_not (pt_val (pe_cal C_P_is_fraction (hr.mono (by decide)) (pa_cons (pv 0) pa_nil)))) (pss_one ps_never) pss_nil)), ?_⟩
    exact ⟨_, rfl, x, t, b, rfl, hx, _, rfl, q⟩
def spTermsOf (CR : Addr) : Sp := fun vs H Q _ => ∃ (x : V) (t b : Int), vs = [x] ∧ RatV CR H x t b ∧ ∀ a, H a = none → Q (.ref a) (upd H a (.tup [.int t, .int b]))
theorem ok_terms_of (F : FnD K "terms_of" "terms_of" s_P_terms_of f fd) (T : Glob mg) (R : RatioK K CR) (G_Ratio : mg "Ratio" = some (.ref CR)) : FnOk P w K mg base CX0 1 f fd ["ratio"] (spTermsOf CR) := by
  refine F.ok sc_P_terms_of (fun vs H Q E h => ?_) (fun cdv A outer s H vs Q E hr h => ?_)
  · obtain ⟨x, t, b, rfl, _⟩ := h; rfl
  · obtain ⟨x, t, b, rfl, hx, q⟩ := h
    refine ⟨_, PSs.nox (pss_cons (ps_if (pt_val (pe_callB call_isi (by rfl) T.m_isinstance (by decide +kernel) (pa_cons (pv 0) (pa_cons (pe_glob (v := .ref _) rfl G_Ratio rfl) pa_nil)))) (pss_one (ps_ret (pe_tup (pa_cons (pe_fld (pv 0) rfl) (pa_cons (pe_fld (pv 0) rfl) pa_nil))))) pss_nil)
      (pss_one (ps_ret (pe_tup (pa_cons (pv 0) (pa_cons pe_int pa_nil)))))), ?_⟩
    cases hx with
    | @rat a _ _ hx =>
      obtain ⟨dx, e⟩ := hx
      refine ⟨_, rfl, _, .ref CR, _, _, true, rfl, .own CR, R.own.ty ⟨dx, _, e⟩, R.own.kk, _, rfl, ?_⟩
      exact ⟨_, rfl, a, CR, dx, _, .int t, rfl, e, R.own.cls, R.nt, rfl, _, rfl, a, CR, dx, _, .int b, rfl, e, R.own.cls, R.nb, rfl, (by show 2 ≤ sizeLine; decide), fun c hc => q c hc⟩
    | int hb =>
      refine ⟨_, rfl, _, .ref CR, _, _, false, rfl, .own CR, .base (.int _), R.own.ki, _, rfl, ?_⟩
      exact ⟨_, rfl, (by show 2 ≤ sizeLine; decide), fun c hc => q c hc⟩
structure RatOpP (CR : Addr) (g h : Int → Int → Int → Int → Int) (vs : List V) (H : Hp) (Q : VK) : Prop where
  ex : ∃ (a : Addr) (y : V) (t b t2 b2 : Int), vs = [.ref a, y] ∧ RatioAt CR H a t b ∧ RatV CR H y t2 b2 ∧ t.natAbs < 2 ^ 3000 ∧ b.natAbs < 2 ^ 3000 ∧ t2.natAbs < 2 ^ 3000 ∧ b2.natAbs < 2 ^ 3000 ∧ h t b t2 b2 ≠ 0 ∧
    ∀ (t' b' : Int) (x : Addr) (H' : Hp), LowT (g t b t2 b2) (h t b t2 b2) t' b' → H x = none → Same H H' → RatioAt CR H' x t' b' → Q (.ref x) H'
def spRatOp (CR : Addr) (g h : Int → Int → Int → Int → Int) : Sp := fun vs H Q _ => RatOpP CR g h vs H Q
theorem mul3000 {x y : Int} (hx : x.natAbs < 2 ^ 3000) (hy : y.natAbs < 2 ^ 3000) : (x * y).natAbs < 2 ^ 6000 := by
  rw [Int.natAbs_mul, show (6000 : Nat) = 3000 + 3000 from rfl, Nat.pow_add]
  exact Nat.mul_lt_mul'' hx hy
theorem mul8000 {x y : Int} (hx : x.natAbs < 2 ^ 3000) (hy : y.natAbs < 2 ^ 3000) : (x * y).natAbs < 2 ^ 8000 := Nat.lt_of_lt_of_le (mul3000 hx hy) (Nat.pow_le_pow_right (by decide) (by decide))
theorem ok_Ratio_add (F : FnD K "__add__" "Ratio.__add__" s_P_Ratio___add__ f fd) (R : RatioK K CR) (C_P_is_fraction : Cal P w K mg base 3 "is_fraction" ["value"] (spRatV CR (.bl true))) (C_P_terms_of : Cal P w K mg base 1 "terms_of" ["ratio"] (spTermsOf CR)) (C_P_made_ratio : Cal P w K mg base 5 "made_ratio" ["top", "bottom"] (spMadeRatio CR)) :
    FnOk P w K mg base CX0 6 f fd ["self", "other"] (spRatOp CR (fun t b t2 b2 => t * b2 + t2 * b) (fun _ b _ b2 => b * b2)) := by
  refine F.ok sc_P_Ratio___add__ (fun vs H Q E h => ?_) (fun cdv A outer s H vs Q E hr h => ?_)
  · obtain ⟨a, y, t, b, t2, b2, rfl, _⟩ := h.ex; rfl
  · obtain ⟨a, y, t, b, t2, b2, rfl, ⟨dx, ha⟩, hy, h1, h2, h3, h4, h5, q⟩ := h.ex
    refine ⟨_, PSs.nox (pss_cons (ps_if (pt_not (pt_val (pe_cal C_P_is_fraction (hr.mono (by decide)) (pa_cons (pv 1) pa_nil)))) (pss_one ps_never) pss_nil)
      (pss_cons (ps_asg (pe_cal C_P_terms_of (hr.mono (by decide)) (pa_cons (pv 1) pa_nil)) (pg_tup (by rfl) (pgs_cons (pg_name (i := 2) sc_P_Ratio___add__.nd rfl (Or.inl rfl)) (pgs_cons (pg_name (i := 3) sc_P_Ratio___add__.nd rfl (Or.inl rfl)) pgs_nil))))
      (pss_one (ps_ret (pe_cal C_P_made_ratio (hr.mono (by decide)) (pa_cons (pe_op op_add (pe_op op_mulW (pe_fld (pv 0) rfl) (pv 3)) (pe_op op_mulW (pv 2) (pe_fld (pv 0) rfl))) (pa_cons (pe_op op_mulW (pe_fld (pv 0) rfl) (pv 3)) pa_nil))))))), ?_⟩
    refine ⟨_, rfl, y, t2, b2, rfl, hy, _, rfl, ?_⟩
    refine ⟨_, rfl, y, t2, b2, rfl, hy, fun c hc => ⟨c, _, rfl, .inl (.inl upd_same), rfl, _, _, rfl, _, _, rfl, rfl, ?_⟩⟩
    have hac : (upd H c (.tup [.int t2, .int b2])) a = _ := (upd_ne (ne_of_none ha hc)).trans ha
    refine ⟨_, rfl, a, CR, dx, _, .int t, rfl, hac, R.own.cls, R.nt, rfl, _, rfl, _, _, rfl, rfl, CMulW.of h1 h4, _, rfl, _, rfl, a, CR, dx, _, .int b, rfl, hac, R.own.cls, R.nb, rfl, _, _, rfl, rfl, CMulW.of h3 h2, _, _, rfl, rfl, ?_⟩
    refine ⟨_, rfl, a, CR, dx, _, .int b, rfl, hac, R.own.cls, R.nb, rfl, _, rfl, _, _, rfl, rfl, CMulW.of h2 h4, ?_⟩
    exact ⟨_, _, rfl, h5, mul8000 h2 h4, fun t' b' x H' hl hx e hR => q t' b' x H' hl ((same_upd hc).free hx) ((same_upd hc).trans e) hR⟩
theorem ok_Ratio_sub (F : FnD K "__sub__" "Ratio.__sub__" s_P_Ratio___sub__ f fd) (R : RatioK K CR) (C_P_is_fraction : Cal P w K mg base 3 "is_fraction" ["value"] (spRatV CR (.bl true))) (C_P_terms_of : Cal P w K mg base 1 "terms_of" ["ratio"] (spTermsOf CR)) (C_P_made_ratio : Cal P w K mg base 5 "made_ratio" ["top", "bottom"] (spMadeRatio CR)) :
    FnOk P w K mg base CX0 6 f fd ["self", "other"] (spRatOp CR (fun t b t2 b2 => t * b2 - t2 * b) (fun _ b _ b2 => b * b2)) := by
  refine F.ok sc_P_Ratio___sub__ (fun vs H Q E h => ?_) (fun cdv A outer s H vs Q E hr h => ?_)
  · obtain ⟨a, y, t, b, t2, b2, rfl, _⟩ := h.ex; rfl
  · obtain ⟨a, y, t, b, t2, b2, rfl, ⟨dx, ha⟩, hy, h1, h2, h3, h4, h5, q⟩ := h.ex
    refine ⟨_, PSs.nox (pss_cons (ps_if (pt_not (pt_val (pe_cal C_P_is_fraction (hr.mono (by decide)) (pa_cons (pv 1) pa_nil)))) (pss_one ps_never) pss_nil)
      (pss_cons (ps_asg (pe_cal C_P_terms_of (hr.mono (by decide)) (pa_cons (pv 1) pa_nil)) (pg_tup (by rfl) (pgs_cons (pg_name (i := 2) sc_P_Ratio___sub__.nd rfl (Or.inl rfl)) (pgs_cons (pg_name (i := 3) sc_P_Ratio___sub__.nd rfl (Or.inl rfl)) pgs_nil))))
      (pss_one (ps_ret (pe_cal C_P_made_ratio (hr.mono (by decide)) (pa_cons (pe_op op_sub (pe_op op_mulW (pe_fld (pv 0) rfl) (pv 3)) (pe_op op_mulW (pv 2) (pe_fld (pv 0) rfl))) (pa_cons (pe_op op_mulW (pe_fld (pv 0) rfl) (pv 3)) pa_nil))))))), ?_⟩
    refine ⟨_, rfl, y, t2, b2, rfl, hy, _, rfl, ?_⟩
    refine ⟨_, rfl, y, t2, b2, rfl, hy, fun c hc => ⟨c, _, rfl, .inl (.inl upd_same), rfl, _, _, rfl, _, _, rfl, rfl, ?_⟩⟩
    have hac : (upd H c (.tup [.int t2, .int b2])) a = _ := (upd_ne (ne_of_none ha hc)).trans ha
    refine ⟨_, rfl, a, CR, dx, _, .int t, rfl, hac, R.own.cls, R.nt, rfl, _, rfl, _, _, rfl, rfl, CMulW.of h1 h4, _, rfl, _, rfl, a, CR, dx, _, .int b, rfl, hac, R.own.cls, R.nb, rfl, _, _, rfl, rfl, CMulW.of h3 h2, _, _, rfl, rfl, ?_⟩
    refine ⟨_, rfl, a, CR, dx, _, .int b, rfl, hac, R.own.cls, R.nb, rfl, _, rfl, _, _, rfl, rfl, CMulW.of h2 h4, ?_⟩
    exact ⟨_, _, rfl, h5, mul8000 h2 h4, fun t' b' x H' hl hx e hR => q t' b' x H' hl ((same_upd hc).free hx) ((same_upd hc).trans e) hR⟩
theorem ok_Ratio_mul (F : FnD K "__mul__" "Ratio.__mul__" s_P_Ratio___mul__ f fd) (R : RatioK K CR) (C_P_is_fraction : Cal P w K mg base 3 "is_fraction" ["value"] (spRatV CR (.bl true))) (C_P_terms_of : Cal P w K mg base 1 "terms_of" ["ratio"] (spTermsOf CR)) (C_P_made_ratio : Cal P w K mg base 5 "made_ratio" ["top", "bottom"] (spMadeRatio CR)) :
    FnOk P w K mg base CX0 6 f fd ["self", "other"] (spRatOp CR (fun t b t2 b2 => t * t2) (fun _ b _ b2 => b * b2)) := by
  refine F.ok sc_P_Ratio___mul__ (fun vs H Q E h => ?_) (fun cdv A outer s H vs Q E hr h => ?_)
  · obtain ⟨a, y, t, b, t2, b2, rfl, _⟩ := h.ex; rfl
  · obtain ⟨a, y, t, b, t2, b2, rfl, ⟨dx, ha⟩, hy, h1, h2, h3, h4, h5, q⟩ := h.ex
    refine ⟨_, PSs.nox (pss_cons (ps_if (pt_not (pt_val (pe_cal C_P_is_fraction (hr.mono (by decide)) (pa_cons (pv 1) pa_nil)))) (pss_one ps_never) pss_nil)
      (pss_cons (ps_asg (pe_cal C_P_terms_of (hr.mono (by decide)) (pa_cons (pv 1) pa_nil)) (pg_tup (by rfl) (pgs_cons (pg_name (i := 2) sc_P_Ratio___mul__.nd rfl (Or.inl rfl)) (pgs_cons (pg_name (i := 3) sc_P_Ratio___mul__.nd rfl (Or.inl rfl)) pgs_nil))))
      (pss_one (ps_ret (pe_cal C_P_made_ratio (hr.mono (by decide)) (pa_cons (pe_op op_mulW (pe_fld (pv 0) rfl) (pv 2)) (pa_cons (pe_op op_mulW (pe_fld (pv 0) rfl) (pv 3)) pa_nil))))))), ?_⟩
    refine ⟨_, rfl, y, t2, b2, rfl, hy, _, rfl, ?_⟩
    refine ⟨_, rfl, y, t2, b2, rfl, hy, fun c hc => ⟨c, _, rfl, .inl (.inl upd_same), rfl, _, _, rfl, _, _, rfl, rfl, ?_⟩⟩
    have hac : (upd H c (.tup [.int t2, .int b2])) a = _ := (upd_ne (ne_of_none ha hc)).trans ha
    refine ⟨_, rfl, a, CR, dx, _, .int t, rfl, hac, R.own.cls, R.nt, rfl, _, rfl, _, _, rfl, rfl, CMulW.of h1 h3, ?_⟩
    refine ⟨_, rfl, a, CR, dx, _, .int b, rfl, hac, R.own.cls, R.nb, rfl, _, rfl, _, _, rfl, rfl, CMulW.of h2 h4, ?_⟩
    exact ⟨_, _, rfl, h5, mul8000 h2 h4, fun t' b' x H' hl hx e hR => q t' b' x H' hl ((same_upd hc).free hx) ((same_upd hc).trans e) hR⟩
def spRatNeg (CR : Addr) : Sp := fun vs H Q _ => ∃ (a : Addr) (t b : Int), vs = [.ref a] ∧ RatioAt CR H a t b ∧ b ≠ 0 ∧ b.natAbs < 2 ^ 8000 ∧ ∀ (t' b' : Int) (x : Addr) (H' : Hp), LowT (-t) b t' b' → H x = none → Same H H' → RatioAt CR H' x t' b' → Q (.ref x) H'
theorem ok_Ratio_neg (F : FnD K "__neg__" "Ratio.__neg__" s_P_Ratio___neg__ f fd) (R : RatioK K CR) (C_P_made_ratio : Cal P w K mg base 5 "made_ratio" ["top", "bottom"] (spMadeRatio CR)) : FnOk P w K mg base CX0 6 f fd ["self"] (spRatNeg CR) := by
  refine F.ok sc_P_Ratio___neg__ (fun vs H Q E h => ?_) (fun cdv A outer s H vs Q E hr h => ?_)
  · obtain ⟨a, t, b, rfl, _⟩ := h; rfl
  · obtain ⟨a, t, b, rfl, ⟨dx, ha⟩, b0, bb, q⟩ := h
    refine ⟨_, PSs.nox (pss_one (ps_ret (pe_cal C_P_made_ratio (hr.mono (by decide)) (pa_cons (pe_un un_neg (pe_fld (pv 0) rfl)) (pa_cons (pe_fld (pv 0) rfl) pa_nil))))), ?_⟩
    exact ⟨_, rfl, a, CR, dx, _, .int t, rfl, ha, R.own.cls, R.nt, rfl, t, rfl, _, rfl, a, CR, dx, _, .int b, rfl, ha, R.own.cls, R.nb, rfl, -t, b, rfl, b0, bb, q⟩
def spRatBool (CR : Addr) : Sp := fun vs H Q _ => ∃ (a : Addr) (t b : Int), vs = [.ref a] ∧ RatioAt CR H a t b ∧ Q (.bl (t != 0)) H
theorem ok_Ratio_bool (F : FnD K "__bool__" "Ratio.__bool__" s_P_Ratio___bool__ f fd) (T : Glob mg) (R : RatioK K CR) : FnOk P w K mg base CX0 1 f fd ["self"] (spRatBool CR) := by
  refine F.ok sc_P_Ratio___bool__ (fun vs H Q E h => ?_) (fun cdv A outer s H vs Q E hr h => ?_)
  · obtain ⟨a, t, b, rfl, _⟩ := h; rfl
  · obtain ⟨a, t, b, rfl, ⟨dx, ha⟩, q⟩ := h
    refine ⟨_, PSs.nox (pss_one (ps_ret (pe_callTy call_bool1 (by rfl) T.m_bool (by decide +kernel) (pa_cons (pe_fld (pv 0) rfl) pa_nil)))), ?_⟩
    exact ⟨_, rfl, a, CR, dx, _, .int t, rfl, ha, R.own.cls, R.nt, rfl, .inl ⟨t, rfl, q⟩⟩
structure RatEqP (CR : Addr) (vs : List V) (H : Hp) (Q : VK) : Prop where
  ex : ∃ (a : Addr) (y : V) (t b t2 b2 : Int), vs = [.ref a, y] ∧ RatioAt CR H a t b ∧ RatV CR H y t2 b2 ∧ ∀ r : Bool, (r = true ↔ t = t2 ∧ b = b2) → Q (.bl r) H
def spRatEq (CR : Addr) : Sp := fun vs H Q _ => RatEqP CR vs H Q
theorem ok_Ratio_eq (F : FnD K "__eq__" "Ratio.__eq__" s_P_Ratio___eq__ f fd) (T : Glob mg) (R : RatioK K CR) (G_Ratio : mg "Ratio" = some (.ref CR)) (C_P_is_integer : Cal P w K mg base 1 "is_integer" ["value"] (spIsInt K)) : FnOk P w K mg base CX0 2 f fd ["self", "value"] (spRatEq CR) := by
  refine F.ok sc_P_Ratio___eq__ (fun vs H Q E h => ?_) (fun cdv A outer s H vs Q E hr h => ?_)
  · obtain ⟨a, y, t, b, t2, b2, rfl, _⟩ := h.ex; rfl
  · obtain ⟨a, y, t, b, t2, b2, rfl, ⟨dx, ha⟩, hy, q⟩ := h.ex
    refine ⟨_, PSs.nox (pss_cons (ps_if (pt_val (pe_callB call_isi (by rfl) T.m_isinstance (by decide +kernel) (pa_cons (pv 1) (pa_cons (pe_glob (v := .ref _) rfl G_Ratio rfl) pa_nil)))) (pss_one (ps_ret (pe_and (pe_cmp (pc_eqI (pe_fld (pv 0) rfl) (pe_fld (pv 1) rfl)) rfl) (pe_one (pe_cmp (pc_eqI (pe_fld (pv 0) rfl) (pe_fld (pv 1) rfl)) rfl))))) pss_nil)
      (pss_one (ps_ret (pe_and (pe_cal C_P_is_integer (hr.mono (by decide)) (pa_cons (pv 1) pa_nil)) (pe_and (pe_cmp (pc_eqI (pe_fld (pv 0) rfl) pe_int) rfl) (pe_one (pe_cmp (pc_eqI (pe_fld (pv 0) rfl) (pv 1)) rfl))))))), ?_⟩
    cases hy with
    | @rat a2 _ _ hy =>
      obtain ⟨dx2, hb⟩ := hy
      refine ⟨_, rfl, _, .ref CR, _, _, true, rfl, .own CR, R.own.ty ⟨dx2, _, hb⟩, R.own.kk, _, rfl, ?_⟩
      refine ⟨_, rfl, a, CR, dx, _, .int t, rfl, ha, R.own.cls, R.nt, rfl, _, rfl, a2, CR, dx2, _, .int t2, rfl, hb, R.own.cls, R.nt, rfl, _, _, rfl, rfl, _, rfl, ifd (fun h1 => ?_) (fun h1 => ?_)⟩
      · refine ⟨_, rfl, a, CR, dx, _, .int b, rfl, ha, R.own.cls, R.nb, rfl, _, rfl, a2, CR, dx2, _, .int b2, rfl, hb, R.own.cls, R.nb, rfl, _, _, rfl, rfl, ?_⟩
        refine q _ ?_
        rw [decide_eq_true_iff]
        exact ⟨fun h => ⟨h1, h⟩, fun h => h.2⟩
      · refine q _ ⟨fun h => ?_, fun h => absurd h.1 h1⟩
        exact Bool.noConfusion h
    | int hb =>
      refine ⟨_, rfl, _, .ref CR, _, _, false, rfl, .own CR, .base (.int _), R.own.ki, _, rfl, ?_⟩
      refine ⟨_, rfl, .int t2, true, rfl, .int t2, _, rfl, ?_⟩
      refine ⟨_, rfl, a, CR, dx, _, .int b, rfl, ha, R.own.cls, R.nb, rfl, _, _, rfl, rfl, _, rfl, ifd (fun h1 => ?_) (fun h1 => ?_)⟩
      · refine ⟨_, rfl, a, CR, dx, _, .int t, rfl, ha, R.own.cls, R.nt, rfl, _, rfl, _, _, rfl, rfl, ?_⟩
        refine q _ ?_
        rw [decide_eq_true_iff]
        exact ⟨fun h => ⟨h, h1⟩, fun h => h.1⟩
      · refine q _ ⟨fun h => ?_, fun h => absurd h.2 h1⟩
        exact Bool.noConfusion h
theorem ok_Ratio_over (F : FnD K "over" "Ratio.over" s_P_Ratio_over f fd) (R : RatioK K CR) (C_P_check_ratio : Cal P w K mg base 4 "check_ratio" ["value"] (spRatV CR .non)) (C_P_terms_of : Cal P w K mg base 1 "terms_of" ["ratio"] (spTermsOf CR)) (C_P_made_ratio : Cal P w K mg base 5 "made_ratio" ["top", "bottom"] (spMadeRatio CR)) :
    FnOk P w K mg base CX0 6 f fd ["self", "other"] (spRatOp CR (fun t _ _ b2 => t * b2) (fun _ b t2 _ => b * t2)) := by
  refine F.ok sc_P_Ratio_over (fun vs H Q E h => ?_) (fun cdv A outer s H vs Q E hr h => ?_)
  · obtain ⟨a, y, t, b, t2, b2, rfl, _⟩ := h.ex; rfl
  · obtain ⟨a, y, t, b, t2, b2, rfl, ⟨dx, ha⟩, hy, h1, h2, h3, h4, h5, q⟩ := h.ex
    refine ⟨_, PSs.nox (pss_cons (ps_expr (pe_cal C_P_check_ratio (hr.mono (by decide)) (pa_cons (pv 1) pa_nil)))
      (pss_cons (ps_asg (pe_cal C_P_terms_of (hr.mono (by decide)) (pa_cons (pv 1) pa_nil)) (pg_tup (by rfl) (pgs_cons (pg_name (i := 2) sc_P_Ratio_over.nd rfl (Or.inl rfl)) (pgs_cons (pg_name (i := 3) sc_P_Ratio_over.nd rfl (Or.inl rfl)) pgs_nil))))
      (pss_cons (ps_if (pt_cmp (pc_eqI (pv 2) pe_int)) (pss_one ps_never) pss_nil)
      (pss_one (ps_ret (pe_cal C_P_made_ratio (hr.mono (by decide)) (pa_cons (pe_op op_mulW (pe_fld (pv 0) rfl) (pv 3)) (pa_cons (pe_op op_mulW (pe_fld (pv 0) rfl) (pv 2)) pa_nil)))))))), ?_⟩
    refine ⟨_, rfl, y, t2, b2, rfl, hy, ?_⟩
    refine ⟨_, rfl, y, t2, b2, rfl, hy, fun c hc => ⟨c, _, rfl, .inl (.inl upd_same), rfl, _, _, rfl, _, _, rfl, rfl, ?_⟩⟩
    have hac : (upd H c (.tup [.int t2, .int b2])) a = _ := (upd_ne (ne_of_none ha hc)).trans ha
    refine ⟨_, rfl, _, _, rfl, rfl, _, rfl, ifd (fun z => absurd (by rw [z]; exact Int.mul_zero b) h5) (fun _ => ?_)⟩
    refine ⟨_, rfl, a, CR, dx, _, .int t, rfl, hac, R.own.cls, R.nt, rfl, _, rfl, _, _, rfl, rfl, CMulW.of h1 h4, _, rfl, a, CR, dx, _, .int b, rfl, hac, R.own.cls, R.nb, rfl, _, rfl, _, _, rfl, rfl, CMulW.of h2 h3, ?_⟩
    exact ⟨_, _, rfl, h5, mul8000 h2 h3, fun t' b' x H' hl hx e hR => q t' b' x H' hl ((same_upd hc).free hx) ((same_upd hc).trans e) hR⟩
end
end Sf

namespace Sf
open PySem PySem.Spec PyProof.Rows L2
/-- the product of the primes among places -/
def discOf : List Int → Int
  | [] => 1
  | p :: l => (if p > 0 then p else 1) * discOf l
theorem disc_snoc : ∀ (l : List Int) (p : Int), discOf (l ++ [p]) = discOf l * (if p > 0 then p else 1)
  | [], p => by show (if p > 0 then p else 1) * 1 = 1 * _; omega
  | x :: l, p => by
    show _ * discOf (l ++ [p]) = _ * discOf l * _
    rw [disc_snoc l p, Int.mul_assoc]
theorem disc_small : ∀ (l : List Int), (∀ p ∈ l, p ≤ 1000000000) → (discOf l).natAbs ≤ 1000000000 ^ l.length
  | [], _ => by show 1 ≤ _; exact Nat.le_refl _
  | x :: l, h => by
    have ih := disc_small l fun p hp => h p (List.mem_cons_of_mem _ hp)
    have hx := h x List.mem_cons_self
    show ((if x > 0 then x else 1) * discOf l).natAbs ≤ 1000000000 ^ (l.length + 1)
    rw [Int.natAbs_mul, Nat.pow_succ, Nat.mul_comm]
    refine Nat.mul_le_mul ih ?_
    split <;> omega
section
variable {P : Program} {w : World} {K : PySem.W.Frag} {mg : Str → Option Value} {base : Heap} {f : Addr} {fd : FuncData} {CR CA CF : Addr}
theorem int_of_map {l : List Int} {i : Nat} {v : V} (h : (l.map V.int)[i]? = some v) : ∃ z, l[i]? = some z ∧ v = V.int z := by
  rw [List.getElem?_map] at h
  cases e : l[i]? with
  | none => rw [e] at h; cases h
  | some z => rw [e] at h; exact ⟨z, rfl, (Option.some.inj h).symm⟩
def spDisc : Sp := fun vs H Q _ => ∃ (a : Addr) (l : List Int), vs = [.ref a] ∧ H a = some (.tup (l.map V.int)) ∧ l.length ≤ 62 ∧ (∀ p ∈ l, p ≤ 1000000000) ∧ Q (.int (discOf l)) H
theorem ok_product_of_primes (F : FnD K "product_of_primes" "product_of_primes" s_P_product_of_primes f fd) : FnOk P w K mg base CX0 1 f fd ["places"] spDisc := by
  refine F.ok sc_P_product_of_primes (fun vs H Q E h => ?_) (fun cdv A outer s H vs Q E hr h => ?_)
  · obtain ⟨a, l, rfl, _⟩ := h; rfl
  · obtain ⟨a, l, rfl, ha, hl, hp, q⟩ := h
    refine ⟨_, PSs.nox (pss_cons (ps_set (i := 1) sc_P_product_of_primes.nd rfl (Or.inl rfl) pe_int)
      (pss_cons (ps_for PassesOwn.never rfl (pi_tup (pv 0)) (pg_name (i := 2) sc_P_product_of_primes.nd rfl (Or.inl rfl)) (pss_one (ps_if (pt_cmp (pc_gt (pv 2) pe_int)) (pss_one (ps_set (i := 1) sc_P_product_of_primes.nd rfl (Or.inl rfl) (pe_op op_mulW (pv 1) (pv 2)))) pss_nil)))
      (pss_one (ps_ret (pv 1))))), ?_⟩
    have hT : SqT K H a (l.map V.int) := .inl (.inl ha)
    refine ⟨_, rfl, a, rfl, ⟨_, hT⟩, for_tup (K := K) (a := a) (xs := l.map V.int) (fun i σ H' => H = H' ∧ ∃ v, σ = [some (.ref a), some (.int (discOf (l.take i))), v]) ⟨rfl, none, rfl⟩ (fun i σ H' _ e => by rw [← e.1]; exact hT) ?_ ?_⟩
    · rintro i y σ _ hi ⟨rfl, v, rfl⟩
      obtain ⟨p, hpi, rfl⟩ := int_of_map hi
      have pm := List.mem_of_getElem? hpi
      have pb := hp p pm
      have et : discOf (l.take (i + 1)) = discOf (l.take i) * (if p > 0 then p else 1) := by
        rw [List.take_add_one, hpi, ← disc_snoc]
        rfl
      have sm := disc_small (l.take i) fun x hx => hp x (List.mem_of_mem_take hx)
      have sb : (discOf (l.take i)).natAbs < 2 ^ 3000 := by
        refine Nat.lt_of_le_of_lt (Nat.le_trans sm (Nat.pow_le_pow_right (by decide) (?_ : (l.take i).length ≤ 62))) (by decide +kernel)
        have := List.length_take_le' i l
        omega
      refine ⟨_, rfl, _, _, rfl, rfl, _, rfl, ifd (fun h => ?_) (fun h => ?_)⟩
      · rw [if_pos h] at et
        refine ⟨_, rfl, _, rfl, _, _, rfl, rfl, CMulW.of sb (lt3000s (by omega) (by omega)), rfl, some (.int p), ?_⟩
        rw [et]; rfl
      · rw [if_neg h, Int.mul_one] at et
        exact ⟨rfl, some (.int p), by rw [et]; rfl⟩
    · rintro σ _ ⟨rfl, v, rfl⟩
      rw [List.length_map, List.take_length]
      exact ⟨_, rfl, q⟩
/-- the algebra of two numbers -/
structure AlgAt (CA : Addr) (H : Hp) (x : Addr) (a b : Int) : Prop where
  ex : ∃ (dx pl : Addr) (l : List Int), H x = some (.ins CA dx [("places", .ref pl), ("a", .int a), ("b", .int b), ("discriminant", .int (discOf l)), ("is_tables", .bl (decide (l.length = 0))), ("is_definite", .bl (decide ((0 : Int) ∈ l)))]) ∧
    H pl = some (.tup (l.map V.int)) ∧ PlacesOf a b l ∧ a ≠ 0 ∧ b ≠ 0 ∧ a.natAbs ≤ 1000000000 ∧ b.natAbs ≤ 1000000000
theorem AlgAt.same {H H' : Hp} {x : Addr} {a b : Int} (h : AlgAt CA H x a b) (s : Same H H') : AlgAt CA H' x a b := by
  obtain ⟨dx, pl, l, h1, h2, h3⟩ := h.ex
  exact ⟨dx, pl, l, s _ _ h1, s _ _ h2, h3⟩
theorem AlgAt.ins {H : Hp} {x : Addr} {a b : Int} (h : AlgAt CA H x a b) : Ins H x CA := by
  obtain ⟨dx, pl, l, h1, _⟩ := h.ex
  exact ⟨dx, _, h1⟩
structure AlgK (K : PySem.W.Frag) (CA : Addr) : Prop where
  own : OwnK K CA
  n1 : NoAttr K CA "places"
  n2 : NoAttr K CA "a"
  n3 : NoAttr K CA "b"
  n4 : NoAttr K CA "discriminant"
  n5 : NoAttr K CA "is_tables"
  n6 : NoAttr K CA "is_definite"
structure AlgInitP (CA : Addr) (vs : List V) (H : Hp) (Q : VK) : Prop where
  ex : ∃ (x dx : Addr) (a b : Int), vs = [.ref x, .int a, .int b] ∧ a ≠ 0 ∧ b ≠ 0 ∧ a.natAbs ≤ 1000000000 ∧ b.natAbs ≤ 1000000000 ∧ H x = some (.ins CA dx []) ∧ ∀ H', Keep x H H' → AlgAt CA H' x a b → Q .non H'
def spAlgInit (CA : Addr) : Sp := fun vs H Q _ => AlgInitP CA vs H Q
theorem place_le {a b p : Int} {l : List Int} (h : PlacesOf a b l) (a0 : a ≠ 0) (b0 : b ≠ 0) (a1 : a.natAbs ≤ 1000000000) (b1 : b.natAbs ≤ 1000000000) (hp : p ∈ l) : p ≤ 1000000000 := by
  obtain ⟨g, n⟩ := (h.2 p).mp hp
  rcases g with e | g
  · omega
  · by_cases c : p = 2
    · omega
    · have dv : ∀ {n : Int}, n ≠ 0 → n % p = 0 → p ≤ n.natAbs := fun {n} n0 d => by
        obtain ⟨k, hk⟩ := Int.dvd_of_emod_eq_zero d
        have k0 : k ≠ 0 := fun z => n0 (by rw [hk, z, Int.mul_zero])
        have p2 := g.1
        have e : n.natAbs = p.natAbs * k.natAbs := by rw [hk]; exact Int.natAbs_mul _ _
        have : p.natAbs * 1 ≤ p.natAbs * k.natAbs := Nat.mul_le_mul_left _ (by omega)
        omega
      by_cases ca : a % p = 0
      · have := dv a0 ca
        omega
      · by_cases cb : b % p = 0
        · have := dv b0 cb
          omega
        · exact absurd (sign_far g c ca cb n) (by decide)
theorem ok_Algebra_init (F : FnD K "__init__" "Algebra.__init__" s_P_Algebra___init__ f fd) (T : Glob mg) (R : AlgK K CA) (C_P_signed_places : Cal P w K mg base 5 "signed_places" ["a", "b"] spPlaces) (C_P_product_of_primes : Cal P w K mg base 1 "product_of_primes" ["places"] spDisc) :
    FnOk P w K mg base CX0 6 f fd ["self", "a", "b"] (spAlgInit CA) := by
  refine F.ok sc_P_Algebra___init__ (fun vs H Q E h => ?_) (fun cdv A outer s H vs Q E hr h => ?_)
  · obtain ⟨x, dx, a, b, rfl, _⟩ := h.ex; rfl
  · obtain ⟨x, dx, a, b, rfl, a0, b0, a1, b1, hx, q⟩ := h.ex
    refine ⟨_, PSs.nox (pss_cons (ps_fld (pv 0) (pe_cal C_P_signed_places (hr.mono (by decide)) (pa_cons (pv 1) (pa_cons (pv 2) pa_nil))) rfl)
      (pss_cons (ps_fld (pv 0) (pv 1) rfl)
      (pss_cons (ps_fld (pv 0) (pv 2) rfl)
      (pss_cons (ps_fld (pv 0) (pe_cal C_P_product_of_primes (hr.mono (by decide)) (pa_cons (pe_fld (pv 0) rfl) pa_nil)) rfl)
      (pss_cons (ps_fld (pv 0) (pe_cmp (pc_eqI (pe_callB call_len_seq (by rfl) T.m_len (by decide +kernel) (pa_cons (pe_fld (pv 0) rfl) pa_nil)) pe_int) rfl) rfl)
      (pss_one (ps_fld (pv 0) (pe_cmpR op_in_seq pe_int (pe_fld (pv 0) rfl) (by rfl)) rfl))))))), ?_⟩
    refine ⟨_, rfl, _, rfl, ⟨a, b, rfl, a0, b0, a1, b1, fun l pl H1 hpl hll e1 hn hpl1 => ?_⟩⟩
    have hx1 := e1 _ _ hx
    have npx : pl ≠ x := fun z => by
      rw [z, hx] at hn
      cases hn
    refine ⟨_, rfl, x, CA, dx, _, rfl, hx1, R.own.cls, R.n1, by decide, ?_⟩
    refine ⟨_, rfl, _, rfl, x, CA, dx, _, rfl, upd_same, R.own.cls, R.n2, (by show 1 < 1000; decide), ?_⟩
    refine ⟨_, rfl, _, rfl, x, CA, dx, _, rfl, upd_same, R.own.cls, R.n3, (by show 2 < 1000; decide), ?_⟩
    refine ⟨_, rfl, x, CA, dx, _, .ref pl, rfl, upd_same, R.own.cls, R.n1, rfl, pl, l, rfl, by rw [upd_ne npx, upd_ne npx, upd_ne npx]; exact hpl1, hll, fun p hp => place_le hpl a0 b0 a1 b1 hp, ?_⟩
    refine ⟨_, rfl, x, CA, dx, _, rfl, upd_same, R.own.cls, R.n4, (by show 3 < 1000; decide), ?_⟩
    refine ⟨_, rfl, x, CA, dx, _, .ref pl, rfl, upd_same, R.own.cls, R.n1, rfl, pl, _, rfl, .inr (SqT.of (by rw [upd_ne npx, upd_ne npx, upd_ne npx, upd_ne npx]; exact hpl1)), _, _, rfl, rfl, ?_⟩
    refine ⟨_, rfl, x, CA, dx, _, rfl, upd_same, R.own.cls, R.n5, (by show 4 < 1000; decide), ?_⟩
    refine ⟨_, rfl, x, CA, dx, _, .ref pl, rfl, upd_same, R.own.cls, R.n1, rfl, pl, _, rfl, .inr (SqT.of (by rw [upd_ne npx, upd_ne npx, upd_ne npx, upd_ne npx, upd_ne npx]; exact hpl1)), rfl, all_flat _, ?_⟩
    refine ⟨_, rfl, x, CA, dx, _, rfl, upd_same, R.own.cls, R.n6, (by show 5 < 1000; decide), ?_⟩
    refine q _ (fun d o e n => ?_) ⟨⟨dx, pl, l, ?_, ?_, hpl, a0, b0, a1, b1⟩⟩
    · rw [upd_ne n, upd_ne n, upd_ne n, upd_ne n, upd_ne n, upd_ne n]
      exact e1 _ _ e
    · rw [upd_same, inV_ints]
      show some (HO.ins CA dx [("places", V.ref pl), ("a", V.int a), ("b", V.int b), ("discriminant", V.int (discOf l)), ("is_tables", V.bl (decide ((((l.map V.int).length : Nat) : Int) = 0))), ("is_definite", V.bl (decide ((0 : Int) ∈ l)))]) = _
      have e : decide ((((l.map V.int).length : Nat) : Int) = 0) = decide (l.length = 0) := by
        rw [List.length_map, Bool.eq_iff_iff, decide_eq_true_iff, decide_eq_true_iff]
        omega
      rw [e]
    · rw [upd_ne npx, upd_ne npx, upd_ne npx, upd_ne npx, upd_ne npx, upd_ne npx]
      exact hpl1
end
end Sf

namespace Sf
open PySem PySem.Spec PyProof.Rows L2
def gcd5 (a b c d e : Int) : Nat := (((a.natAbs.gcd b.natAbs).gcd c.natAbs).gcd d.natAbs).gcd e.natAbs
theorem gcd5_dvd (a b c d e : Int) : ((gcd5 a b c d e : Nat) : Int) ∣ a ∧ ((gcd5 a b c d e : Nat) : Int) ∣ b ∧ ((gcd5 a b c d e : Nat) : Int) ∣ c ∧ ((gcd5 a b c d e : Nat) : Int) ∣ d ∧ ((gcd5 a b c d e : Nat) : Int) ∣ e := by
  have h1 : gcd5 a b c d e ∣ (((a.natAbs.gcd b.natAbs).gcd c.natAbs).gcd d.natAbs) := Nat.gcd_dvd_left _ _
  have h2 := Nat.dvd_trans h1 (Nat.gcd_dvd_left _ _)
  have h3 := Nat.dvd_trans h2 (Nat.gcd_dvd_left _ _)
  have t : ∀ {g : Nat} {x : Int}, g ∣ x.natAbs → (g : Int) ∣ x := fun h => Int.natAbs_dvd_natAbs.mp h
  exact ⟨t (Nat.dvd_trans h3 (Nat.gcd_dvd_left _ _)), t (Nat.dvd_trans h3 (Nat.gcd_dvd_right _ _)), t (Nat.dvd_trans h2 (Nat.gcd_dvd_right _ _)), t (Nat.dvd_trans h1 (Nat.gcd_dvd_right _ _)), t (Nat.gcd_dvd_right _ _)⟩
/-- the entries and the bottom of a four -/
structure Q5 where
  w : Int
  x : Int
  y : Int
  z : Int
  d : Int
/-- the same four, in lowest terms -/
def Low5 (q r : Q5) : Prop := 0 < r.d ∧ q.w * r.d = r.w * q.d ∧ q.x * r.d = r.x * q.d ∧ q.y * r.d = r.y * q.d ∧ q.z * r.d = r.z * q.d ∧ gcd5 r.w r.x r.y r.z r.d = 1
def scl (q : Q5) (c : Int) : Q5 := ⟨q.w.fdiv c, q.x.fdiv c, q.y.fdiv c, q.z.fdiv c, q.d.fdiv c⟩
theorem low5_of {q : Q5} (hb : q.d ≠ 0) : ((gcd5 q.w q.x q.y q.z q.d : Nat) : Int) ≠ 0 ∧ Low5 q (scl q (if q.d < 0 then -((gcd5 q.w q.x q.y q.z q.d : Nat) : Int) else ((gcd5 q.w q.x q.y q.z q.d : Nat) : Int))) := by
  obtain ⟨w, x, y, z, d⟩ := q
  dsimp only at *
  have g0 : 0 < gcd5 w x y z d := Nat.gcd_pos_of_pos_right _ (by omega)
  obtain ⟨⟨w1, hw⟩, ⟨x1, hx⟩, ⟨y1, hy⟩, ⟨z1, hz⟩, ⟨d1, hd⟩⟩ := gcd5_dvd w x y z d
  refine ⟨by omega, ?_⟩
  have hc : gcd5 w1 x1 y1 z1 d1 = 1 := by
    have e : gcd5 w x y z d = gcd5 w x y z d * gcd5 w1 x1 y1 z1 d1 := by
      conv => lhs; unfold gcd5
      generalize hg : gcd5 w x y z d = g at *
      rw [hw, hx, hy, hz, hd, Int.natAbs_mul, Int.natAbs_mul, Int.natAbs_mul, Int.natAbs_mul, Int.natAbs_mul, Int.natAbs_natCast, Nat.gcd_mul_left, Nat.gcd_mul_left, Nat.gcd_mul_left, Nat.gcd_mul_left]
      rfl
    have : gcd5 w x y z d * 1 = gcd5 w x y z d * gcd5 w1 x1 y1 z1 d1 := by rw [Nat.mul_one]; exact e
    exact (Nat.eq_of_mul_eq_mul_left g0 this).symm
  generalize gcd5 w x y z d = g at *
  have gi : (0 : Int) < g := by omega
  by_cases c : d < 0
  · rw [if_pos c]
    have ng : ∀ {a b : Int}, a = (g : Int) * b → a.fdiv (-(g : Int)) = -b := fun {a b} e => by
      rw [show a = (-(g : Int)) * (-b) by rw [Int.neg_mul_neg]; exact e]
      exact Int.mul_fdiv_cancel_left _ (by omega)
    unfold scl Low5
    dsimp only
    rw [ng hw, ng hx, ng hy, ng hz, ng hd]
    refine ⟨?_, by rw [hw, hd]; grind, by rw [hx, hd]; grind, by rw [hy, hd]; grind, by rw [hz, hd]; grind, ?_⟩
    · by_cases v0 : 0 ≤ d1
      · have := Int.mul_nonneg (Int.le_of_lt gi) v0
        omega
      · omega
    · unfold gcd5 at hc ⊢
      rw [Int.natAbs_neg, Int.natAbs_neg, Int.natAbs_neg, Int.natAbs_neg, Int.natAbs_neg]
      exact hc
  · rw [if_neg c]
    have ng : ∀ {a b : Int}, a = (g : Int) * b → a.fdiv (g : Int) = b := fun {a b} e => by
      rw [e]
      exact Int.mul_fdiv_cancel_left _ (by omega)
    unfold scl Low5
    dsimp only
    rw [ng hw, ng hx, ng hy, ng hz, ng hd]
    refine ⟨?_, by rw [hw, hd]; grind, by rw [hx, hd]; grind, by rw [hy, hd]; grind, by rw [hz, hd]; grind, hc⟩
    by_cases v0 : d1 ≤ 0
    · have := Int.mul_nonneg (Int.le_of_lt gi) (show 0 ≤ -d1 by omega)
      rw [Int.mul_neg] at this
      omega
    · omega
def ents (q : Q5) : List V := [.int q.w, .int q.x, .int q.y, .int q.z]
section
variable {P : Program} {w : World} {K : PySem.W.Frag} {mg : Str → Option Value} {base : Heap} {f : Addr} {fd : FuncData} {CR CA CF : Addr}
structure LowEP (vs : List V) (H : Hp) (Q : VK) : Prop where
  ex : ∃ (e : Addr) (q : Q5), vs = [.ref e, .int q.d] ∧ H e = some (.tup (ents q)) ∧ q.d ≠ 0 ∧ q.d.natAbs < 2 ^ 8000 ∧ ∀ (r : Q5) (a b : Addr) (H' : Hp), Low5 q r → Same H H' → H a = none → H b = none → H' a = some (.tup [.ref b, .int r.d]) → H' b = some (.tup (ents r)) → Q (.ref a) H'
def spLowE : Sp := fun vs H Q _ => LowEP vs H Q
theorem ok_lowest_entries (F : FnD K "lowest_entries" "lowest_entries" s_P_lowest_entries f fd) (T : Glob mg) : FnOk P w K mg base CX0 1 f fd ["entries", "bottom"] spLowE := by
  refine F.ok sc_P_lowest_entries (fun vs H Q E h => ?_) (fun cdv A outer s H vs Q E hr h => ?_)
  · obtain ⟨e, q, rfl, _⟩ := h.ex; rfl
  · obtain ⟨e, q5, rfl, he, d0, db, q⟩ := h.ex
    refine ⟨_, PSs.nox (pss_cons (ps_asg (pv 0) (pg_tup (by rfl) (pgs_cons (pg_name (i := 2) sc_P_lowest_entries.nd rfl (Or.inl rfl)) (pgs_cons (pg_name (i := 3) sc_P_lowest_entries.nd rfl (Or.inl rfl)) (pgs_cons (pg_name (i := 4) sc_P_lowest_entries.nd rfl (Or.inl rfl)) (pgs_cons (pg_name (i := 5) sc_P_lowest_entries.nd rfl (Or.inl rfl)) pgs_nil))))))
      (pss_cons (ps_set (i := 6) sc_P_lowest_entries.nd rfl (Or.inl rfl) (pe_callGB cr_gcd5 (by rfl) T.m_gcd (pa_cons (pv 2) (pa_cons (pv 3) (pa_cons (pv 4) (pa_cons (pv 5) (pa_cons (pv 1) pa_nil)))))))
      (Evl.pss_cut (ps_if (pt_cmp (pc_lt (pv 1) pe_int)) (pss_one (ps_set (i := 6) sc_P_lowest_entries.nd rfl (Or.inl rfl) (pe_un un_neg (pv 6)))) pss_nil)
      (pss_one (ps_ret (pe_tup (pa_cons (pe_tup (pa_cons (pe_op op_fdivZ (pv 2) (pv 6)) (pa_cons (pe_op op_fdivZ (pv 3) (pv 6)) (pa_cons (pe_op op_fdivZ (pv 4) (pv 6)) (pa_cons (pe_op op_fdivZ (pv 5) (pv 6)) pa_nil))))) (pa_cons (pe_op op_fdivZ (pv 1) (pv 6)) pa_nil)))))))), ?_⟩
    obtain ⟨g0, hl⟩ := low5_of d0
    have gb : gcd5 q5.w q5.x q5.y q5.z q5.d < 2 ^ 8000 := Nat.lt_of_le_of_lt (Nat.le_of_dvd (by omega) (Nat.gcd_dvd_right _ _)) db
    refine ⟨_, rfl, e, _, rfl, .inl (.inl he), rfl, _, _, rfl, _, _, rfl, _, _, rfl, _, _, rfl, rfl, ?_⟩
    refine ⟨_, rfl, _, rfl, _, rfl, _, rfl, _, rfl, q5.w, q5.x, q5.y, q5.z, q5.d, rfl, ?_⟩
    have eg : ((((((q5.w.natAbs.gcd q5.x.natAbs).gcd q5.y.natAbs).gcd q5.z.natAbs).gcd q5.d.natAbs : Nat) : Int)) = ((gcd5 q5.w q5.x q5.y q5.z q5.d : Nat) : Int) := rfl
    rw [eg]
    generalize gcd5 q5.w q5.x q5.y q5.z q5.d = g at *
    refine ⟨fun σ' H' => σ' = [some (.ref e), some (.int q5.d), some (.int q5.w), some (.int q5.x), some (.int q5.y), some (.int q5.z), some (.int (if q5.d < 0 then -(g : Int) else (g : Int)))] ∧ H = H', ?_, ?_⟩
    · refine ⟨_, rfl, _, _, rfl, rfl, _, rfl, ifd (fun h => ?_) (fun h => ?_)⟩
      · rw [if_pos h]
        exact ⟨_, rfl, _, rfl, rfl, rfl⟩
      · rw [if_neg h]
        exact ⟨rfl, rfl⟩
    · rintro σ' _ ⟨rfl, rfl⟩
      have c0 : (if q5.d < 0 then -(g : Int) else (g : Int)) ≠ 0 := by split <;> omega
      have cb : (if q5.d < 0 then -(g : Int) else (g : Int)).natAbs < 2 ^ 8000 := by split <;> omega
      generalize (if q5.d < 0 then -(g : Int) else (g : Int)) = c at *
      have Z : ∀ i, CDivZ i c := fun i => CDivZ.of c0 cb
      refine ⟨_, rfl, _, rfl, _, _, rfl, rfl, Z _, _, rfl, _, rfl, _, _, rfl, rfl, Z _, _, rfl, _, rfl, _, _, rfl, rfl, Z _, _, rfl, _, rfl, _, _, rfl, rfl, Z _, (by show 4 ≤ sizeLine; decide), fun b hb => ?_⟩
      refine ⟨_, rfl, _, rfl, _, _, rfl, rfl, Z _, (by show 2 ≤ sizeLine; decide), fun a ha => ?_⟩
      have nab : b ≠ a := ne_of_none (H := upd H b _) upd_same ha
      have haH : H a = none := (same_upd hb).free ha
      exact q (scl q5 c) a b _ hl ((same_upd hb).trans (same_upd ha)) haH hb upd_same (by rw [upd_ne nab, upd_same]; rfl)
end
end Sf

namespace Sf
open PySem PySem.Spec PyProof.Rows L2
section
variable {P : Program} {w : World} {K : PySem.W.Frag} {mg : Str → Option Value} {base : Heap} {f : Addr} {fd : FuncData} {CR CA CF : Addr}
def spIsAlg (CA : Addr) : Sp := fun vs H Q _ => ∃ x a b, vs = [.ref x] ∧ AlgAt CA H x a b ∧ Q .non H
theorem ok_check_algebra (F : FnD K "check_algebra" "check_algebra" s_P_check_algebra f fd) (T : Glob mg) (R : AlgK K CA) (G_Algebra : mg "Algebra" = some (.ref CA)) : FnOk P w K mg base CX0 1 f fd ["value"] (spIsAlg CA) := by
  refine F.ok sc_P_check_algebra (fun vs H Q E h => ?_) (fun cdv A outer s H vs Q E hr h => ?_)
  · obtain ⟨x, a, b, rfl, _⟩ := h; rfl
  · obtain ⟨x, a, b, rfl, hx, q⟩ := h
    refine ⟨_, PSs.nox (pss_one (ps_if (pt_not (pt_val (pe_callB call_isi (by rfl) T.m_isinstance (by decide +kernel) (pa_cons (pv 0) (pa_cons (pe_glob (v := .ref _) rfl G_Algebra rfl) pa_nil))))) (pss_one ps_never) pss_nil)), ?_⟩
    exact ⟨_, rfl, _, .ref CA, _, _, true, rfl, .own CA, R.own.ty hx.ins, R.own.kk, _, rfl, q⟩
/-- w w - a x x - b y y + a b z z -/
def normT (a b : Int) (q : Q5) : Int := q.w * q.w - a * q.x * q.x - b * q.y * q.y + a * b * q.z * q.z
def Bd (n : Nat) (q : Q5) : Prop := q.w.natAbs < 2 ^ n ∧ q.x.natAbs < 2 ^ n ∧ q.y.natAbs < 2 ^ n ∧ q.z.natAbs < 2 ^ n ∧ q.d.natAbs < 2 ^ n
structure NormP (CR CA : Addr) (vs : List V) (H : Hp) (Q : VK) : Prop where
  ex : ∃ (al e : Addr) (a b : Int) (q : Q5), vs = [.ref al, .ref e, .int q.d] ∧ AlgAt CA H al a b ∧ H e = some (.tup (ents q)) ∧ q.d ≠ 0 ∧ Bd 3000 q ∧ ∀ (t' b' : Int) (x : Addr) (H' : Hp), LowT (normT a b q) (q.d * q.d) t' b' → H x = none → Same H H' → RatioAt CR H' x t' b' → Q (.ref x) H'
def spNorm (CR CA : Addr) : Sp := fun vs H Q _ => NormP CR CA vs H Q
theorem wmul {i j : Int} {m n : Nat} (h1 : i.natAbs < 2 ^ m) (h2 : j.natAbs < 2 ^ n) (m0 : 0 < m) (n0 : 0 < n) (hs : m + n ≤ 900000) : CMulW i j := by
  unfold CMulW
  have e1 : i.natAbs.log2 < m := PySem.Flt.log2_lt_of m0 h1
  have e2 : j.natAbs.log2 < n := PySem.Flt.log2_lt_of n0 h2
  omega
theorem ok_norm_of (F : FnD K "norm_of" "norm_of" s_P_norm_of f fd) (R : AlgK K CA) (C_P_made_ratio : Cal P w K mg base 5 "made_ratio" ["top", "bottom"] (spMadeRatio CR)) : FnOk P w K mg base CX0 6 f fd ["algebra", "entries", "bottom"] (spNorm CR CA) := by
  refine F.ok sc_P_norm_of (fun vs H Q E h => ?_) (fun cdv A outer s H vs Q E hr h => ?_)
  · obtain ⟨al, e, a, b, q, rfl, _⟩ := h.ex; rfl
  · obtain ⟨al, e, a, b, q5, rfl, hal, he, d0, ⟨b1, b2, b3, b4, b5⟩, q⟩ := h.ex
    refine ⟨_, PSs.nox (pss_cons (ps_asg (pv 1) (pg_tup (by rfl) (pgs_cons (pg_name (i := 3) sc_P_norm_of.nd rfl (Or.inl rfl)) (pgs_cons (pg_name (i := 4) sc_P_norm_of.nd rfl (Or.inl rfl)) (pgs_cons (pg_name (i := 5) sc_P_norm_of.nd rfl (Or.inl rfl)) (pgs_cons (pg_name (i := 6) sc_P_norm_of.nd rfl (Or.inl rfl)) pgs_nil))))))
      (pss_cons (ps_set (i := 7) sc_P_norm_of.nd rfl (Or.inl rfl) (pe_op op_add (pe_op op_sub (pe_op op_sub (pe_op op_mulW (pv 3) (pv 3)) (pe_op op_mulW (pe_op op_mulW (pe_fld (pv 0) rfl) (pv 4)) (pv 4))) (pe_op op_mulW (pe_op op_mulW (pe_fld (pv 0) rfl) (pv 5)) (pv 5))) (pe_op op_mulW (pe_op op_mulW (pe_op op_mulW (pe_fld (pv 0) rfl) (pe_fld (pv 0) rfl)) (pv 6)) (pv 6))))
      (pss_one (ps_ret (pe_cal C_P_made_ratio (hr.mono (by decide)) (pa_cons (pv 7) (pa_cons (pe_op op_mulW (pv 2) (pv 2)) pa_nil))))))), ?_⟩
    obtain ⟨dx, pl, l, hx, _, _, a0, b0, ab, bb⟩ := hal.ex
    have a3 : a.natAbs < 2 ^ 30 := by omega
    have b3' : b.natAbs < 2 ^ 30 := by omega
    have l2 : ∀ {i j : Int} {m n : Nat}, i.natAbs < 2 ^ m → j.natAbs < 2 ^ n → (i * j).natAbs < 2 ^ (m + n) := fun h1 h2 => wide_lt h1 h2
    refine ⟨_, rfl, e, _, rfl, .inl (.inl he), rfl, _, _, rfl, _, _, rfl, _, _, rfl, _, _, rfl, rfl, ?_⟩
    refine ⟨_, rfl, _, rfl, _, _, rfl, rfl, wmul b1 b1 (by decide) (by decide) (by decide), _, rfl, al, CA, dx, _, .int a, rfl, hx, R.own.cls, R.n2, rfl, _, rfl, _, _, rfl, rfl, wmul a3 b2 (by decide) (by decide) (by decide), _, rfl, _, _, rfl, rfl, wmul (l2 a3 b2) b2 (by decide) (by decide) (by decide), _, _, rfl, rfl, ?_⟩
    refine ⟨_, rfl, al, CA, dx, _, .int b, rfl, hx, R.own.cls, R.n3, rfl, _, rfl, _, _, rfl, rfl, wmul b3' b3 (by decide) (by decide) (by decide), _, rfl, _, _, rfl, rfl, wmul (l2 b3' b3) b3 (by decide) (by decide) (by decide), _, _, rfl, rfl, ?_⟩
    refine ⟨_, rfl, al, CA, dx, _, .int a, rfl, hx, R.own.cls, R.n2, rfl, _, rfl, al, CA, dx, _, .int b, rfl, hx, R.own.cls, R.n3, rfl, _, _, rfl, rfl, wmul a3 b3' (by decide) (by decide) (by decide), _, rfl, _, _, rfl, rfl, wmul (l2 a3 b3') b4 (by decide) (by decide) (by decide), _, rfl, _, _, rfl, rfl, wmul (l2 (l2 a3 b3') b4) b4 (by decide) (by decide) (by decide), _, _, rfl, rfl, ?_⟩
    refine ⟨_, rfl, _, rfl, _, rfl, _, _, rfl, rfl, wmul b5 b5 (by decide) (by decide) (by decide), ?_⟩
    refine ⟨_, _, rfl, Int.mul_ne_zero d0 d0, ?_, q⟩
    exact Nat.lt_of_lt_of_le (l2 b5 b5) (Nat.pow_le_pow_right (by decide) (by decide))
end
end Sf

namespace Sf
open PySem PySem.Spec PyProof.Rows L2
theorem cut_tail4 (a b c d : V) : cutV [a, b, c, d] (some 1) none = [b, c, d] := by
  unfold cutV
  show List.take (HT.sIx 4 4 none - HT.sIx 4 0 (some 1)) (List.drop (HT.sIx 4 0 (some 1)) [a, b, c, d]) = _
  rw [show HT.sIx 4 0 (some 1) = min 1 4 from HT.sIx_nat 4 0 1, HT.sIx_none]
  rfl
theorem eqv_tups' (a b : List Int) : PyData.eqv (.tuple (a.map PyData.int)) (.tuple (b.map PyData.int)) = decide (a = b) := by
  rw [← eqv_ints a b]
  unfold PyData.eqv
  rfl
section
variable {P : Program} {w : World} {K : PySem.W.Frag} {mg : Str → Option Value} {base : Heap} {f : Addr} {fd : FuncData} {CR CA CF : Addr}
def Pass60 (q : Q5) : Prop := q.w.natAbs < 10 ^ 60 ∧ q.x.natAbs < 10 ^ 60 ∧ q.y.natAbs < 10 ^ 60 ∧ q.z.natAbs < 10 ^ 60 ∧ q.d.natAbs < 10 ^ 60
def spPassE : Sp := fun vs H Q _ => ∃ (e : Addr) (q : Q5), vs = [.ref e] ∧ H e = some (.tup (ents q)) ∧ Pass60 q ∧ ∀ H', Same H H' → Q (.bl true) H'
theorem ok_is_passed_entries (F : FnD K "is_passed_entries" "is_passed_entries" s_P_is_passed_entries f fd) (T : Glob mg) (C_P_is_passed : Cal P w K mg base 2 "is_passed" ["value"] (spPassed K)) : FnOk P w K mg base CX0 3 f fd ["value"] spPassE := by
  refine F.ok sc_P_is_passed_entries (fun vs H Q E h => ?_) (fun cdv A outer s H vs Q E hr h => ?_)
  · obtain ⟨e, q, rfl, _⟩ := h; rfl
  · obtain ⟨e, q5, rfl, he, ⟨p1, p2, p3, p4, _⟩, q⟩ := h
    refine ⟨_, PSs.nox (pss_one (ps_ret (pe_and (pe_callB call_isi (by rfl) T.m_isinstance (by decide +kernel) (pa_cons (pv 0) (pa_cons (pe_bltn (v := .ty "tuple") (u := .type "tuple") (by rfl) T.m_tuple (by decide +kernel) rfl) pa_nil))) (pe_and (pe_cmp (pc_eqI (pe_callB call_len_seq (by rfl) T.m_len (by decide +kernel) (pa_cons (pv 0) pa_nil)) pe_int) rfl) (pe_one (pe_callB (cr_all rfl) (by rfl) T.m_all (by decide +kernel) (pa_cons (pe_lc rfl sc_P_is_passed_entries.nd (own := [("part", 1)]) (pi_tup (pv 0)) (blkOk_by (N := ["value", "part"]) (sc := defScope s_P_is_passed_entries) (by decide +kernel)) (fun _ _ _ _ _ => pg_name (i := 1) sc_P_is_passed_entries.nd rfl (Or.inl rfl)) (fun _ _ _ _ _ => pts_nil) (fun _ _ _ _ _ => (pe_cal C_P_is_passed (hr.mono (by decide)) (pa_cons (pv 1) pa_nil)))) pa_nil))))))), ?_⟩
    refine ⟨_, rfl, _, .ty "tuple", _, _, true, rfl, .ty "tuple", .base (.tup he), (by show kitB "tuple" "tuple" = some true; decide +kernel), _, rfl, ?_⟩
    refine ⟨_, rfl, e, _, rfl, .inr (SqT.of he), _, _, rfl, rfl, _, rfl, ?_⟩
    have hall : ∀ i v, (ents q5)[i]? = some v → ∃ n : Int, v = V.int n ∧ n.natAbs < 10 ^ 60 := fun i v h => by
      have hm := List.mem_of_getElem? h
      have cases : v = V.int q5.w ∨ v = V.int q5.x ∨ v = V.int q5.y ∨ v = V.int q5.z := by simpa [ents] using hm
      rcases cases with c | c | c | c
      · exact ⟨_, c, p1⟩
      · exact ⟨_, c, p2⟩
      · exact ⟨_, c, p3⟩
      · exact ⟨_, c, p4⟩
    refine ⟨_, rfl, e, rfl, ⟨_, SqT.of he⟩, fun D hD => lc_tup (K := K) (a := e) (xs := ents q5) (fun i H' => Same H H' ∧ H' D = some (.lst ((List.replicate i true).map V.bl))) ⟨same_upd hD, upd_same⟩ (fun i H' _ hp => SqT.of (hp.1 _ _ he)) (fun i v H' hv hp => ?_) (fun H' hp => ?_)⟩
    · obtain ⟨e1, hd⟩ := hp
      obtain ⟨n, rfl, hn⟩ := hall i v hv
      refine ⟨rfl, ?_⟩
      refine ⟨_, rfl, .int n, true, rfl, .int n, ⟨fun _ => ⟨n, rfl⟩, fun _ => rfl⟩, fun r hr2 => ?_⟩
      have e : r = true := hr2.mpr ⟨n, rfl, hn⟩
      subst e
      have il : i < 4 := (List.getElem?_eq_some_iff.mp hv).1
      refine ⟨_, hd, ?_, ?_, ?_⟩
      · rw [List.length_map, List.length_replicate]
        exact Nat.lt_of_lt_of_le il (by decide)
      · intro b o eb
        rw [upd_ne (ne_of_none eb hD)]
        exact e1 _ _ eb
      · rw [upd_same, List.replicate_succ', List.map_append]; rfl
    · obtain ⟨e1, hd⟩ := hp
      exact ⟨D, _, rfl, SqL.of hd, q _ e1⟩
/-- a four: its algebra, its entries and its bottom in lowest terms -/
structure FourAt (CF CR : Addr) (H : Hp) (x al : Addr) (a b : Int) (q : Q5) : Prop where
  ex : ∃ (dx e tr nm : Addr) (t1 t2 n1 n2 : Int), H x = some (.ins CF dx [("algebra", .ref al), ("entries", .ref e), ("bottom", .int q.d), ("trace", .ref tr), ("norm", .ref nm), ("is_ratio", .bl (decide (q.x = 0 ∧ q.y = 0 ∧ q.z = 0)))]) ∧
    H e = some (.tup (ents q)) ∧ RatioAt CR H tr t1 t2 ∧ LowT (2 * q.w) q.d t1 t2 ∧ RatioAt CR H nm n1 n2 ∧ LowT (normT a b q) (q.d * q.d) n1 n2
  pos : 0 < q.d
  low : gcd5 q.w q.x q.y q.z q.d = 1
theorem FourAt.same {H H' : Hp} {x al : Addr} {a b : Int} {q : Q5} (h : FourAt CF CR H x al a b q) (s : Same H H') : FourAt CF CR H' x al a b q := by
  obtain ⟨dx, e, tr, nm, t1, t2, n1, n2, h1, h2, h3, h4, h5, h6⟩ := h.ex
  exact ⟨⟨dx, e, tr, nm, t1, t2, n1, n2, s _ _ h1, s _ _ h2, h3.same s, h4, h5.same s, h6⟩, h.pos, h.low⟩
theorem FourAt.ins {H : Hp} {x al : Addr} {a b : Int} {q : Q5} (h : FourAt CF CR H x al a b q) : Ins H x CF := by
  obtain ⟨dx, e, tr, nm, t1, t2, n1, n2, h1, _⟩ := h.ex
  exact ⟨dx, _, h1⟩
structure FourK (K : PySem.W.Frag) (CF : Addr) : Prop where
  own : OwnK K CF
  n1 : NoAttr K CF "algebra"
  n2 : NoAttr K CF "entries"
  n3 : NoAttr K CF "bottom"
  n4 : NoAttr K CF "trace"
  n5 : NoAttr K CF "norm"
  n6 : NoAttr K CF "is_ratio"
structure FourInitP (CF CR CA : Addr) (vs : List V) (H : Hp) (Q : VK) : Prop where
  ex : ∃ (x dx al e : Addr) (a b : Int) (q : Q5), vs = [.ref x, .ref al, .ref e, .int q.d] ∧ AlgAt CA H al a b ∧ al ≠ x ∧ H e = some (.tup (ents q)) ∧ q.d ≠ 0 ∧ Pass60 q ∧ Bd 3000 q ∧ H x = some (.ins CF dx []) ∧ (∀ r, Low5 q r → Bd 3000 r) ∧
    ∀ (r : Q5) (H' : Hp), Low5 q r → Keep x H H' → FourAt CF CR H' x al a b r → Q .non H'
def spFourInit (CF CR CA : Addr) : Sp := fun vs H Q _ => FourInitP CF CR CA vs H Q
set_option maxHeartbeats 8000000 in
theorem ok_Four_init (F : FnDD K "__init__" "Four.__init__" s_P_Four___init__ [.int 1] f fd) (T : Glob mg) (R : FourK K CF) (C_P_check_algebra : Cal P w K mg base 1 "check_algebra" ["value"] (spIsAlg CA)) (C_P_is_passed_entries : Cal P w K mg base 3 "is_passed_entries" ["value"] spPassE)
    (C_P_is_passed : Cal P w K mg base 2 "is_passed" ["value"] (spPassed K)) (C_P_lowest_entries : Cal P w K mg base 1 "lowest_entries" ["entries", "bottom"] spLowE) (C_P_made_ratio : Cal P w K mg base 5 "made_ratio" ["top", "bottom"] (spMadeRatio CR)) (C_P_norm_of : Cal P w K mg base 6 "norm_of" ["algebra", "entries", "bottom"] (spNorm CR CA)) :
    FnOk P w K mg base CX0 7 f fd ["self", "algebra", "entries", "bottom"] (spFourInit CF CR CA) := by
  refine F.ok sc_P_Four___init__ (fun vs H Q E h => ?_) (fun cdv A outer s H vs Q E hr h => ?_)
  · obtain ⟨x, dx, al, e, a, b, q, rfl, _⟩ := h.ex; rfl
  · obtain ⟨x, dx, al, e, a, b, q5, rfl, hal, nax, he, d0, hp, bd, hx, hlow, q⟩ := h.ex
    refine ⟨_, PSs.nox (pss_cons (ps_expr (pe_cal C_P_check_algebra (hr.mono (by decide)) (pa_cons (pv 1) pa_nil)))
      (pss_cons (ps_if (pt_not (pt_val (pe_cal C_P_is_passed_entries (hr.mono (by decide)) (pa_cons (pv 2) pa_nil)))) (pss_one ps_never) pss_nil)
      (pss_cons (ps_if (PW.pt (pw_or (pt_not (pt_val (pe_cal C_P_is_passed (hr.mono (by decide)) (pa_cons (pv 3) pa_nil)))) (pw_or1 (pt_cmp (pc_eqI (pv 3) pe_int))))) (pss_one ps_never) pss_nil)
      (pss_cons (ps_fld (pv 0) (pv 1) rfl)
      (pss_cons (ps_asg (pe_cal C_P_lowest_entries (hr.mono (by decide)) (pa_cons (pv 2) (pa_cons (pv 3) pa_nil))) (pg_tup (by rfl) (pgs_cons (pg_attr (pv 0)) (pgs_cons (pg_attr (pv 0)) pgs_nil))))
      (pss_cons (ps_fld (pv 0) (pe_cal C_P_made_ratio (hr.mono (by decide)) (pa_cons (pe_op op_mulW pe_int (pe_ix ix_tup (pe_fld (pv 0) rfl) pe_int (fun _ _ => rfl))) (pa_cons (pe_fld (pv 0) rfl) pa_nil))) rfl)
      (pss_cons (ps_fld (pv 0) (pe_cal C_P_norm_of (hr.mono (by decide)) (pa_cons (pv 1) (pa_cons (pe_fld (pv 0) rfl) (pa_cons (pe_fld (pv 0) rfl) pa_nil)))) rfl)
      (pss_one (ps_fld (pv 0) (pe_cmpR (op_eqD hr.units) (pe_slice sl_tup (pe_fld (pv 0) rfl) (po_some pe_int) po_none) (pe_tup (pa_cons pe_int (pa_cons pe_int (pa_cons pe_int pa_nil)))) (nomark _)) rfl))))))))), ?_⟩
    refine ⟨_, rfl, al, a, b, rfl, hal, ?_⟩
    refine ⟨_, rfl, e, q5, rfl, he, hp, fun H1 e1 => ⟨_, rfl, ?_⟩⟩
    refine ⟨_, rfl, .int q5.d, true, rfl, .int _, ⟨fun _ => ⟨_, rfl⟩, fun _ => rfl⟩, fun r hr2 => ⟨_, rfl, ?_⟩⟩
    have er : r = true := hr2.mpr ⟨_, rfl, hp.2.2.2.2⟩
    subst er
    refine ⟨_, rfl, _, _, rfl, rfl, _, rfl, ifd (fun h => absurd h d0) (fun _ => ?_)⟩
    have hx1 := e1 _ _ hx
    have nex : e ≠ x := fun z => by rw [z, hx] at he; cases he
    have m0 : (0 : Int) < 1 := by decide
    refine ⟨_, rfl, _, rfl, x, CF, dx, _, rfl, hx1, R.own.cls, R.n1, by decide, ?_⟩
    refine ⟨_, rfl, _, rfl, ⟨e, q5, rfl, by rw [upd_ne nex]; exact e1 _ _ he, d0, Nat.lt_of_lt_of_le bd.2.2.2.2 (Nat.pow_le_pow_right (by decide) (by decide)), fun r5 c u H2 hl e2 hc hu hc2 hu2 => ?_⟩⟩
    have rp := hl.1
    have rb := hlow r5 hl
    have hx2 := e2 _ _ upd_same
    have ncx : c ≠ x := fun z => by rw [z, upd_same] at hc; cases hc
    have nux : u ≠ x := fun z => by rw [z, upd_same] at hu; cases hu
    have k2 : Keep x H H2 := ((Keep.same e1).trans Keep.upd).trans (Keep.same e2)
    -- the algebra stays while the object at x is filled
    have ka : ∀ {H' : Hp}, Keep x H H' → AlgAt CA H' al a b := fun {H'} k => by
      obtain ⟨d1, pl, l, g1, g2, g3⟩ := hal.ex
      refine ⟨d1, pl, l, k _ _ g1 nax, k _ _ g2 (fun z => ?_), g3⟩
      rw [z, hx] at g2
      cases g2
    refine ⟨c, _, rfl, .inl (.inl hc2), rfl, _, _, rfl, _, rfl, x, CF, dx, _, rfl, hx2, R.own.cls, R.n2, (by show 1 < 1000; decide), ?_⟩
    refine ⟨_, _, rfl, _, rfl, x, CF, dx, _, rfl, upd_same, R.own.cls, R.n3, (by show 2 < 1000; decide), rfl, ?_⟩
    have u3 : (upd (upd H2 x (.ins CF dx [("algebra", .ref al), ("entries", .ref u)])) x (.ins CF dx [("algebra", .ref al), ("entries", .ref u), ("bottom", .int r5.d)])) u = some (.tup (ents r5)) := by
      rw [upd_ne nux, upd_ne nux]
      exact hu2
    refine ⟨_, rfl, x, CF, dx, _, .ref u, rfl, upd_same, R.own.cls, R.n2, rfl, u, _, 0, .int r5.w, rfl, rfl, SqT.of u3, rfl, _, _, rfl, rfl, CMulW.of (lt3000s (by decide) (by decide)) rb.1, ?_⟩
    refine ⟨_, rfl, x, CF, dx, _, .int r5.d, rfl, upd_same, R.own.cls, R.n3, rfl, ?_⟩
    refine ⟨_, _, rfl, by omega, Nat.lt_of_lt_of_le rb.2.2.2.2 (Nat.pow_le_pow_right (by decide) (by decide)), fun t1 t2 tr H3 hlt htr e3 hR => ?_⟩
    have hx3 := e3 _ _ upd_same
    have ntx : tr ≠ x := fun z => by rw [z, upd_same] at htr; cases htr
    have k3 : Keep x H2 H3 := (Keep.upd.trans Keep.upd).trans (Keep.same e3)
    refine ⟨_, rfl, x, CF, dx, _, rfl, hx3, R.own.cls, R.n4, (by show 3 < 1000; decide), ?_⟩
    have k4 : Keep x H2 (upd H3 x (.ins CF dx [("algebra", .ref al), ("entries", .ref u), ("bottom", .int r5.d), ("trace", .ref tr)])) := k3.trans Keep.upd
    refine ⟨_, rfl, _, rfl, x, CF, dx, _, .ref u, rfl, upd_same, R.own.cls, R.n2, rfl, _, rfl, x, CF, dx, _, .int r5.d, rfl, upd_same, R.own.cls, R.n3, rfl, ?_⟩
    refine ⟨⟨al, u, a, b, r5, rfl, ka (k2.trans k4), k4 _ _ hu2 nux, by omega, rb, fun n1 n2 nm H4 hln hnm e4 hN => ?_⟩⟩
    have hx4 := e4 _ _ upd_same
    have nnx : nm ≠ x := fun z => by rw [z, upd_same] at hnm; cases hnm
    refine ⟨_, rfl, x, CF, dx, _, rfl, hx4, R.own.cls, R.n5, (by show 4 < 1000; decide), ?_⟩
    have k5 : Keep x H2 (upd H4 x (.ins CF dx [("algebra", .ref al), ("entries", .ref u), ("bottom", .int r5.d), ("trace", .ref tr), ("norm", .ref nm)])) := (k4.trans (Keep.same e4)).trans Keep.upd
    refine ⟨_, rfl, x, CF, dx, _, .ref u, rfl, upd_same, R.own.cls, R.n2, rfl, ?_⟩
    refine ⟨1, rfl, u, _, rfl, SqT.of (k5 _ _ hu2 nux), ?hc, fun p hp => ⟨(by show 3 ≤ sizeLine; decide), fun p2 hp2 => ?_⟩⟩
    case hc =>
      show ¬ (HT.sIx 4 0 (some 1) = 0 ∧ HT.sIx 4 4 none = 4)
      rw [show HT.sIx 4 0 (some 1) = min 1 4 from HT.sIx_nat 4 0 1]
      decide
    have npx : p ≠ x := fun z => by rw [z, upd_same] at hp; cases hp
    have np2x : p2 ≠ x := fun z => by rw [z, upd_ne npx.symm, upd_same] at hp2; cases hp2
    have npp : p ≠ p2 := ne_of_none upd_same hp2
    refine ⟨.tuple ([r5.x, r5.y, r5.z].map PyData.int), .tuple ([0, 0, 0].map PyData.int), dp_tup (ns := [r5.x, r5.y, r5.z]) (SqT.of ?_), dp_tup (ns := [0, 0, 0]) (SqT.of upd_same), shp_tup _, shp_tup _, ?_⟩
    · rw [upd_ne npp, upd_same]
      show some (HO.tup (cutV [V.int r5.w, V.int r5.x, V.int r5.y, V.int r5.z] (some 1) none)) = _
      rw [cut_tail4]
      rfl
    rw [eqv_tups']
    refine ⟨_, rfl, x, CF, dx, _, rfl, by rw [upd_ne np2x.symm, upd_ne npx.symm, upd_same], R.own.cls, R.n6, (by show 5 < 1000; decide), ?_⟩
    have k6 : Keep x H2 (upd (upd (upd (upd H4 x (.ins CF dx [("algebra", .ref al), ("entries", .ref u), ("bottom", .int r5.d), ("trace", .ref tr), ("norm", .ref nm)])) p (.tup (cutV (ents r5) (some 1) none))) p2 (.tup [.int 0, .int 0, .int 0])) x (.ins CF dx [("algebra", .ref al), ("entries", .ref u), ("bottom", .int r5.d), ("trace", .ref tr), ("norm", .ref nm), ("is_ratio", .bl (decide ([r5.x, r5.y, r5.z] = [0, 0, 0])))])) :=
      ((k5.trans (Keep.new hp)).trans (Keep.new hp2)).trans Keep.upd
    have k63 : Keep x H3 (upd (upd (upd (upd H4 x (.ins CF dx [("algebra", .ref al), ("entries", .ref u), ("bottom", .int r5.d), ("trace", .ref tr), ("norm", .ref nm)])) p (.tup (cutV (ents r5) (some 1) none))) p2 (.tup [.int 0, .int 0, .int 0])) x (.ins CF dx [("algebra", .ref al), ("entries", .ref u), ("bottom", .int r5.d), ("trace", .ref tr), ("norm", .ref nm), ("is_ratio", .bl (decide ([r5.x, r5.y, r5.z] = [0, 0, 0])))])) :=
      ((((Keep.upd.trans (Keep.same e4)).trans Keep.upd).trans (Keep.new hp)).trans (Keep.new hp2)).trans Keep.upd
    have k64 : Keep x H4 (upd (upd (upd (upd H4 x (.ins CF dx [("algebra", .ref al), ("entries", .ref u), ("bottom", .int r5.d), ("trace", .ref tr), ("norm", .ref nm)])) p (.tup (cutV (ents r5) (some 1) none))) p2 (.tup [.int 0, .int 0, .int 0])) x (.ins CF dx [("algebra", .ref al), ("entries", .ref u), ("bottom", .int r5.d), ("trace", .ref tr), ("norm", .ref nm), ("is_ratio", .bl (decide ([r5.x, r5.y, r5.z] = [0, 0, 0])))])) :=
      ((Keep.upd.trans (Keep.new hp)).trans (Keep.new hp2)).trans Keep.upd
    obtain ⟨dt, hR⟩ := hR
    obtain ⟨dn, hN⟩ := hN
    refine q r5 _ hl (k2.trans k6) ⟨⟨dx, u, tr, nm, t1, t2, n1, n2, ?_, k6 _ _ hu2 nux, ⟨dt, k63 _ _ hR ntx⟩, hlt, ⟨dn, k64 _ _ hN nnx⟩, hln⟩, hl.1, hl.2.2.2.2.2⟩
    rw [upd_same]
    show some (HO.ins CF dx [("algebra", V.ref al), ("entries", V.ref u), ("bottom", V.int r5.d), ("trace", V.ref tr), ("norm", V.ref nm), ("is_ratio", V.bl (decide ([r5.x, r5.y, r5.z] = [0, 0, 0])))]) = _
    have e : decide ([r5.x, r5.y, r5.z] = [0, 0, 0]) = decide (r5.x = 0 ∧ r5.y = 0 ∧ r5.z = 0) := by
      rw [Bool.eq_iff_iff, decide_eq_true_iff, decide_eq_true_iff]
      simp
    rw [e]
end
end Sf

namespace Sf
open PySem PySem.Spec PyProof.Rows L2
section
variable {P : Program} {w : World} {K : PySem.W.Frag} {mg : Str → Option Value} {base : Heap} {f : Addr} {fd : FuncData} {CR CA CF : Addr}
structure MadeFourP (CF CR CA : Addr) (vs : List V) (H : Hp) (Q : VK) : Prop where
  ex : ∃ (al e : Addr) (a b : Int) (q : Q5), vs = [.ref al, .ref e, .int q.d] ∧ AlgAt CA H al a b ∧ H e = some (.tup (ents q)) ∧ q.d ≠ 0 ∧ q.d.natAbs < 2 ^ 8000 ∧ (∀ r, Low5 q r → Bd 3000 r) ∧
    ∀ (r : Q5) (x : Addr) (H' : Hp), Low5 q r → H x = none → Same H H' → FourAt CF CR H' x al a b r → Q (.ref x) H'
def spMadeFour (CF CR CA : Addr) : Sp := fun vs H Q _ => MadeFourP CF CR CA vs H Q
theorem zero_low {r : Q5} (h : Low5 ⟨0, 0, 0, 0, 1⟩ r) : r = ⟨0, 0, 0, 0, 1⟩ := by
  obtain ⟨h0, h1, h2, h3, h4, h5⟩ := h
  obtain ⟨w, x, y, z, d⟩ := r
  dsimp only at *
  have e1 : w = 0 := by omega
  have e2 : x = 0 := by omega
  have e3 : y = 0 := by omega
  have e4 : z = 0 := by omega
  subst e1 e2 e3 e4
  have e5 : d.natAbs = 1 := by
    unfold gcd5 at h5
    simpa using h5
  have e6 : d = 1 := by omega
  rw [e6]
set_option maxHeartbeats 8000000 in
theorem ok_made_four (F : FnD K "made_four" "made_four" s_P_made_four f fd) (R : FourK K CF) (C_P_lowest_entries : Cal P w K mg base 1 "lowest_entries" ["entries", "bottom"] spLowE) (N_Four_2 : CalC P w K mg base 7 "Four" CF ["self", "algebra", "entries", "bottom"] [.int 1] (spFourInit CF CR CA))
    (C_P_made_ratio : Cal P w K mg base 5 "made_ratio" ["top", "bottom"] (spMadeRatio CR)) (C_P_norm_of : Cal P w K mg base 6 "norm_of" ["algebra", "entries", "bottom"] (spNorm CR CA)) :
    FnOk P w K mg base CX0 9 f fd ["algebra", "entries", "bottom"] (spMadeFour CF CR CA) := by
  refine F.ok sc_P_made_four (fun vs H Q E h => ?_) (fun cdv A outer s H vs Q E hr h => ?_)
  · obtain ⟨al, e, a, b, q, rfl, _⟩ := h.ex; rfl
  · obtain ⟨al, e, a, b, q5, rfl, hal, he, d0, db, hlow, q⟩ := h.ex
    refine ⟨_, PSs.nox (pss_cons (ps_set (i := 3) sc_P_made_four.nd rfl (Or.inl rfl) (pe_cal C_P_lowest_entries (hr.mono (by decide)) (pa_cons (pv 1) (pa_cons (pv 2) pa_nil))))
      (pss_cons (ps_set (i := 4) sc_P_made_four.nd rfl (Or.inl rfl) (pe_new N_Four_2 (hr.mono (by decide)) (pa_cons (pv 0) (pa_cons (pe_tup (pa_cons pe_int (pa_cons pe_int (pa_cons pe_int (pa_cons pe_int pa_nil))))) pa_nil))))
      (pss_cons (ps_fld (pv 4) (pe_ix ix_tup (pv 3) pe_int (fun _ _ => rfl)) rfl)
      (pss_cons (ps_fld (pv 4) (pe_ix ix_tup (pv 3) pe_int (fun _ _ => rfl)) rfl)
      (pss_cons (ps_fld (pv 4) (pe_cal C_P_made_ratio (hr.mono (by decide)) (pa_cons (pe_op op_mulW pe_int (pe_ix ix_tup (pe_ix ix_tup (pv 3) pe_int (fun _ _ => rfl)) pe_int (fun _ _ => rfl))) (pa_cons (pe_ix ix_tup (pv 3) pe_int (fun _ _ => rfl)) pa_nil))) rfl)
      (pss_cons (ps_fld (pv 4) (pe_cal C_P_norm_of (hr.mono (by decide)) (pa_cons (pv 0) (pa_cons (pe_ix ix_tup (pv 3) pe_int (fun _ _ => rfl)) (pa_cons (pe_ix ix_tup (pv 3) pe_int (fun _ _ => rfl)) pa_nil)))) rfl)
      (pss_cons (ps_fld (pv 4) (pe_cmpR (op_eqD hr.units) (pe_slice sl_tup (pe_ix ix_tup (pv 3) pe_int (fun _ _ => rfl)) (po_some pe_int) po_none) (pe_tup (pa_cons pe_int (pa_cons pe_int (pa_cons pe_int pa_nil)))) (nomark _)) rfl)
      (pss_one (ps_ret (pv 4)))))))))), ?_⟩
    refine ⟨_, rfl, _, rfl, ⟨e, q5, rfl, he, d0, db, fun r5 c u H2 hl e2 hc hu hc2 hu2 => ?_⟩⟩
    have rp := hl.1
    have rb := hlow r5 hl
    have ncu : c ≠ u := fun z => by
      rw [z, hu2] at hc2
      have := congrArg (fun o => match o with | some (HO.tup l) => l.length | _ => 0) hc2
      exact absurd (show (4 : Nat) = 2 from this) (by decide)
    refine ⟨_, rfl, (by show 4 ≤ sizeLine; decide), fun z4 hz4 => ?_⟩
    have e3 := e2.trans (same_upd (o := .tup [.int 0, .int 0, .int 0, .int 0]) hz4)
    refine fun x dx hx hdx nd => ?_
    have e4 : Same (upd H2 z4 (.tup [.int 0, .int 0, .int 0, .int 0])) (upd (upd (upd H2 z4 (.tup [.int 0, .int 0, .int 0, .int 0])) dx (.own x)) x (.ins CF dx [])) := (same_upd hdx).trans (same_upd (by rw [upd_ne nd.symm]; exact hx))
    have nax : al ≠ x := fun z => by
      obtain ⟨d1, pl, l, g1, _⟩ := ((hal.same e3)).ex
      rw [z, hx] at g1
      cases g1
    refine ⟨x, dx, al, z4, a, b, ⟨0, 0, 0, 0, 1⟩, rfl, (hal.same e3).same e4, nax, e4 _ _ upd_same, by decide, ⟨by decide +kernel, by decide +kernel, by decide +kernel, by decide +kernel, by decide +kernel⟩, ⟨by decide +kernel, by decide +kernel, by decide +kernel, by decide +kernel, by decide +kernel⟩, upd_same, fun r hr => by rw [zero_low hr]; exact ⟨by decide +kernel, by decide +kernel, by decide +kernel, by decide +kernel, by decide +kernel⟩, fun r1 H3 _ k3 hF => ⟨rfl, ?_⟩⟩
    obtain ⟨dx2, e1, tr1, nm1, t1, t2, n1, n2, g1, _⟩ := hF.ex
    have hxH : H x = none := e3.free hx
    have kx : Keep x (upd H2 z4 (.tup [.int 0, .int 0, .int 0, .int 0])) H3 := (Keep.same e4).trans k3
    have kH2 : Keep x H2 H3 := (Keep.new hz4).trans kx
    have kH : Keep x H H3 := (Keep.same e2).trans kH2
    have nux : u ≠ x := fun z => by
      have := same_upd (o := .tup [.int 0, .int 0, .int 0, .int 0]) hz4 _ _ hu2
      rw [z, hx] at this
      cases this
    have ncx : c ≠ x := fun z => by
      have := same_upd (o := .tup [.int 0, .int 0, .int 0, .int 0]) hz4 _ _ hc2
      rw [z, hx] at this
      cases this
    have hc3 := kH2 _ _ hc2 ncx
    have hu3 := kH2 _ _ hu2 nux
    have cT : ∀ {G : Hp}, Keep x H3 G → SqT K G c [.ref u, .int r5.d] := fun {G} k => SqT.of (k _ _ hc3 ncx)
    have uT : ∀ {G : Hp}, Keep x H3 G → SqT K G u (ents r5) := fun {G} k => SqT.of (k _ _ hu3 nux)
    have ka : ∀ {G : Hp}, Keep x H3 G → AlgAt CA G al a b := fun {G} k => by
      obtain ⟨d1, pl, l, y1, y2, y3⟩ := hal.ex
      refine ⟨d1, pl, l, (kH.trans k) _ _ y1 nax, (kH.trans k) _ _ y2 (fun z => ?_), y3⟩
      rw [z, hxH] at y2
      cases y2
    have k0 := Keep.refl x H3
    refine ⟨_, rfl, c, _, 0, .ref u, rfl, rfl, cT k0, rfl, _, rfl, x, CF, dx2, _, rfl, g1, R.own.cls, R.n2, (by show 6 < 1000; decide), ?_⟩
    refine ⟨_, rfl, c, _, 1, .int r5.d, rfl, rfl, cT (k0.trans Keep.upd), rfl, _, rfl, x, CF, dx2, _, rfl, upd_same, R.own.cls, R.n3, (by show 6 < 1000; decide), ?_⟩
    refine ⟨_, rfl, c, _, 0, .ref u, rfl, rfl, cT ((k0.trans Keep.upd).trans Keep.upd), rfl, u, _, 0, .int r5.w, rfl, rfl, uT ((k0.trans Keep.upd).trans Keep.upd), rfl, _, _, rfl, rfl, CMulW.of (lt3000s (by decide) (by decide)) rb.1, ?_⟩
    refine ⟨_, rfl, c, _, 1, .int r5.d, rfl, rfl, cT ((k0.trans Keep.upd).trans Keep.upd), rfl, ?_⟩
    refine ⟨_, _, rfl, by omega, Nat.lt_of_lt_of_le rb.2.2.2.2 (Nat.pow_le_pow_right (by decide) (by decide)), fun s1 s2 tr H4 hlt htr f3 hR => ?_⟩
    have k1 : Keep x H3 H4 := ((k0.trans Keep.upd).trans Keep.upd).trans (Keep.same f3)
    have hx4 := f3 _ _ upd_same
    have ntx : tr ≠ x := fun z => by rw [z, upd_same] at htr; cases htr
    refine ⟨_, rfl, x, CF, dx2, _, rfl, hx4, R.own.cls, R.n4, (by show 6 < 1000; decide), ?_⟩
    have k2 := k1.trans (Keep.upd (p := x) (o := .ins CF dx2 [("algebra", .ref al), ("entries", .ref u), ("bottom", .int r5.d), ("trace", .ref tr), ("norm", .ref nm1), ("is_ratio", .bl (decide (r1.x = 0 ∧ r1.y = 0 ∧ r1.z = 0)))]))
    refine ⟨_, rfl, _, rfl, c, _, 0, .ref u, rfl, rfl, cT k2, rfl, _, rfl, c, _, 1, .int r5.d, rfl, rfl, cT k2, rfl, ?_⟩
    refine ⟨⟨al, u, a, b, r5, rfl, ka k2, k2 _ _ hu3 nux, by omega, rb, fun m1 m2 nm H5 hln hnm f4 hN => ?_⟩⟩
    have hx5 := f4 _ _ upd_same
    have nnx : nm ≠ x := fun z => by rw [z, upd_same] at hnm; cases hnm
    refine ⟨_, rfl, x, CF, dx2, _, rfl, hx5, R.own.cls, R.n5, (by show 6 < 1000; decide), ?_⟩
    have k3' := (k2.trans (Keep.same f4)).trans (Keep.upd (p := x) (o := .ins CF dx2 [("algebra", .ref al), ("entries", .ref u), ("bottom", .int r5.d), ("trace", .ref tr), ("norm", .ref nm), ("is_ratio", .bl (decide (r1.x = 0 ∧ r1.y = 0 ∧ r1.z = 0)))]))
    refine ⟨_, rfl, c, _, 0, .ref u, rfl, rfl, cT k3', rfl, 1, rfl, u, _, rfl, uT k3', ?hc, fun p hp => ⟨(by show 3 ≤ sizeLine; decide), fun p2 hp2 => ?_⟩⟩
    case hc =>
      show ¬ (HT.sIx 4 0 (some 1) = 0 ∧ HT.sIx 4 4 none = 4)
      rw [show HT.sIx 4 0 (some 1) = min 1 4 from HT.sIx_nat 4 0 1]
      decide
    have npx : p ≠ x := fun z => by rw [z, upd_same] at hp; cases hp
    have np2x : p2 ≠ x := fun z => by rw [z, upd_ne npx.symm, upd_same] at hp2; cases hp2
    have npp : p ≠ p2 := ne_of_none upd_same hp2
    refine ⟨.tuple ([r5.x, r5.y, r5.z].map PyData.int), .tuple ([0, 0, 0].map PyData.int), dp_tup (ns := [r5.x, r5.y, r5.z]) (SqT.of ?_), dp_tup (ns := [0, 0, 0]) (SqT.of upd_same), shp_tup _, shp_tup _, ?_⟩
    · rw [upd_ne npp, upd_same]
      show some (HO.tup (cutV [V.int r5.w, V.int r5.x, V.int r5.y, V.int r5.z] (some 1) none)) = _
      rw [cut_tail4]
      rfl
    rw [eqv_tups']
    refine ⟨_, rfl, x, CF, dx2, _, rfl, by rw [upd_ne np2x.symm, upd_ne npx.symm, upd_same], R.own.cls, R.n6, (by show 6 < 1000; decide), ?_⟩
    have hk : ∀ {G : Hp} {o : HO}, Keep x G (upd H5 x (.ins CF dx2 [("algebra", .ref al), ("entries", .ref u), ("bottom", .int r5.d), ("trace", .ref tr), ("norm", .ref nm), ("is_ratio", .bl (decide (r1.x = 0 ∧ r1.y = 0 ∧ r1.z = 0)))])) → Keep x G (upd (upd (upd (upd H5 x (.ins CF dx2 [("algebra", .ref al), ("entries", .ref u), ("bottom", .int r5.d), ("trace", .ref tr), ("norm", .ref nm), ("is_ratio", .bl (decide (r1.x = 0 ∧ r1.y = 0 ∧ r1.z = 0)))])) p (.tup (cutV (ents r5) (some 1) none))) p2 (.tup [.int 0, .int 0, .int 0])) x o) :=
      fun k => ((k.trans (Keep.new hp)).trans (Keep.new hp2)).trans Keep.upd
    obtain ⟨dt, hR⟩ := hR
    obtain ⟨dn, hN⟩ := hN
    have q4 : Keep x H4 (upd H5 x (.ins CF dx2 [("algebra", .ref al), ("entries", .ref u), ("bottom", .int r5.d), ("trace", .ref tr), ("norm", .ref nm), ("is_ratio", .bl (decide (r1.x = 0 ∧ r1.y = 0 ∧ r1.z = 0)))])) := (Keep.upd.trans (Keep.same f4)).trans Keep.upd
    refine ⟨_, rfl, q r5 x _ hl hxH (fun d o e => hk (kH.trans k3') _ _ e (ne_of_none e hxH)) ⟨⟨dx2, u, tr, nm, s1, s2, m1, m2, ?_, hk k3' _ _ hu3 nux, ⟨dt, hk q4 _ _ hR ntx⟩, hlt, ⟨dn, hk Keep.upd _ _ hN nnx⟩, hln⟩, hl.1, hl.2.2.2.2.2⟩⟩
    rw [upd_same]
    have e : decide ([r5.x, r5.y, r5.z] = [0, 0, 0]) = decide (r5.x = 0 ∧ r5.y = 0 ∧ r5.z = 0) := by
      rw [Bool.eq_iff_iff, decide_eq_true_iff, decide_eq_true_iff]
      simp
    rw [e]
    rfl
end
end Sf

namespace Sf
open PySem PySem.Spec PyProof.Rows L2
section
variable {P : Program} {w : World} {K : PySem.W.Frag} {mg : Str → Option Value} {base : Heap} {f : Addr} {fd : FuncData} {CR CA CF : Addr}
/-- == of two algebras that are told by equal numbers, or of one -/
def spAlgEq (CA : Addr) : Sp := fun vs H Q _ => ∃ (x y : Addr) (a b c d : Int), vs = [.ref x, .ref y] ∧ AlgAt CA H x a b ∧ AlgAt CA H y c d ∧ ∃ k : Bool, (k = true ↔ a = c ∧ b = d) ∧ Q (.bl k) H
theorem ok_Algebra_eq (F : FnD K "__eq__" "Algebra.__eq__" s_P_Algebra___eq__ f fd) (T : Glob mg) (R : AlgK K CA) (G_Algebra : mg "Algebra" = some (.ref CA)) : FnOk P w K mg base CX0 1 f fd ["self", "value"] (spAlgEq CA) := by
  refine F.ok sc_P_Algebra___eq__ (fun vs H Q E h => ?_) (fun cdv A outer s H vs Q E hr h => ?_)
  · obtain ⟨x, y, a, b, c, d, rfl, _⟩ := h; rfl
  · obtain ⟨x, y, a, b, c, d, rfl, hx, hy, k, hk, q⟩ := h
    refine ⟨_, PSs.nox (pss_one (ps_ret (pe_and (pe_callB call_isi (by rfl) T.m_isinstance (by decide +kernel) (pa_cons (pv 1) (pa_cons (pe_glob (v := .ref _) rfl G_Algebra rfl) pa_nil))) (pe_and (pe_cmp (pc_eqI (pe_fld (pv 0) rfl) (pe_fld (pv 1) rfl)) rfl) (pe_one (pe_cmp (pc_eqI (pe_fld (pv 0) rfl) (pe_fld (pv 1) rfl)) rfl)))))), ?_⟩
    obtain ⟨dx, p1, l1, h1, _⟩ := hx.ex
    obtain ⟨dy, p2, l2, h2, _⟩ := hy.ex
    refine ⟨_, rfl, _, .ref CA, _, _, true, rfl, .own CA, R.own.ty hy.ins, R.own.kk, _, rfl, ?_⟩
    have kf : ∀ {z : Bool}, (z = true ↔ a = c ∧ b = d) → z = k := fun {z} h => Bool.eq_iff_iff.mpr (h.trans hk.symm)
    refine ⟨_, rfl, x, CA, dx, _, .int a, rfl, h1, R.own.cls, R.n2, rfl, _, rfl, y, CA, dy, _, .int c, rfl, h2, R.own.cls, R.n2, rfl, _, _, rfl, rfl, _, rfl, ifd (fun e => ?_) (fun e => ?_)⟩
    · refine ⟨_, rfl, x, CA, dx, _, .int b, rfl, h1, R.own.cls, R.n3, rfl, _, rfl, y, CA, dy, _, .int d, rfl, h2, R.own.cls, R.n3, rfl, _, _, rfl, rfl, ?_⟩
      have z := kf (z := decide (b = d)) (by rw [decide_eq_true_iff]; exact ⟨fun h => ⟨e, h⟩, fun h => h.2⟩)
      show Q (.bl (decide (b = d))) H
      rw [z]
      exact q
    · have z := kf (z := false) ⟨fun h => Bool.noConfusion h, fun h => absurd h.1 e⟩
      show Q (.bl false) H
      rw [z]
      exact q
/-- two fours of one algebra -/
def spOperands (CF CR CA : Addr) : Sp := fun vs H Q _ => ∃ (x y al be : Addr) (a b : Int) (q r : Q5), vs = [.ref x, .ref y] ∧ FourAt CF CR H x al a b q ∧ FourAt CF CR H y be a b r ∧ AlgAt CA H al a b ∧ AlgAt CA H be a b ∧ Q .non H
theorem ok_check_operands (F : FnD K "check_operands" "check_operands" s_P_check_operands f fd) (R : FourK K CF) (O_Algebra : OwnK K CA) (M_Algebra_eq : CalM P w K mg base 1 "__eq__" CA ["self", "value"] (spAlgEq CA)) : FnOk P w K mg base CX0 3 f fd ["one", "other"] (spOperands CF CR CA) := by
  refine F.ok sc_P_check_operands (fun vs H Q E h => ?_) (fun cdv A outer s H vs Q E hr h => ?_)
  · obtain ⟨x, y, al, be, a, b, q, r, rfl, _⟩ := h; rfl
  · obtain ⟨x, y, al, be, a, b, q5, r5, rfl, hx, hy, ha, hb, q⟩ := h
    refine ⟨_, PSs.nox (pss_one (ps_if (pt_cmpR (ne_own M_Algebra_eq.me M_Algebra_eq.ok (hr.mono (by decide)) M_Algebra_eq.b pass0 O_Algebra.ne O_Algebra.mo) (pe_fld (pv 0) rfl) (pe_fld (pv 1) rfl) (nomark _)) (pss_one ps_never) pss_nil)), ?_⟩
    obtain ⟨d1, e1, t1, m1, _, _, _, _, h1, _⟩ := hx.ex
    obtain ⟨d2, e2, t2, m2, _, _, _, _, h2, _⟩ := hy.ex
    refine ⟨_, rfl, x, CF, d1, _, .ref al, rfl, h1, R.own.cls, R.n1, rfl, _, rfl, y, CF, d2, _, .ref be, rfl, h2, R.own.cls, R.n1, rfl, ?_⟩
    exact ⟨al, be, rfl, rfl, ha.ins, hb.ins, al, be, a, b, a, b, rfl, ha, hb, true, ⟨fun _ => ⟨rfl, rfl⟩, fun _ => rfl⟩, true, rfl, _, rfl, q⟩
/-- the product by the rules of i, j and k -/
def prodQ (a b : Int) (p q : Q5) : Q5 := ⟨p.w * q.w + a * p.x * q.x + b * p.y * q.y - a * b * p.z * q.z, p.w * q.x + p.x * q.w - b * p.y * q.z + b * p.z * q.y, p.w * q.y + p.y * q.w + a * p.x * q.z - a * p.z * q.x, p.w * q.z + p.z * q.w + p.x * q.y - p.y * q.x, p.d * q.d⟩
def SameQ (e q : Q5) : Prop := e.w = q.w ∧ e.x = q.x ∧ e.y = q.y ∧ e.z = q.z
structure ProdP (CA : Addr) (vs : List V) (H : Hp) (Q : VK) : Prop where
  ex : ∃ (al e1 e2 : Addr) (a b : Int) (p q : Q5), vs = [.ref al, .ref e1, .ref e2] ∧ AlgAt CA H al a b ∧ H e1 = some (.tup (ents p)) ∧ H e2 = some (.tup (ents q)) ∧ Bd 1400 p ∧ Bd 1400 q ∧ ∀ t, H t = none → Q (.ref t) (upd H t (.tup (ents (prodQ a b p q))))
def spProd (CA : Addr) : Sp := fun vs H Q _ => ProdP CA vs H Q
set_option maxHeartbeats 8000000 in
theorem ok_product_entries (F : FnD K "product_entries" "product_entries" s_P_product_entries f fd) (R : AlgK K CA) : FnOk P w K mg base CX0 1 f fd ["algebra", "one", "other"] (spProd CA) := by
  refine F.ok sc_P_product_entries (fun vs H Q E h => ?_) (fun cdv A outer s H vs Q E hr h => ?_)
  · obtain ⟨al, e1, e2, a, b, p, q, rfl, _⟩ := h.ex; rfl
  · obtain ⟨al, e1, e2, a, b, p, q5, rfl, hal, h1, h2, ⟨p1, p2, p3, p4, _⟩, ⟨q1, q2, q3, q4, _⟩, q⟩ := h.ex
    refine ⟨_, PSs.nox (pss_cons (ps_par (i := 3) (j := 4) (by rfl) sc_P_product_entries.nd rfl rfl (by decide) rfl rfl (pa_cons (pe_fld (pv 0) rfl) (pa_cons (pe_fld (pv 0) rfl) pa_nil)) (by rfl))
      (pss_cons (ps_asg (pv 1) (pg_tup (by rfl) (pgs_cons (pg_name (i := 5) sc_P_product_entries.nd rfl (Or.inl rfl)) (pgs_cons (pg_name (i := 6) sc_P_product_entries.nd rfl (Or.inl rfl)) (pgs_cons (pg_name (i := 7) sc_P_product_entries.nd rfl (Or.inl rfl)) (pgs_cons (pg_name (i := 8) sc_P_product_entries.nd rfl (Or.inl rfl)) pgs_nil))))))
      (pss_cons (ps_asg (pv 2) (pg_tup (by rfl) (pgs_cons (pg_name (i := 9) sc_P_product_entries.nd rfl (Or.inl rfl)) (pgs_cons (pg_name (i := 10) sc_P_product_entries.nd rfl (Or.inl rfl)) (pgs_cons (pg_name (i := 11) sc_P_product_entries.nd rfl (Or.inl rfl)) (pgs_cons (pg_name (i := 12) sc_P_product_entries.nd rfl (Or.inl rfl)) pgs_nil))))))
      (pss_one (ps_ret (pe_tup (pa_cons (pe_op op_sub (pe_op op_add (pe_op op_add (pe_op op_mulW (pv 5) (pv 9)) (pe_op op_mulW (pe_op op_mulW (pv 3) (pv 6)) (pv 10))) (pe_op op_mulW (pe_op op_mulW (pv 4) (pv 7)) (pv 11))) (pe_op op_mulW (pe_op op_mulW (pe_op op_mulW (pv 3) (pv 4)) (pv 8)) (pv 12))) (pa_cons (pe_op op_add (pe_op op_sub (pe_op op_add (pe_op op_mulW (pv 5) (pv 10)) (pe_op op_mulW (pv 6) (pv 9))) (pe_op op_mulW (pe_op op_mulW (pv 4) (pv 7)) (pv 12))) (pe_op op_mulW (pe_op op_mulW (pv 4) (pv 8)) (pv 11))) (pa_cons (pe_op op_sub (pe_op op_add (pe_op op_add (pe_op op_mulW (pv 5) (pv 11)) (pe_op op_mulW (pv 7) (pv 9))) (pe_op op_mulW (pe_op op_mulW (pv 3) (pv 6)) (pv 12))) (pe_op op_mulW (pe_op op_mulW (pv 3) (pv 8)) (pv 10))) (pa_cons (pe_op op_sub (pe_op op_add (pe_op op_add (pe_op op_mulW (pv 5) (pv 12)) (pe_op op_mulW (pv 8) (pv 9))) (pe_op op_mulW (pv 6) (pv 11))) (pe_op op_mulW (pv 7) (pv 10))) pa_nil)))))))))), ?_⟩
    obtain ⟨dx, pl, l, hx, _, _, a0, b0, ab, bb⟩ := hal.ex
    have a3 : a.natAbs < 2 ^ 30 := by omega
    have b3 : b.natAbs < 2 ^ 30 := by omega
    have l2 : ∀ {i j : Int} {m n : Nat}, i.natAbs < 2 ^ m → j.natAbs < 2 ^ n → (i * j).natAbs < 2 ^ (m + n) := fun h1 h2 => wide_lt h1 h2
    refine ⟨_, rfl, al, CA, dx, _, .int a, rfl, hx, R.own.cls, R.n2, rfl, _, rfl, al, CA, dx, _, .int b, rfl, hx, R.own.cls, R.n3, rfl, _, _, rfl, ?_⟩
    refine ⟨_, rfl, e1, _, rfl, .inl (.inl h1), rfl, _, _, rfl, _, _, rfl, _, _, rfl, _, _, rfl, rfl, ?_⟩
    refine ⟨_, rfl, e2, _, rfl, .inl (.inl h2), rfl, _, _, rfl, _, _, rfl, _, _, rfl, _, _, rfl, rfl, ?_⟩
    exact ⟨_, rfl, _, rfl, _, _, rfl, rfl, wmul p1 q1 (by decide) (by decide) (by decide), _, rfl, _, rfl, _, _, rfl, rfl, wmul a3 p2 (by decide) (by decide) (by decide), _, rfl, _, _, rfl, rfl, wmul (l2 a3 p2) q2 (by decide) (by decide) (by decide), _, _, rfl, rfl, _, rfl, _, rfl, _, _, rfl, rfl, wmul b3 p3 (by decide) (by decide) (by decide), _, rfl, _, _, rfl, rfl, wmul (l2 b3 p3) q3 (by decide) (by decide) (by decide), _, _, rfl, rfl, _, rfl, _, rfl, _, _, rfl, rfl, wmul a3 b3 (by decide) (by decide) (by decide), _, rfl, _, _, rfl, rfl, wmul (l2 a3 b3) p4 (by decide) (by decide) (by decide), _, rfl, _, _, rfl, rfl, wmul (l2 (l2 a3 b3) p4) q4 (by decide) (by decide) (by decide), _, _, rfl, rfl, _, rfl, _, rfl, _, _, rfl, rfl, wmul p1 q2 (by decide) (by decide) (by decide), _, rfl, _, rfl, _, _, rfl, rfl, wmul p2 q1 (by decide) (by decide) (by decide), _, _, rfl, rfl, _, rfl, _, rfl, _, _, rfl, rfl, wmul b3 p3 (by decide) (by decide) (by decide), _, rfl, _, _, rfl, rfl, wmul (l2 b3 p3) q4 (by decide) (by decide) (by decide), _, _, rfl, rfl, _, rfl, _, rfl, _, _, rfl, rfl, wmul b3 p4 (by decide) (by decide) (by decide), _, rfl, _, _, rfl, rfl, wmul (l2 b3 p4) q3 (by decide) (by decide) (by decide), _, _, rfl, rfl, _, rfl, _, rfl, _, _, rfl, rfl, wmul p1 q3 (by decide) (by decide) (by decide), _, rfl, _, rfl, _, _, rfl, rfl, wmul p3 q1 (by decide) (by decide) (by decide), _, _, rfl, rfl, _, rfl, _, rfl, _, _, rfl, rfl, wmul a3 p2 (by decide) (by decide) (by decide), _, rfl, _, _, rfl, rfl, wmul (l2 a3 p2) q4 (by decide) (by decide) (by decide), _, _, rfl, rfl, _, rfl, _, rfl, _, _, rfl, rfl, wmul a3 p4 (by decide) (by decide) (by decide), _, rfl, _, _, rfl, rfl, wmul (l2 a3 p4) q2 (by decide) (by decide) (by decide), _, _, rfl, rfl, _, rfl, _, rfl, _, _, rfl, rfl, wmul p1 q4 (by decide) (by decide) (by decide), _, rfl, _, rfl, _, _, rfl, rfl, wmul p4 q1 (by decide) (by decide) (by decide), _, _, rfl, rfl, _, rfl, _, rfl, _, _, rfl, rfl, wmul p2 q3 (by decide) (by decide) (by decide), _, _, rfl, rfl, _, rfl, _, rfl, _, _, rfl, rfl, wmul p3 q2 (by decide) (by decide) (by decide), _, _, rfl, rfl, (by show 4 ≤ sizeLine; decide), fun t ht => q t ht⟩
structure FourOpP (CF CR CA : Addr) (g : Int → Int → Q5 → Q5 → Q5) (vs : List V) (H : Hp) (Q : VK) : Prop where
  ex : ∃ (x y al be : Addr) (a b : Int) (p q : Q5), vs = [.ref x, .ref y] ∧ FourAt CF CR H x al a b p ∧ FourAt CF CR H y be a b q ∧ AlgAt CA H al a b ∧ AlgAt CA H be a b ∧ Bd 1400 p ∧ Bd 1400 q ∧ (∀ r, Low5 (g a b p q) r → Bd 3000 r) ∧
    ∀ (r : Q5) (z : Addr) (H' : Hp), Low5 (g a b p q) r → H z = none → Same H H' → FourAt CF CR H' z al a b r → Q (.ref z) H'
def spFourOp (CF CR CA : Addr) (g : Int → Int → Q5 → Q5 → Q5) : Sp := fun vs H Q _ => FourOpP CF CR CA g vs H Q
theorem ok_Four_mul (F : FnD K "__mul__" "Four.__mul__" s_P_Four___mul__ f fd) (T : Glob mg) (R : FourK K CF) (G_Four : mg "Four" = some (.ref CF)) (C_P_check_operands : Cal P w K mg base 3 "check_operands" ["one", "other"] (spOperands CF CR CA)) (C_P_product_entries : Cal P w K mg base 1 "product_entries" ["algebra", "one", "other"] (spProd CA))
    (C_P_made_four : Cal P w K mg base 9 "made_four" ["algebra", "entries", "bottom"] (spMadeFour CF CR CA)) : FnOk P w K mg base CX0 10 f fd ["self", "other"] (spFourOp CF CR CA prodQ) := by
  refine F.ok sc_P_Four___mul__ (fun vs H Q E h => ?_) (fun cdv A outer s H vs Q E hr h => ?_)
  · obtain ⟨x, y, al, be, a, b, p, q, rfl, _⟩ := h.ex; rfl
  · obtain ⟨x, y, al, be, a, b, p, q5, rfl, hx, hy, ha, hb, bp, bq, hlow, q⟩ := h.ex
    refine ⟨_, PSs.nox (pss_cons (ps_if (pt_not (pt_val (pe_callB call_isi (by rfl) T.m_isinstance (by decide +kernel) (pa_cons (pv 1) (pa_cons (pe_glob (v := .ref _) rfl G_Four rfl) pa_nil))))) (pss_one ps_never) pss_nil)
      (pss_cons (ps_expr (pe_cal C_P_check_operands (hr.mono (by decide)) (pa_cons (pv 0) (pa_cons (pv 1) pa_nil))))
      (pss_cons (ps_set (i := 2) sc_P_Four___mul__.nd rfl (Or.inl rfl) (pe_cal C_P_product_entries (hr.mono (by decide)) (pa_cons (pe_fld (pv 0) rfl) (pa_cons (pe_fld (pv 0) rfl) (pa_cons (pe_fld (pv 1) rfl) pa_nil)))))
      (pss_one (ps_ret (pe_cal C_P_made_four (hr.mono (by decide)) (pa_cons (pe_fld (pv 0) rfl) (pa_cons (pv 2) (pa_cons (pe_op op_mulW (pe_fld (pv 0) rfl) (pe_fld (pv 1) rfl)) pa_nil))))))))), ?_⟩
    obtain ⟨d1, e1, t1, m1, _, _, _, _, h1, u1, _⟩ := hx.ex
    obtain ⟨d2, e2, t2, m2, _, _, _, _, h2, u2, _⟩ := hy.ex
    refine ⟨_, rfl, _, .ref CF, _, _, true, rfl, .own CF, R.own.ty hy.ins, R.own.kk, _, rfl, ?_⟩
    refine ⟨_, rfl, _, rfl, x, y, al, be, a, b, p, q5, rfl, hx, hy, ha, hb, ?_⟩
    refine ⟨_, rfl, x, CF, d1, _, .ref al, rfl, h1, R.own.cls, R.n1, rfl, _, rfl, x, CF, d1, _, .ref e1, rfl, h1, R.own.cls, R.n2, rfl, _, rfl, y, CF, d2, _, .ref e2, rfl, h2, R.own.cls, R.n2, rfl, ⟨al, e1, e2, a, b, p, q5, rfl, ha, u1, u2, bp, bq, fun t ht => ?_⟩⟩
    have g := fun {c : Addr} {o : HO} (h : H c = some o) => (upd_ne (ne_of_none h ht) : (upd H t (.tup (ents (prodQ a b p q5)))) c = H c).trans h
    refine ⟨_, rfl, x, CF, d1, _, .ref al, rfl, g h1, R.own.cls, R.n1, rfl, _, rfl, _, rfl, x, CF, d1, _, .int p.d, rfl, g h1, R.own.cls, R.n3, rfl, _, rfl, y, CF, d2, _, .int q5.d, rfl, g h2, R.own.cls, R.n3, rfl, _, _, rfl, rfl, wmul bp.2.2.2.2 bq.2.2.2.2 (by decide) (by decide) (by decide), ?_⟩
    have dp := hx.pos
    have dq := hy.pos
    refine ⟨⟨al, t, a, b, prodQ a b p q5, rfl, ha.same (same_upd ht), upd_same, ?_, ?_, hlow, fun r z H' hl hz e hF => q r z H' hl ((same_upd ht).free hz) ((same_upd ht).trans e) hF⟩⟩
    · exact Int.mul_ne_zero (by omega) (by omega)
    · exact Nat.lt_of_lt_of_le (wide_lt bp.2.2.2.2 bq.2.2.2.2) (Nat.pow_le_pow_right (by decide) (by decide))
end
end Sf

namespace Sf
open PySem PySem.Spec PyProof.Rows L2
def mateQ (q : Q5) : Q5 := ⟨q.w, -q.x, -q.y, -q.z, q.d⟩
def addQ (_ _ : Int) (p q : Q5) : Q5 := ⟨p.w * q.d + q.w * p.d, p.x * q.d + q.x * p.d, p.y * q.d + q.y * p.d, p.z * q.d + q.z * p.d, p.d * q.d⟩
section
variable {P : Program} {w : World} {K : PySem.W.Frag} {mg : Str → Option Value} {base : Heap} {f : Addr} {fd : FuncData} {CR CA CF : Addr}
def spMateE : Sp := fun vs H Q _ => ∃ (e : Addr) (q : Q5), vs = [.ref e] ∧ H e = some (.tup (ents q)) ∧ ∀ t, H t = none → Q (.ref t) (upd H t (.tup (ents (mateQ q))))
theorem ok_mate_entries (F : FnD K "mate_entries" "mate_entries" s_P_mate_entries f fd) : FnOk P w K mg base CX0 1 f fd ["entries"] spMateE := by
  refine F.ok sc_P_mate_entries (fun vs H Q E h => ?_) (fun cdv A outer s H vs Q E hr h => ?_)
  · obtain ⟨e, q, rfl, _⟩ := h; rfl
  · obtain ⟨e, q5, rfl, he, q⟩ := h
    refine ⟨_, PSs.nox (pss_cons (ps_asg (pv 0) (pg_tup (by rfl) (pgs_cons (pg_name (i := 1) sc_P_mate_entries.nd rfl (Or.inl rfl)) (pgs_cons (pg_name (i := 2) sc_P_mate_entries.nd rfl (Or.inl rfl)) (pgs_cons (pg_name (i := 3) sc_P_mate_entries.nd rfl (Or.inl rfl)) (pgs_cons (pg_name (i := 4) sc_P_mate_entries.nd rfl (Or.inl rfl)) pgs_nil))))))
      (pss_one (ps_ret (pe_tup (pa_cons (pv 1) (pa_cons (pe_un un_neg (pv 2)) (pa_cons (pe_un un_neg (pv 3)) (pa_cons (pe_un un_neg (pv 4)) pa_nil)))))))), ?_⟩
    refine ⟨_, rfl, e, _, rfl, .inl (.inl he), rfl, _, _, rfl, _, _, rfl, _, _, rfl, _, _, rfl, rfl, ?_⟩
    exact ⟨_, rfl, _, rfl, _, rfl, _, rfl, _, rfl, _, rfl, _, rfl, (by show 4 ≤ sizeLine; decide), fun t ht => q t ht⟩
structure Four1P (CF CR CA : Addr) (g : Q5 → Q5) (vs : List V) (H : Hp) (Q : VK) : Prop where
  ex : ∃ (x al : Addr) (a b : Int) (p : Q5), vs = [.ref x] ∧ FourAt CF CR H x al a b p ∧ AlgAt CA H al a b ∧ Bd 3000 p ∧ (∀ r, Low5 (g p) r → Bd 3000 r) ∧
    ∀ (r : Q5) (z : Addr) (H' : Hp), Low5 (g p) r → H z = none → Same H H' → FourAt CF CR H' z al a b r → Q (.ref z) H'
def spFour1 (CF CR CA : Addr) (g : Q5 → Q5) : Sp := fun vs H Q _ => Four1P CF CR CA g vs H Q
theorem ok_Four_mate (F : FnD K "mate" "Four.mate" s_P_Four_mate f fd) (R : FourK K CF) (C_P_mate_entries : Cal P w K mg base 1 "mate_entries" ["entries"] spMateE) (C_P_made_four : Cal P w K mg base 9 "made_four" ["algebra", "entries", "bottom"] (spMadeFour CF CR CA)) :
    FnOk P w K mg base CX0 10 f fd ["self"] (spFour1 CF CR CA mateQ) := by
  refine F.ok sc_P_Four_mate (fun vs H Q E h => ?_) (fun cdv A outer s H vs Q E hr h => ?_)
  · obtain ⟨x, al, a, b, p, rfl, _⟩ := h.ex; rfl
  · obtain ⟨x, al, a, b, p, rfl, hx, ha, bp, hlow, q⟩ := h.ex
    refine ⟨_, PSs.nox (pss_one (ps_ret (pe_cal C_P_made_four (hr.mono (by decide)) (pa_cons (pe_fld (pv 0) rfl) (pa_cons (pe_cal C_P_mate_entries (hr.mono (by decide)) (pa_cons (pe_fld (pv 0) rfl) pa_nil)) (pa_cons (pe_fld (pv 0) rfl) pa_nil)))))), ?_⟩
    obtain ⟨d1, e1, t1, m1, _, _, _, _, h1, u1, _⟩ := hx.ex
    have dp := hx.pos
    refine ⟨_, rfl, x, CF, d1, _, .ref al, rfl, h1, R.own.cls, R.n1, rfl, _, rfl, x, CF, d1, _, .ref e1, rfl, h1, R.own.cls, R.n2, rfl, e1, p, rfl, u1, fun t ht => ?_⟩
    have g := fun {c : Addr} {o : HO} (h : H c = some o) => (upd_ne (ne_of_none h ht) : (upd H t (.tup (ents (mateQ p)))) c = H c).trans h
    refine ⟨_, rfl, x, CF, d1, _, .int p.d, rfl, g h1, R.own.cls, R.n3, rfl, ⟨al, t, a, b, mateQ p, rfl, ha.same (same_upd ht), upd_same, by show p.d ≠ 0; omega, Nat.lt_of_lt_of_le bp.2.2.2.2 (Nat.pow_le_pow_right (by decide) (by decide)), hlow, fun r z H' hl hz e hF => q r z H' hl ((same_upd ht).free hz) ((same_upd ht).trans e) hF⟩⟩
/-- == of two fours -/
def spFourEq (CF CR CA : Addr) : Sp := fun vs H Q _ => ∃ (x y al be : Addr) (a b c d : Int) (p q : Q5), vs = [.ref x, .ref y] ∧ FourAt CF CR H x al a b p ∧ FourAt CF CR H y be c d q ∧ AlgAt CA H al a b ∧ AlgAt CA H be c d ∧ ∃ k : Bool, (k = true ↔ (a = c ∧ b = d) ∧ p = q) ∧ Q (.bl k) H
end
end Sf

namespace Sf
open PySem PySem.Spec PyProof.Rows L2
theorem iter_tup {prog : Program} {w : World} {A : Around} {E : Value → Shared → Prop} {s : Shared} {l : Addr} {its : Array Value} {Q : Value → Shared → Prop} (hl : s.heap.IsTuple l its)
    (h : (s.heap.push { cls := .type "tuple_iterator", data := .fields #[.ref l, .int 0 0] }).IsTupleIter s.heap.objs.size l 0 ∧ (s.heap.push { cls := .type "tuple_iterator", data := .fields #[.ref l, .int 0 0] }).IsTuple l its → l ≠ s.heap.objs.size →
      Q (.ref s.heap.objs.size) { s with heap := s.heap.push { cls := .type "tuple_iterator", data := .fields #[.ref l, .int 0 0] } }) : wpAny (model prog w) A (pyIter (.ref l)) Q E s := by
  have lt : l < s.heap.objs.size := by
    obtain ⟨_, e, _⟩ := hl
    exact Heap.lt_size e
  exact wpAny_pyIter_tuple hl (h ⟨⟨_, Heap.get?_push_size _ rfl, rfl, rfl⟩, hl.push _⟩ (Nat.ne_of_lt lt))
theorem truth_ints {prog : Program} {w : World} {A : Around} {ns : List Int} {its : List Value} (r : Vals (ns.map V.int) its) :
    TruthOf prog w A (fun i v => its.toArray[i]? = some v) (fun i => ns.getD i 0 != 0) := fun i v s Q E hv hq => by
  have hv' : its[i]? = some v := by simpa using hv
  have il : i < ns.length := by
    have := (List.getElem?_eq_some_iff.mp hv').1
    rw [← r.length, List.length_map] at this
    exact this
  obtain ⟨u, hu, ru⟩ := r.get (i := i) (x := V.int ns[i]) (by rw [List.getElem?_map, List.getElem?_eq_getElem il]; rfl)
  rw [hv'] at hu
  cases hu
  obtain ⟨t, rfl⟩ := (show ∃ t, v = Value.int ns[i] t from ru)
  have hg : ns.getD i 0 = ns[i] := by rw [List.getD_eq_getElem?_getD, List.getElem?_eq_getElem il]; rfl
  have hq' : Q (ns.getD i 0 != 0) s := hq
  rw [hg] at hq'
  exact PyProof.Rows.truthy_int hq'
theorem any_rangeI : ∀ ns : List Int, (List.range ns.length).any (fun i => ns.getD i 0 != 0) = ns.any (fun z => z != 0)
  | [] => rfl
  | b :: ns => by
    rw [List.length_cons, List.range_succ_eq_map, List.any_cons, List.any_map, List.any_cons, ← any_rangeI ns]
    all_goals rfl
section
variable {X : Cx}
/-- any(t), t a tuple of ints -/
def rAnyT (K : PySem.W.Frag) : List V → Hp → VK → Prop := fun vs H Q => ∃ (a : Addr) (ns : List Int), vs = [V.ref a] ∧ SqT K H a (ns.map V.int) ∧ Q (.bl (ns.any fun z => z != 0)) H
theorem cr_anyT (hc : X.calm = true) : CallR X (.builtin "any") (rAnyT X.K) := by
  intro pins s σ H vs us Q I r h
  obtain ⟨a, ns, rfl, hs, q⟩ := h
  obtain ⟨its, rv, hl, _⟩ := I.tuple hs
  rw [Vals.ref1 r]
  refine call_any_walk (iter_tup hl fun st hne => ?_)
  refine ⟨_, _, _, _, _, _, _, rfl, Walks.tuple (A := X.A.in1) (I.ok.hd hc) _ a hne its.toArray, st, truth_ints rv, fun h' tk hk => ?_⟩
  refine ⟨.bl _, H, I.kept fun b o eo => hk b o (fun hmem => ?_) (Heap.get?_push_of_some _ eo), ?_, q⟩
  · rcases List.mem_cons.mp hmem with e1 | hmem
    · exact absurd (e1 ▸ Heap.lt_size eo) (Nat.lt_irrefl _)
    · cases hmem
  · show Value.bool _ = Value.bool _
    rw [← any_rangeI, List.size_toArray, ← rv.length, List.length_map]
end
end Sf

namespace Sf
open PySem PySem.Spec PyProof.Rows L2
def negQ (q : Q5) : Q5 := ⟨-q.w, -q.x, -q.y, -q.z, q.d⟩
def entI (q : Q5) : List Int := [q.w, q.x, q.y, q.z]
theorem ents_int (q : Q5) : ents q = (entI q).map V.int := rfl
theorem int_of_map' {l : List Int} {i : Nat} {v : V} (h : (l.map V.int)[i]? = some v) : ∃ z, l[i]? = some z ∧ v = V.int z := by
  rw [List.getElem?_map] at h
  cases e : l[i]? with
  | none => rw [e] at h; cases h
  | some z => rw [e] at h; exact ⟨z, rfl, (Option.some.inj h).symm⟩
section
variable {P : Program} {w : World} {K : PySem.W.Frag} {mg : Str → Option Value} {base : Heap} {f : Addr} {fd : FuncData} {CR CA CF : Addr}
def spFourBool (CF CR : Addr) : Sp := fun vs H Q _ => ∃ (x al : Addr) (a b : Int) (p : Q5), vs = [.ref x] ∧ FourAt CF CR H x al a b p ∧ ∃ k : Bool, (k = true ↔ ¬ (p.w = 0 ∧ p.x = 0 ∧ p.y = 0 ∧ p.z = 0)) ∧ Q (.bl k) H
theorem ok_Four_bool (F : FnD K "__bool__" "Four.__bool__" s_P_Four___bool__ f fd) (T : Glob mg) (R : FourK K CF) : FnOk P w K mg base CX0 1 f fd ["self"] (spFourBool CF CR) := by
  refine F.ok sc_P_Four___bool__ (fun vs H Q E h => ?_) (fun cdv A outer s H vs Q E hr h => ?_)
  · obtain ⟨x, al, a, b, p, rfl, _⟩ := h; rfl
  · obtain ⟨x, al, a, b, p, rfl, hx, k, hk, q⟩ := h
    refine ⟨_, PSs.nox (pss_one (ps_ret (pe_callB (cr_anyT rfl) (by rfl) T.m_any (by decide +kernel) (pa_cons (pe_fld (pv 0) rfl) pa_nil)))), ?_⟩
    obtain ⟨d1, e1, t1, m1, _, _, _, _, h1, u1, _⟩ := hx.ex
    refine ⟨_, rfl, x, CF, d1, _, .ref e1, rfl, h1, R.own.cls, R.n2, rfl, e1, entI p, rfl, SqT.of u1, ?_⟩
    have e : (entI p).any (fun z => z != 0) = k := by
      rw [Bool.eq_iff_iff, hk]
      unfold entI
      simp
      omega
    rw [e]
    exact q
theorem ok_Four_neg (F : FnD K "__neg__" "Four.__neg__" s_P_Four___neg__ f fd) (T : Glob mg) (R : FourK K CF) (C_P_made_four : Cal P w K mg base 9 "made_four" ["algebra", "entries", "bottom"] (spMadeFour CF CR CA)) :
    FnOk P w K mg base CX0 10 f fd ["self"] (spFour1 CF CR CA negQ) := by
  refine F.ok sc_P_Four___neg__ (fun vs H Q E h => ?_) (fun cdv A outer s H vs Q E hr h => ?_)
  · obtain ⟨x, al, a, b, p, rfl, _⟩ := h.ex; rfl
  · obtain ⟨x, al, a, b, p, rfl, hx, ha, bp, hlow, q⟩ := h.ex
    refine ⟨_, PSs.nox (pss_one (ps_ret (pe_cal C_P_made_four (hr.mono (by decide)) (pa_cons (pe_fld (pv 0) rfl) (pa_cons (pe_callTy call_tuple_of (by rfl) T.m_tuple (by decide +kernel) (pa_cons (pe_lc rfl sc_P_Four___neg__.nd (own := [("part", 1)]) (pi_tup (pe_fld (pv 0) rfl)) (blkOk_by (N := ["self", "part"]) (sc := defScope s_P_Four___neg__) (by decide +kernel)) (fun _ _ _ _ _ => pg_name (i := 1) sc_P_Four___neg__.nd rfl (Or.inl rfl)) (fun _ _ _ _ _ => pts_nil) (fun _ _ _ _ _ => (pe_un un_neg (pv 1)))) pa_nil)) (pa_cons (pe_fld (pv 0) rfl) pa_nil)))))), ?_⟩
    obtain ⟨d1, e1, t1, m1, _, _, _, _, h1, u1, _⟩ := hx.ex
    have dp := hx.pos
    refine ⟨_, rfl, x, CF, d1, _, .ref al, rfl, h1, R.own.cls, R.n1, rfl, _, rfl, x, CF, d1, _, .ref e1, rfl, h1, R.own.cls, R.n2, rfl, e1, rfl, ⟨_, SqT.of u1⟩, fun D hD => lc_tup (K := K) (a := e1) (xs := (entI p).map V.int) (fun i H' => Same H H' ∧ H' D = some (.lst (((entI p).take i).map fun n => V.int (-n)))) ⟨same_upd hD, upd_same⟩ (fun i H' _ hp => SqT.of (hp.1 _ _ u1)) (fun i v H' hv hp => ?_) (fun H' hp => ?_)⟩
    · obtain ⟨k1, hd⟩ := hp
      obtain ⟨n, hn, rfl⟩ := int_of_map' hv
      refine ⟨rfl, _, rfl, n, rfl, _, hd, ?_, ?_, ?_⟩
      · rw [List.length_map]
        have := List.length_take_le' i (entI p)
        exact Nat.lt_of_le_of_lt (Nat.le_trans this (by show 4 ≤ 4; exact Nat.le_refl _)) (by decide)
      · intro c o ec
        rw [upd_ne (ne_of_none ec hD)]
        exact k1 _ _ ec
      · rw [upd_same, List.take_add_one, hn, List.map_append]; rfl
    · obtain ⟨k1, hd⟩ := hp
      refine ⟨D, _, rfl, .inl ⟨SqL.of hd, fun t ht => ?_⟩⟩
      have et : ((entI p).take ((entI p).map V.int).length).map (fun n => V.int (-n)) = ents (negQ p) := rfl
      rw [et]
      have k2 := k1.trans (same_upd (o := .tup (ents (negQ p))) ht)
      refine ⟨_, rfl, x, CF, d1, _, .int p.d, rfl, k2 _ _ h1, R.own.cls, R.n3, rfl, ⟨al, t, a, b, negQ p, rfl, ha.same k2, upd_same, by show p.d ≠ 0; omega, Nat.lt_of_lt_of_le bp.2.2.2.2 (Nat.pow_le_pow_right (by decide) (by decide)), hlow, fun r z H'' hl hz e hF => q r z H'' hl (k2.free hz) (k2.trans e) hF⟩⟩
theorem ok_Four_eq (F : FnD K "__eq__" "Four.__eq__" s_P_Four___eq__ f fd) (T : Glob mg) (R : FourK K CF) (G_Four : mg "Four" = some (.ref CF)) (O_Algebra : OwnK K CA) (M_Algebra_eq : CalM P w K mg base 1 "__eq__" CA ["self", "value"] (spAlgEq CA)) : FnOk P w K mg base CX0 2 f fd ["self", "value"] (spFourEq CF CR CA) := by
  refine F.ok sc_P_Four___eq__ (fun vs H Q E h => ?_) (fun cdv A outer s H vs Q E hr h => ?_)
  · obtain ⟨x, y, al, be, a, b, c, d, p, q, rfl, _⟩ := h; rfl
  · obtain ⟨x, y, al, be, a, b, c, d, p, q5, rfl, hx, hy, ha, hb, k, hk, q⟩ := h
    refine ⟨_, PSs.nox (pss_one (ps_ret (pe_and (pe_callB call_isi (by rfl) T.m_isinstance (by decide +kernel) (pa_cons (pv 1) (pa_cons (pe_glob (v := .ref _) rfl G_Four rfl) pa_nil))) (pe_and (pe_cmpR (eq_own M_Algebra_eq.me M_Algebra_eq.ok (hr.mono (by decide)) M_Algebra_eq.b pass0) (pe_fld (pv 0) rfl) (pe_fld (pv 1) rfl) (nomark _)) (pe_and (pe_cmpR (op_eqD hr.units) (pe_fld (pv 0) rfl) (pe_fld (pv 1) rfl) (nomark _)) (pe_one (pe_cmp (pc_eqI (pe_fld (pv 0) rfl) (pe_fld (pv 1) rfl)) rfl))))))), ?_⟩
    obtain ⟨d1, e1, t1, m1, _, _, _, _, h1, u1, _⟩ := hx.ex
    obtain ⟨d2, e2, t2, m2, _, _, _, _, h2, u2, _⟩ := hy.ex
    have kf : ∀ {z : Bool}, (z = true ↔ (a = c ∧ b = d) ∧ p = q5) → z = k := fun {z} h => Bool.eq_iff_iff.mpr (h.trans hk.symm)
    refine ⟨_, rfl, _, .ref CF, _, _, true, rfl, .own CF, R.own.ty hy.ins, R.own.kk, _, rfl, ?_⟩
    refine ⟨_, rfl, x, CF, d1, _, .ref al, rfl, h1, R.own.cls, R.n1, rfl, _, rfl, y, CF, d2, _, .ref be, rfl, h2, R.own.cls, R.n1, rfl, ?_⟩
    refine ⟨al, be, rfl, rfl, ha.ins, hb.ins, al, be, a, b, c, d, rfl, ha, hb, decide (a = c ∧ b = d), decide_eq_true_iff, _, rfl, ifd (fun h => ?_) (fun h => ?_)⟩
    · refine ⟨_, rfl, x, CF, d1, _, .ref e1, rfl, h1, R.own.cls, R.n2, rfl, _, rfl, y, CF, d2, _, .ref e2, rfl, h2, R.own.cls, R.n2, rfl, ?_⟩
      refine ⟨.tuple ((entI p).map PyData.int), .tuple ((entI q5).map PyData.int), dp_tup (ns := entI p) (SqT.of u1), dp_tup (ns := entI q5) (SqT.of u2), shp_tup _, shp_tup _, ?_⟩
      rw [eqv_tups']
      refine ⟨_, rfl, ifd (fun h3 => ?_) (fun h3 => ?_)⟩
      · refine ⟨_, rfl, x, CF, d1, _, .int p.d, rfl, h1, R.own.cls, R.n3, rfl, _, rfl, y, CF, d2, _, .int q5.d, rfl, h2, R.own.cls, R.n3, rfl, _, _, rfl, rfl, ?_⟩
        have z := kf (z := decide (p.d = q5.d)) (by
          rw [decide_eq_true_iff]
          constructor
          · intro e
            refine ⟨h, ?_⟩
            obtain ⟨w1, x1, y1, z1, dd1⟩ := p
            obtain ⟨w2, x2, y2, z2, dd2⟩ := q5
            unfold entI at h3
            simp at h3 e
            obtain ⟨r1, r2, r3, r4⟩ := h3
            subst r1 r2 r3 r4 e
            rfl
          · rintro ⟨_, e⟩
            rw [e])
        show Q (.bl (decide (p.d = q5.d))) H
        rw [z]
        exact q
      · have z := kf (z := false) ⟨fun h => Bool.noConfusion h, fun e => absurd (by rw [e.2]) h3⟩
        show Q (.bl false) H
        rw [z]
        exact q
    · have z := kf (z := false) ⟨fun h => Bool.noConfusion h, fun e => absurd e.1 h⟩
      show Q (.bl false) H
      rw [z]
      exact q
end
end Sf

namespace Sf
open PySem PySem.Spec PyProof.Rows L2
/-! values near a tuple of ints -/
/-- what stands in such a tuple -/
inductive El (H : Hp) : V → Prop
  | int (n : Int) : El H (.int n)
  | non : El H .non
  | one : El H (.str "1")
  | bl (b : Bool) : El H (.bl b)
  | tup {a : Addr} {n : Int} (h : H a = some (.tup [.int n])) : El H (.ref a)
def isI : V → Bool
  | .int _ => true
  | _ => false
theorem isI_iff {v : V} : isI v = true ↔ ∃ n, v = .int n := by
  cases v with
  | int n => exact ⟨fun _ => ⟨n, rfl⟩, fun _ => rfl⟩
  | _ => exact ⟨fun z => Bool.noConfusion z, fun ⟨_, e⟩ => V.noConfusion e⟩
theorem El.same {H H' : Hp} {v : V} (h : El H v) (s : Same H H') : El H' v := by
  cases h with
  | int n => exact .int n
  | non => exact .non
  | one => exact .one
  | bl b => exact .bl b
  | tup h => exact .tup (s _ _ h)
theorem El.intB {K : PySem.W.Frag} {H : Hp} {v : V} (h : El H v) : IntB K H v (isI v) := by
  cases h with
  | int n => exact .int n
  | non => exact .non
  | one => exact .str _
  | bl b => exact .bl b
  | tup h => exact .tup h
/-- the type of such a thing -/
theorem El.ty {K : PySem.W.Frag} {H : Hp} {v : V} (h : El H v) : ∃ (t : String) (bi bb : Bool), TyX K H v (.type t) ∧ kitB t "int" = some bi ∧ kitB t "bool" = some bb ∧ isI v = (bi && !bb) := h.intB
/-- as data -/
theorem El.data {K : PySem.W.Frag} {H : Hp} {v : V} (h : El H v) : ∃ d, Dp K H v d ∧ PyData.canLay0 d = true ∧ PyData.depth d ≤ 1 := by
  cases h with
  | int n => exact ⟨_, .int n, rfl, Nat.zero_le _⟩
  | non => exact ⟨_, .non, rfl, Nat.zero_le _⟩
  | one => exact ⟨_, .str _, by decide +kernel, Nat.zero_le _⟩
  | bl b => exact ⟨_, .bl b, rfl, Nat.zero_le _⟩
  | @tup a n h => exact ⟨_, dp_tup (ns := [n]) (SqT.of h), rfl, Nat.le_refl _⟩
theorem els_data {K : PySem.W.Frag} {H : Hp} : ∀ (xs : List V), (∀ x ∈ xs, El H x) → ∃ ds, DpAll K H xs ds ∧ PyData.canLayAll0 ds = true ∧ PyData.depthAll ds ≤ 1 ∧ ds.length = xs.length
  | [], _ => ⟨[], .nil, rfl, Nat.zero_le _, rfl⟩
  | x :: xs, h => by
    obtain ⟨d, h1, h2, h3⟩ := (h x List.mem_cons_self).data (K := K)
    obtain ⟨ds, g1, g2, g3, g4⟩ := els_data (K := K) xs fun y hy => h y (List.mem_cons_of_mem _ hy)
    refine ⟨d :: ds, .cons h1 g1, ?_, ?_, by rw [List.length_cons, List.length_cons, g4]⟩
    · show (PyData.canLay0 d && PyData.canLayAll0 ds) = true
      rw [h2, g2]
      rfl
    · show max (PyData.depth d) (PyData.depthAll ds) ≤ 1
      omega
theorem eqv_nil : ∀ ds : List PyData, PyData.eqv (.list ds) (.list []) = decide (ds.length = 0)
  | [] => by unfold PyData.eqv; rfl
  | d :: ds => by unfold PyData.eqv; rfl
/-- a tuple of such things -/
def TupV (H : Hp) (v : V) (xs : List V) : Prop := ∃ a, v = .ref a ∧ H a = some (.tup xs) ∧ xs.length ≤ 10 ∧ ∀ x ∈ xs, El H x
def NoTup (H : Hp) (v : V) : Prop := v = .non ∨ (∃ i, v = .int i) ∨ (∃ s, v = .str s) ∨ ∃ a, v = .ref a ∧ ((∃ xs, H a = some (.lst xs)) ∨ ∃ kvs, H a = some (.dK kvs))
def AnyV (H : Hp) (v : V) : Prop := (∃ xs, TupV H v xs) ∨ NoTup H v
def Tri (H : Hp) (v : V) (x y z : Int) : Prop := ∃ a, v = .ref a ∧ H a = some (.tup [.int x, .int y, .int z])
theorem TupV.same {H H' : Hp} {v : V} {xs : List V} (h : TupV H v xs) (s : Same H H') : TupV H' v xs := by
  obtain ⟨a, e, h1, h2, h3⟩ := h
  exact ⟨a, e, s _ _ h1, h2, fun x hx => (h3 x hx).same s⟩
theorem NoTup.same {H H' : Hp} {v : V} (h : NoTup H v) (s : Same H H') : NoTup H' v := by
  rcases h with h | h | h | ⟨a, e, ⟨xs, h⟩ | ⟨xs, h⟩⟩
  · exact .inl h
  · exact .inr (.inl h)
  · exact .inr (.inr (.inl h))
  · exact .inr (.inr (.inr ⟨a, e, .inl ⟨xs, s _ _ h⟩⟩))
  · exact .inr (.inr (.inr ⟨a, e, .inr ⟨xs, s _ _ h⟩⟩))
theorem AnyV.same {H H' : Hp} {v : V} (h : AnyV H v) (s : Same H H') : AnyV H' v := by
  rcases h with ⟨xs, h⟩ | h
  · exact .inl ⟨xs, h.same s⟩
  · exact .inr (h.same s)
theorem Tri.same {H H' : Hp} {v : V} {x y z : Int} (h : Tri H v x y z) (s : Same H H') : Tri H' v x y z := let ⟨a, e, g⟩ := h; ⟨a, e, s _ _ g⟩
theorem Tri.any {H : Hp} {v : V} {x y z : Int} (h : Tri H v x y z) : AnyV H v := by
  obtain ⟨a, e, g⟩ := h
  refine .inl ⟨_, a, e, g, by show 3 ≤ 10; decide, fun u hu => ?_⟩
  have c : u = .int x ∨ u = .int y ∨ u = .int z := by simpa using hu
  rcases c with rfl | rfl | rfl <;> exact .int _
theorem Tri.uni {H : Hp} {v : V} {x y z x' y' z' : Int} (h : Tri H v x y z) (g : Tri H v x' y' z') : x = x' ∧ y = y' ∧ z = z' := by
  obtain ⟨a, rfl, h⟩ := h
  obtain ⟨b, e, g⟩ := g
  cases e
  rw [h] at g
  cases g
  exact ⟨rfl, rfl, rfl⟩
theorem NoTup.noTri {H : Hp} {v : V} {x y z : Int} (h : NoTup H v) (g : Tri H v x y z) : False := by
  obtain ⟨b, rfl, g⟩ := g
  rcases h with h | ⟨_, h⟩ | ⟨_, h⟩ | ⟨a, e, ⟨xs, h⟩ | ⟨xs, h⟩⟩
  · cases h
  · cases h
  · cases h
  · cases e
    rw [h] at g
    cases g
  · cases e
    rw [h] at g
    cases g
theorem TupV.tri {H : Hp} {v : V} {xs : List V} (h : TupV H v xs) {x y z : Int} : Tri H v x y z ↔ xs = [.int x, .int y, .int z] := by
  obtain ⟨a, rfl, h, _⟩ := h
  constructor
  · rintro ⟨b, e, g⟩
    cases e
    rw [h] at g
    cases g
    rfl
  · rintro rfl
    exact ⟨a, rfl, h⟩
theorem NoTup.kit {K : PySem.W.Frag} {H : Hp} {v : V} (h : NoTup H v) : ∃ t, TyX K H v (.type t) ∧ kitB t "tuple" = some false := by
  rcases h with rfl | ⟨_, rfl⟩ | ⟨_, rfl⟩ | ⟨a, rfl, ⟨xs, h⟩ | ⟨xs, h⟩⟩
  · exact ⟨"NoneType", .base .non, by decide +kernel⟩
  · exact ⟨"int", .base (.int _), by decide +kernel⟩
  · exact ⟨"str", .base (.str _), by decide +kernel⟩
  · exact ⟨"list", .base (.lst h), by decide +kernel⟩
  · exact ⟨"dict", .base (.dK h), by decide +kernel⟩
theorem three_ints {xs : List V} (l : xs.length = 3) : (xs.all isI = true) ↔ ∃ x y z : Int, xs = [.int x, .int y, .int z] := by
  match xs, l with
  | [a, b, c], _ =>
    constructor
    · intro h
      simp only [List.all_cons, List.all_nil, Bool.and_eq_true] at h
      obtain ⟨x, rfl⟩ := isI_iff.mp h.1
      obtain ⟨y, rfl⟩ := isI_iff.mp h.2.1
      obtain ⟨z, rfl⟩ := isI_iff.mp h.2.2.1
      exact ⟨x, y, z, rfl⟩
    · rintro ⟨x, y, z, e⟩
      cases e
      rfl
end Sf

namespace Sf
open PySem PySem.Spec PyProof.Rows L2
section
variable {P : Program} {w : World} {K : PySem.W.Frag} {mg : Str → Option Value} {base : Heap} {f : Addr} {fd : FuncData}
structure TripP (vs : List V) (H : Hp) (Q : VK) : Prop where
  ex : ∃ v, vs = [v] ∧ AnyV H v ∧ ∀ (r : Bool) (H' : Hp), Same H H' → (r = true ↔ ∃ x y z, Tri H v x y z) → Q (.bl r) H'
def spTrip : Sp := fun vs H Q _ => TripP vs H Q
theorem ok_is_triple (F : FnD K "is_triple" "is_triple" s_P_is_triple f fd) (T : Glob mg) (C_P_is_integer : Cal P w K mg base 1 "is_integer" ["value"] (spIsInt K)) : FnOk P w K mg base CX0 2 f fd ["value"] spTrip := by
  refine F.ok sc_P_is_triple (fun vs H Q E h => ?_) (fun cdv A outer s H vs Q E hr h => ?_)
  · obtain ⟨v, rfl, _⟩ := h.ex; rfl
  · obtain ⟨v, rfl, hv, q⟩ := h.ex
    refine ⟨_, PSs.nox (pss_one (ps_ret (pe_and (pe_callB call_isi (by rfl) T.m_isinstance (by decide +kernel) (pa_cons (pv 0) (pa_cons (pe_bltn (v := .ty "tuple") (u := .type "tuple") (by rfl) T.m_tuple (by decide +kernel) rfl) pa_nil))) (pe_and (pe_cmp (pc_eqI (pe_callB call_len_seq (by rfl) T.m_len (by decide +kernel) (pa_cons (pv 0) pa_nil)) pe_int) rfl) (pe_one (pe_callB (cr_all rfl) (by rfl) T.m_all (by decide +kernel) (pa_cons (pe_lc rfl sc_P_is_triple.nd (own := [("part", 1)]) (pi_tup (pv 0)) (blkOk_by (N := ["value", "part"]) (sc := defScope s_P_is_triple) (by decide +kernel)) (fun _ _ _ _ _ => pg_name (i := 1) sc_P_is_triple.nd rfl (Or.inl rfl)) (fun _ _ _ _ _ => pts_nil) (fun _ _ _ _ _ => (pe_cal C_P_is_integer (hr.mono (by decide)) (pa_cons (pv 1) pa_nil)))) pa_nil))))))), ?_⟩
    rcases hv with ⟨xs, hv⟩ | hv
    · obtain ⟨e, rfl, he, hl, hx⟩ := id hv
      refine ⟨_, rfl, _, .ty "tuple", _, _, true, rfl, .ty "tuple", .base (.tup he), (by show kitB "tuple" "tuple" = some true; decide +kernel), _, rfl, ?_⟩
      refine ⟨_, rfl, e, _, rfl, .inr (SqT.of he), _, _, rfl, rfl, _, rfl, ifd (fun h3 => ?_) (fun h3 => ?_)⟩
      · have l3 : xs.length = 3 := by omega
        refine ⟨_, rfl, e, rfl, ⟨_, SqT.of he⟩, fun D hD => lc_tup (K := K) (a := e) (xs := xs) (fun i H' => Same H H' ∧ H' D = some (.lst (((xs.take i).map isI).map V.bl))) ⟨same_upd hD, upd_same⟩ (fun i H' _ hp => SqT.of (hp.1 _ _ he)) (fun i v H' hv' hp => ?_) (fun H' hp => ?_)⟩
        · obtain ⟨e1, hd⟩ := hp
          refine ⟨rfl, ?_⟩
          refine ⟨_, rfl, v, isI v, rfl, ((hx v (List.mem_of_getElem? hv')).same e1).intB, ?_⟩
          refine ⟨_, hd, ?_, ?_, ?_⟩
          · rw [List.length_map, List.length_map]
            have := List.length_take_le' i xs
            exact Nat.lt_of_le_of_lt (Nat.le_trans this hl) (by decide)
          · intro b o eb
            rw [upd_ne (ne_of_none eb hD)]
            exact e1 _ _ eb
          · rw [upd_same, List.take_add_one, hv', List.map_append, List.map_append]; rfl
        · obtain ⟨e1, hd⟩ := hp
          rw [List.take_length] at hd
          refine ⟨D, _, rfl, SqL.of hd, q _ _ e1 ?_⟩
          rw [List.all_map]
          refine Iff.trans ?_ ((three_ints l3).trans (exists_congr fun x => exists_congr fun y => exists_congr fun z => hv.tri.symm))
          exact Iff.rfl
      · refine q _ _ (Same.refl _) ⟨fun z => Bool.noConfusion z, fun ⟨x, y, z, g⟩ => ?_⟩
        rw [hv.tri.mp g] at h3
        exact absurd rfl h3
    · obtain ⟨t, h1, h2⟩ := hv.kit (K := K)
      refine ⟨_, rfl, _, .ty "tuple", _, _, false, rfl, .ty "tuple", h1, h2, _, rfl, ?_⟩
      exact q _ _ (Same.refl _) ⟨fun z => Bool.noConfusion z, fun ⟨x, y, z, g⟩ => (hv.noTri g).elim⟩
/-- a x x + b y y = c z z, not all 0 -/
def Sol (a b c x y z : Int) : Prop := ¬ (x = 0 ∧ y = 0 ∧ z = 0) ∧ a * x * x + b * y * y = c * z * z
structure SolvP (vs : List V) (H : Hp) (Q : VK) : Prop where
  ex : ∃ (a b c : Int) (v : V), vs = [.int a, .int b, .int c, v] ∧ a.natAbs < 2 ^ 60 ∧ b.natAbs < 2 ^ 60 ∧ c.natAbs < 2 ^ 60 ∧ AnyV H v ∧ (∀ x y z, Tri H v x y z → x.natAbs < 2 ^ 300 ∧ y.natAbs < 2 ^ 300 ∧ z.natAbs < 2 ^ 300) ∧
    ∀ (r : Bool) (H' : Hp), Same H H' → (r = true ↔ ∃ x y z, Tri H v x y z ∧ Sol a b c x y z) → Q (.bl r) H'
def spSolv : Sp := fun vs H Q _ => SolvP vs H Q
theorem ok_solves (F : FnD K "solves" "solves" s_P_solves f fd) (T : Glob mg) (C_P_is_triple : Cal P w K mg base 2 "is_triple" ["value"] spTrip) : FnOk P w K mg base CX0 3 f fd ["a", "b", "c", "value"] spSolv := by
  refine F.ok sc_P_solves (fun vs H Q E h => ?_) (fun cdv A outer s H vs Q E hr h => ?_)
  · obtain ⟨a, b, c, v, rfl, _⟩ := h.ex; rfl
  · obtain ⟨a, b, c, v, rfl, ha, hb, hc, hv, hbd, q⟩ := h.ex
    refine ⟨_, PSs.nox (pss_cons (ps_if (PW.pt (pw_or (pt_not (pt_val (pe_cal C_P_is_triple (hr.mono (by decide)) (pa_cons (pv 3) pa_nil)))) (pw_or1 (pt_not (pt_val (pe_callB (cr_anyT rfl) (by rfl) T.m_any (by decide +kernel) (pa_cons (pv 3) pa_nil))))))) (pss_one (ps_ret pe_bl)) pss_nil)
      (pss_cons (ps_asg (pv 3) (pg_tup (by rfl) (pgs_cons (pg_name (i := 4) sc_P_solves.nd rfl (Or.inl rfl)) (pgs_cons (pg_name (i := 5) sc_P_solves.nd rfl (Or.inl rfl)) (pgs_cons (pg_name (i := 6) sc_P_solves.nd rfl (Or.inl rfl)) pgs_nil)))))
      (pss_one (ps_ret (pe_cmp (pc_eqI (pe_op op_add (pe_op op_mulW (pe_op op_mulW (pv 0) (pv 4)) (pv 4)) (pe_op op_mulW (pe_op op_mulW (pv 1) (pv 5)) (pv 5))) (pe_op op_mulW (pe_op op_mulW (pv 2) (pv 6)) (pv 6))) rfl))))), ?_⟩
    refine ⟨_, rfl, v, rfl, hv, fun r H1 e1 hr => ?_⟩
    cases r with
    | false =>
      exact ⟨_, rfl, q _ _ e1 ⟨fun z => Bool.noConfusion z, fun ⟨x, y, z, g, _⟩ => absurd (hr.mpr ⟨x, y, z, g⟩) (by decide)⟩⟩
    | true =>
      obtain ⟨x, y, z, g⟩ := hr.mp rfl
      obtain ⟨b1, b2, b3⟩ := hbd _ _ _ g
      have g1 := g.same e1
      obtain ⟨t, rfl, ht⟩ := id g1
      refine ⟨_, rfl, _, rfl, t, [x, y, z], rfl, SqT.of ht, _, rfl, ifnb (fun h1 => ?_) (fun h1 => ?_)⟩
      · refine q _ _ e1 ⟨fun z => Bool.noConfusion z, fun ⟨x', y', z', g', h0, _⟩ => ?_⟩
        obtain ⟨rfl, rfl, rfl⟩ := g.uni g'
        exfalso
        simp at h1
        exact h0 h1
      · have hn : ¬ (x = 0 ∧ y = 0 ∧ z = 0) := fun z0 => by
          simp at h1
          omega
        have l2 : ∀ {i j : Int} {m n : Nat}, i.natAbs < 2 ^ m → j.natAbs < 2 ^ n → (i * j).natAbs < 2 ^ (m + n) := fun h1 h2 => wide_lt h1 h2
        refine ⟨_, rfl, t, _, rfl, .inl (.inl ht), rfl, _, _, rfl, _, _, rfl, _, _, rfl, rfl, ?_⟩
        refine ⟨_, rfl, _, rfl, _, _, rfl, rfl, wmul ha b1 (by decide) (by decide) (by decide), _, rfl, _, _, rfl, rfl, wmul (l2 ha b1) b1 (by decide) (by decide) (by decide), _, rfl, _, rfl, _, _, rfl, rfl, wmul hb b2 (by decide) (by decide) (by decide), _, rfl, _, _, rfl, rfl, wmul (l2 hb b2) b2 (by decide) (by decide) (by decide), _, _, rfl, rfl, ?_⟩
        refine ⟨_, rfl, _, rfl, _, _, rfl, rfl, wmul hc b3 (by decide) (by decide) (by decide), _, rfl, _, _, rfl, rfl, wmul (l2 hc b3) b3 (by decide) (by decide) (by decide), _, _, rfl, rfl, ?_⟩
        refine q _ _ e1 ?_
        rw [decide_eq_true_iff]
        exact ⟨fun h => ⟨x, y, z, g, hn, h⟩, fun ⟨x', y', z', g', _, h⟩ => by obtain ⟨rfl, rfl, rfl⟩ := g.uni g'; exact h⟩
structure PointP (vs : List V) (H : Hp) (Q : VK) : Prop where
  ex : ∃ (a b : Int) (v : V), vs = [.int a, .int b, v] ∧ a ≠ 0 ∧ b ≠ 0 ∧ a.natAbs ≤ 1000000000 ∧ b.natAbs ≤ 1000000000 ∧ AnyV H v ∧ (∀ x y z, Tri H v x y z → x.natAbs < 2 ^ 300 ∧ y.natAbs < 2 ^ 300 ∧ z.natAbs < 2 ^ 300) ∧
    ∀ (r : Bool) (H' : Hp), Same H H' → (r = true ↔ ∃ x y z, Tri H v x y z ∧ Sol a b 1 x y z) → Q (.bl r) H'
def spPoint : Sp := fun vs H Q _ => PointP vs H Q
theorem ok_is_point (F : FnD K "is_point" "is_point" s_P_is_point f fd) (C_P_check_number : Cal P w K mg base 2 "check_number" ["value"] spCheckNumber) (C_P_solves : Cal P w K mg base 3 "solves" ["a", "b", "c", "value"] spSolv) : FnOk P w K mg base CX0 4 f fd ["a", "b", "value"] spPoint := by
  refine F.ok sc_P_is_point (fun vs H Q E h => ?_) (fun cdv A outer s H vs Q E hr h => ?_)
  · obtain ⟨a, b, v, rfl, _⟩ := h.ex; rfl
  · obtain ⟨a, b, v, rfl, a0, b0, ha, hb, hv, hbd, q⟩ := h.ex
    refine ⟨_, PSs.nox (pss_cons (ps_expr (pe_cal C_P_check_number (hr.mono (by decide)) (pa_cons (pv 0) pa_nil)))
      (pss_cons (ps_expr (pe_cal C_P_check_number (hr.mono (by decide)) (pa_cons (pv 1) pa_nil)))
      (pss_one (ps_ret (pe_cal C_P_solves (hr.mono (by decide)) (pa_cons (pv 0) (pa_cons (pv 1) (pa_cons pe_int (pa_cons (pv 2) pa_nil))))))))), ?_⟩
    refine ⟨_, rfl, a, rfl, a0, by omega, by omega, _, rfl, b, rfl, b0, by omega, by omega, ?_⟩
    exact ⟨_, rfl, _, rfl, _, rfl, ⟨a, b, 1, v, rfl, by omega, by omega, by decide, hv, hbd, q⟩⟩
end
end Sf

namespace Sf
open PySem PySem.Spec PyProof.Rows L2
section
variable {X : Cx}
theorem cr_repr_bl : CallR X (.builtin "repr") (fun xs H Q => ∃ b : Bool, xs = [.bl b] ∧ Q (.str (if b then "True" else "False")) H) := by
  intro pins s σ H xs us Q I r h
  obtain ⟨b, rfl, q⟩ := h
  obtain ⟨u, rfl, t⟩ := vals1 r
  cases (show u = Value.bool b from t)
  exact PySem.P.repr_of_bool ⟨.str _, H, I.tok _, ⟨_, rfl⟩, q⟩
end
end Sf

namespace Sf
open PySem PySem.Spec PyProof.Rows L2
section
variable {P : Program} {w : World} {K : PySem.W.Frag} {mg : Str → Option Value} {base : Heap} {f : Addr} {fd : FuncData}
structure TakeP (vs : List V) (H : Hp) (Q : VK) : Prop where
  ex : ∃ (p : Addr) (xs : List V) (n : Nat) (m : Int), vs = [.ref p, .int m] ∧ H p = some (.lst xs) ∧ SackO n xs ∧ n ≤ 1000000 ∧ 1 ≤ m ∧ m < 10 ^ 80 ∧
  ∀ (r : Int) (ys : List V), 0 ≤ r → r < m → SackO (n + 1) ys → Q (.int r) (upd H p (.lst ys))
def spTake : Sp := fun vs H Q _ => TakeP vs H Q
theorem ok_drop (F : FnD K "_law_drop" "_law_drop" s_L_drop f fd) (T : Glob mg) : FnOk P w K mg base CX0 1 f fd ["_law_vial_here", "_law_total"] spTake := by
  refine F.ok sc_L_drop (fun vs H Q E h => ?_) (fun cdv A outer s H vs Q E hr h => ?_)
  · obtain ⟨p, xs, n, m, rfl, _⟩ := h.ex; rfl
  · obtain ⟨p, _, n, m, rfl, hp, ⟨a, b, c, rfl, a0, a1, b0, b1, c0, c1⟩, hn, hm, hm1, q⟩ := h.ex
    have m0 : (0 : Int) < m := by omega
    have mb : m.natAbs < 2 ^ 3000 := lt3000 (by omega) (Int.lt_trans hm1 (by decide +kernel))
    have hS : SqL K H p [.int a, .int b, .int c] := SqL.of hp
    refine ⟨_, PSs.nox (pss_cons (ps_if (pt_cmp (pc_gt (pe_ix ix_list (pv 0) pe_int (fun _ _ => rfl)) pe_int)) (pss_cons (ps_set (i := 2) sc_L_drop.nd rfl (Or.inl rfl) (pe_op op_mod (pe_callTy call_int1 (by rfl) T.m_int (by decide +kernel) (pa_cons (pe_ix ix_list (pv 0) pe_int (fun _ _ => rfl)) pa_nil)) (pv 1)))
      (pss_cons (ps_asg (pe_op op_fdivW (pe_ix ix_list (pv 0) pe_int (fun _ _ => rfl)) (pv 1)) (pg_sub (pv 0) pe_int set_list))
      (pss_one (ps_ret (pv 2))))) pss_nil)
      (pss_cons (ps_asg (pe_op op_add (pe_ix ix_list (pv 0) pe_int (fun _ _ => rfl)) pe_int) (pg_sub (pv 0) pe_int set_list))
      (pss_cons (ps_set (i := 3) sc_L_drop.nd rfl (Or.inl rfl) (pe_op op_mod (pe_callTy call_int1 (by rfl) T.m_int (by decide +kernel) (pa_cons (pe_op op_add (pe_ix ix_list (pv 0) pe_int (fun _ _ => rfl)) (pe_op op_mulW pe_int (pe_ix ix_list (pv 0) pe_int (fun _ _ => rfl)))) pa_nil)) pe_int))
      (pss_cons (ps_set (i := 4) sc_L_drop.nd rfl (Or.inl rfl) (pe_op op_mod (pe_callTy call_int1 (by rfl) T.m_int (by decide +kernel) (pa_cons (pe_op op_add (pe_op op_mulW (pv 3) (pv 3)) (pe_op op_mulW pe_int (pe_ix ix_list (pv 0) pe_int (fun _ _ => rfl)))) pa_nil)) pe_int))
      (pss_one (ps_ret (pe_op op_mod (pe_callTy call_int1 (by rfl) T.m_int (by decide +kernel) (pa_cons (pe_op op_fdivW (pe_op op_add (pe_op op_mulW (pv 4) pe_int) (pv 3)) pe_int) pa_nil)) (pv 1)))))))), ?_⟩
    refine ⟨_, rfl, p, _, 0, .int a, rfl, rfl, hS, rfl, _, _, rfl, rfl, _, rfl, ifd (fun h => ?_) (fun h => ?_)⟩
    · refine ⟨_, rfl, p, _, 0, .int a, rfl, rfl, hS, rfl, .inl ⟨_, rfl, _, rfl, _, _, rfl, rfl, m0, ?_⟩⟩
      refine ⟨_, rfl, p, _, 0, .int a, rfl, rfl, hS, rfl, _, rfl, _, _, rfl, rfl, CDivW.of m0 mb, ?_⟩
      refine ⟨_, rfl, p, _, 0, 0, rfl, rfl, hp, rfl, ?_⟩
      refine ⟨_, rfl, q (a % m) _ (Int.emod_nonneg _ (by omega)) (Int.emod_lt_of_pos _ m0) ⟨a / m, b, c, rfl, Int.ediv_nonneg a0 (by omega), ?_, b0, b1, c0, by omega⟩⟩
      exact Int.lt_of_le_of_lt (Int.ediv_le_self m a0) a1
    · refine ⟨_, rfl, p, _, 2, .int c, rfl, rfl, hS, rfl, _, _, rfl, rfl, ?_⟩
      refine ⟨_, rfl, p, _, 2, 2, rfl, rfl, hp, rfl, ?_⟩
      have hS2 : SqL K (upd H p (.lst [.int a, .int b, .int (c + 1)])) p [.int a, .int b, .int (c + 1)] := SqL.of upd_same
      refine ⟨_, rfl, p, _, 1, .int b, rfl, rfl, hS2, rfl, _, rfl, p, _, 2, .int (c + 1), rfl, rfl, hS2, rfl, _, _, rfl, rfl, CMulW.of (lt3000s (by decide) (by decide)) (lt3000s (by omega) (by omega)), _, _, rfl, rfl, .inl ⟨_, rfl, _, _, rfl, rfl, (by show (0 : Int) < 2305843009213693951; decide), ?_⟩⟩
      refine ⟨_, rfl, _, rfl, _, _, rfl, rfl, CMulW.of (lt3000s (by omega) (by omega)) (lt3000s (by omega) (by omega)), _, rfl, p, _, 2, .int (c + 1), rfl, rfl, hS2, rfl, _, _, rfl, rfl, CMulW.of (lt3000s (by decide) (by decide)) (lt3000s (by omega) (by omega)), _, _, rfl, rfl, .inl ⟨_, rfl, _, _, rfl, rfl, (by show (0 : Int) < 2305843009213693921; decide), ?_⟩⟩
      refine ⟨_, rfl, _, _, rfl, rfl, CMulW.of (lt3000s (by omega) (by omega)) (lt3000s (by omega) (by omega)), _, rfl, _, _, rfl, rfl, _, _, rfl, rfl, CDivW.of (by decide) (lt3000s (by decide) (by decide)), .inl ⟨_, rfl, _, rfl, _, _, rfl, rfl, m0, ?_⟩⟩
      refine q _ _ (Int.emod_nonneg _ (by omega)) (Int.emod_lt_of_pos _ m0) ⟨a, b, c + 1, rfl, a0, a1, b0, b1, by omega, by omega⟩
end
end Sf

namespace Sf
open PySem PySem.Spec PyProof.Rows L2
section
variable {P : Program} {w : World} {K : PySem.W.Frag} {mg : Str → Option Value} {base : Heap} {f : Addr} {fd : FuncData}
structure OneOfP (K : PySem.W.Frag) (vs : List V) (H : Hp) (Q : VK) : Prop where
  ex : ∃ (p b : Addr) (xs items : List V) (n : Nat), vs = [.ref p, .ref b] ∧ H p = some (.lst xs) ∧ SackO n xs ∧ n ≤ 1000000 ∧ b ≠ p ∧ SqL K H b items ∧ 1 ≤ items.length ∧ items.length ≤ 1000000 ∧
  ∀ (v : V) (ys : List V), v ∈ items → SackO (n + 1) ys → Q v (upd H p (.lst ys))
def spOneOf (K : PySem.W.Frag) : Sp := fun vs H Q _ => OneOfP K vs H Q
theorem ok_any (F : FnD K "_law_any" "_law_any" s_L_any f fd) (T : Glob mg) (C_L_drop : Cal P w K mg base 1 "_law_drop" ["_law_vial_here", "_law_total"] spTake) : FnOk P w K mg base CX0 2 f fd ["_law_vial_here", "_law_items"] (spOneOf K) := by
  refine F.ok sc_L_any (fun vs H Q E h => ?_) (fun cdv A outer s H vs Q E hr h => ?_)
  · obtain ⟨p, b, xs, items, n, rfl, _⟩ := h.ex; rfl
  · obtain ⟨p, b, xs, items, n, rfl, hp, hx, hn, hne, hS, hl0, hl1, q⟩ := h.ex
    refine ⟨_, PSs.nox (pss_one (ps_ret (pe_ix ix_list (pv 1) (pe_cal C_L_drop (hr.mono (by decide)) (pa_cons (pv 0) (pa_cons (pe_callB call_len_seq (by rfl) T.m_len (by decide +kernel) (pa_cons (pv 1) pa_nil)) pa_nil))) (fun _ _ => rfl)))), ?_⟩
    refine ⟨_, rfl, _, rfl, _, rfl, b, _, rfl, .inl hS, ⟨p, xs, n, _, rfl, hp, hx, hn, by omega, ?_, fun r ys h0 h1 hy => ?_⟩⟩
    · exact Int.lt_trans (by omega : (items.length : Int) < 1000001) (by decide +kernel)
    · have hi : r.toNat < items.length := by omega
      have er : ((r.toNat : Nat) : Int) = r := by omega
      refine ⟨b, items, r, items[r.toNat], rfl, rfl, sq_upd hS hne, ?_, q _ ys (List.getElem_mem hi) hy⟩
      have z := atI_nat (List.getElem?_eq_getElem hi)
      rw [er] at z
      exact z
end
end Sf

namespace Sf
open PySem PySem.Spec PyProof.Rows L2
/-- a draw: the same promises in the words of Sk -/
theorem take_of {H : Hp} {p : Addr} {n : Nat} {m : Int} {Q : VK} (hs : Sk p n H) (hn : n ≤ 1000000) (h1 : 1 ≤ m) (h2 : m < 10 ^ 80) (q : ∀ (r : Int) (H' : Hp), 0 ≤ r → r < m → Keep p H H' → Sk p (n + 1) H' → (∀ b, H b = none → H' b = none) → Q (.int r) H') : TakeP [.ref p, .int m] H Q := by
  obtain ⟨xs, a, b⟩ := hs
  exact ⟨p, xs, n, m, rfl, a, b, hn, h1, h2, fun r ys r0 r1 hy => q r _ r0 r1 Keep.upd ⟨ys, upd_same, hy⟩ fun c hc => by rw [upd_ne (fun z => by rw [z, a] at hc; cases hc)]; exact hc⟩
theorem one_of_new {K : PySem.W.Frag} {H : Hp} {p b : Addr} {n : Nat} {items : List V} {Q : VK} (hs : Sk p n H) (hn : n ≤ 1000000) (hb : H b = none) (h1 : 1 ≤ items.length) (h2 : items.length ≤ 1000000)
    (q : ∀ (v : V) (H' : Hp), v ∈ items → Keep p H H' → Sk p (n + 1) H' → Q v H') : OneOfP K [.ref p, .ref b] (upd H b (.lst items)) Q := by
  obtain ⟨xs, a, o⟩ := hs
  have npb : p ≠ b := ne_of_none a hb
  refine ⟨p, b, xs, items, n, rfl, by rw [upd_ne npb]; exact a, o, hn, npb.symm, SqL.of upd_same, h1, h2, fun v ys hv hy => q v _ hv ?_ ⟨ys, upd_same, hy⟩⟩
  exact (Keep.new hb).trans Keep.upd
end Sf

namespace Sf
open PySem PySem.Spec PyProof.Rows L2
section
variable {P : Program} {w : World} {K : PySem.W.Frag} {mg : Str → Option Value} {base : Heap} {f : Addr} {fd : FuncData}
def spSack (K : PySem.W.Frag) : Sp := fun vs H Q _ => ∃ (a : Addr) (ns : List Int) (t : Nat), vs = [.ref a, .int t] ∧ SqL K H a (ns.map V.int) ∧ ns.length ≤ 63 ∧ t ≤ 10 ∧
  ∀ (p : Addr) (xs : List V) (H' : Hp), Same H H' → H p = none → H' p = some (.lst xs) → SackO 0 xs → Q (.ref p) H'
theorem ok_vial (F : FnD K "_law_vial" "_law_vial" s_L_vial f fd) (T : Glob mg) : FnOk P w K mg base CX0 1 f fd ["_law_script", "_law_at"] (spSack K) := by
  refine F.ok sc_L_vial (fun vs H Q E h => ?_) (fun cdv A outer s H vs Q E hr h => ?_)
  · obtain ⟨a, ns, t, rfl, _⟩ := h; rfl
  · obtain ⟨a, ns, t, rfl, hS, hl, ht, q⟩ := h
    refine ⟨_, PSs.nox (Evl.pss_cut (ps_set (i := 2) sc_L_vial.nd rfl (Or.inl rfl) (pe_ifExp (pt_cmp (pc_lt (pv 1) (pe_callB call_len_seq (by rfl) T.m_len (by decide +kernel) (pa_cons (pv 0) pa_nil)))) (pe_callTy call_int1 (by rfl) T.m_int (by decide +kernel) (pa_cons (pe_ix ix_list (pv 0) (pv 1) (fun _ _ => rfl)) pa_nil)) (pe_op op_add (pe_op op_mulW pe_int (pv 1)) pe_int)))
      (pss_cons (ps_set (i := 3) sc_L_vial.nd rfl (Or.inl rfl) (pe_op op_mod (pe_callTy call_int1 (by rfl) T.m_int (by decide +kernel) (pa_cons (pe_callB call_abs (by rfl) T.m_abs (by decide +kernel) (pa_cons (pv 2) pa_nil)) pa_nil)) (pe_op op_powW (pe_op op_powW pe_int pe_int) pe_int)))
      (pss_one (ps_ret (pe_lst (pa_cons (pe_callB (call_max2 rfl) (by rfl) T.m_max (by decide +kernel) (pa_cons pe_int (pa_cons (pe_op op_sub (pv 3) (pe_op op_powW pe_int pe_int)) pa_nil))) (pa_cons (pe_op op_add (pe_op op_add (pe_op op_add (pe_op op_mulW (pe_op op_mod (pv 3) pe_int) pe_int) (pe_op op_mulW pe_int (pv 1))) (pe_op op_mulW pe_int (pe_callTy call_int1 (by rfl) T.m_int (by decide +kernel) (pa_cons (pe_cmp (pc_lt (pv 2) pe_int) rfl) pa_nil)))) pe_int) (pa_cons pe_int pa_nil)))))))), ?_⟩
    refine ⟨fun σ' H' => ∃ c : Int, σ' = [some (.ref a), some (.int t), some (.int c), none] ∧ Same H H', ?_, ?_⟩
    · refine ⟨_, rfl, _, rfl, a, _, rfl, .inl hS, _, _, rfl, rfl, _, rfl, ifd (fun h => ?_) (fun h => ?_)⟩
      · have hi : t < ns.length := by
          rw [List.length_map] at h
          omega
        refine ⟨_, rfl, _, rfl, a, _, t, .int ns[t], rfl, rfl, hS, atI_nat (by rw [List.getElem?_map, List.getElem?_eq_getElem hi]; rfl), .inl ⟨_, rfl, ?_⟩⟩
        exact ⟨_, rfl, Same.refl H⟩
      · refine ⟨_, rfl, _, _, rfl, rfl, CMulW.of (lt3000s (by decide) (by decide)) (lt3000s (by omega) (by omega)), _, _, rfl, rfl, ?_⟩
        exact ⟨_, rfl, Same.refl H⟩
    · rintro σ' H' ⟨c, rfl, hs⟩
      refine ⟨_, rfl, c, rfl, .inl ⟨_, rfl, 10, 57, rfl, rfl, ⟨by decide, by decide +kernel⟩, 10 ^ 57, 6, rfl, rfl, ⟨by decide, by decide +kernel⟩, _, _, rfl, rfl, (by show (0 : Int) < (10 ^ 57) ^ (6 : Int).toNat; decide +kernel), ?_⟩⟩
      have g0 := Int.emod_nonneg (if c < 0 then -c else c) (by decide +kernel : ((10 : Int) ^ 57) ^ (6 : Int).toNat ≠ 0)
      have g1 := Int.emod_lt_of_pos (if c < 0 then -c else c) (by decide +kernel : (0 : Int) < ((10 : Int) ^ 57) ^ (6 : Int).toNat)
      have e290 : ((10 : Int) ^ 57) ^ (6 : Int).toNat = 10 ^ 342 := by decide +kernel
      rw [e290] at g0 g1
      have gb := lt3000 g0 (Int.lt_trans g1 (by decide +kernel))
      refine ⟨_, rfl, 10, 17, rfl, rfl, ⟨by decide, by decide +kernel⟩, _, _, rfl, rfl, _, _, rfl, ?_⟩
      refine ⟨_, rfl, _, _, rfl, rfl, (by show (0 : Int) < 1000000000061; decide), _, _, rfl, rfl, CMulW.of (lt3000s (by omega) (by omega)) (lt3000s (by decide) (by decide)), _, rfl, _, _, rfl, rfl, CMulW.of (lt3000s (by decide) (by decide)) (lt3000s (by omega) (by omega)), _, _, rfl, rfl, ?_⟩
      refine ⟨_, rfl, _, _, rfl, rfl, .inr ⟨_, rfl, _, _, rfl, rfl, CMulW.of (lt3000s (by decide) (by decide)) (lt3000s (by split <;> decide) (by split <;> decide)), _, _, rfl, rfl, _, _, rfl, rfl, (by show 3 ≤ sizeLine; decide), fun p hp => ?_⟩⟩
      have e16 : (10 : Int) ^ (17 : Int).toNat = 100000000000000000 := by decide +kernel
      have eb : ∀ b : Bool, 0 ≤ (if b = true then (1 : Int) else 0) ∧ (if b = true then (1 : Int) else 0) ≤ 1 := fun b => by cases b <;> decide
      have hb := eb (decide (c < 0))
      refine q p _ _ (hs.trans (same_upd hp)) (hs.free hp) upd_same ⟨_, _, _, rfl, ?_, ?_, ?_, ?_, by decide, by decide⟩
      · rw [e16]
        split <;> omega
      · rw [e16, e290]
        have : (0 : Int) < 10 ^ 342 := by decide +kernel
        have h1 : ∀ z N : Int, 0 ≤ z → z < N → 0 < N → (if z - 100000000000000000 > 0 then z - 100000000000000000 else 0) < N := fun z N a b c => by split <;> omega
        exact Int.lt_trans (h1 _ _ g0 g1 this) (by decide +kernel)
      · omega
      · omega
end
end Sf

namespace Sf
open PySem PySem.Spec PyProof.Rows L2
/-! a class called: what stands then -/
theorem same_new {H : Hp} {x dx C : Addr} (hx : H x = none) (hd : H dx = none) (nd : dx ≠ x) : Same H (upd (upd H dx (.own x)) x (.ins C dx [])) := (same_upd hd).trans (same_upd (by rw [upd_ne nd.symm]; exact hx))
theorem same_keep {x : Addr} {H H1 H2 : Hp} (hx : H x = none) (s : Same H H1) (k : Keep x H1 H2) : Same H H2 := fun d o e => k _ _ (s _ _ e) (ne_of_none e hx)
theorem new_alg {CA : Addr} {H : Hp} {a b : Int} {R : VK} {x dx : Addr} (a0 : a ≠ 0) (b0 : b ≠ 0) (a1 : a.natAbs ≤ 1000000000) (b1 : b.natAbs ≤ 1000000000) (hx : H x = none) (hd : H dx = none) (nd : dx ≠ x) (q : ∀ (H' : Hp), Same H H' → AlgAt CA H' x a b → R .non H') :
    AlgInitP CA [.ref x, .int a, .int b] (upd (upd H dx (.own x)) x (.ins CA dx [])) R :=
  ⟨x, dx, a, b, rfl, a0, b0, a1, b1, upd_same, fun H' k hA => q H' (same_keep hx (same_new hx hd nd) k) hA⟩
theorem new_rat {CR : Addr} {H : Hp} {t b : Int} {R : VK} {x dx : Addr} (b0 : b ≠ 0) (t1 : t.natAbs < 10 ^ 60) (b1 : b.natAbs < 10 ^ 60) (hx : H x = none) (hd : H dx = none) (nd : dx ≠ x) (q : ∀ (t' b' : Int) (H' : Hp), LowT t b t' b' → Same H H' → RatioAt CR H' x t' b' → R .non H') :
    RatInitP CR [.ref x, .int t, .int b] (upd (upd H dx (.own x)) x (.ins CR dx [])) R :=
  ⟨x, dx, t, b, rfl, b0, t1, b1, upd_same, fun t' b' H' l k hR => q t' b' H' l (same_keep hx (same_new hx hd nd) k) hR⟩
theorem new_four {CF CR CA : Addr} {H : Hp} {al e x dx : Addr} {a b : Int} {p : Q5} {R : VK} (hal : AlgAt CA H al a b) (he : H e = some (.tup (ents p))) (d0 : p.d ≠ 0) (hp : Pass60 p) (bp : Bd 3000 p) (hlow : ∀ r, Low5 p r → Bd 3000 r)
    (hx : H x = none) (hd : H dx = none) (nd : dx ≠ x) (q : ∀ (r : Q5) (H' : Hp), Low5 p r → Same H H' → FourAt CF CR H' x al a b r → R .non H') :
    FourInitP CF CR CA [.ref x, .ref al, .ref e, .int p.d] (upd (upd H dx (.own x)) x (.ins CF dx [])) R := by
  have s := same_new (C := CF) hx hd nd
  refine ⟨x, dx, al, e, a, b, p, rfl, hal.same s, fun z => ?_, s _ _ he, d0, hp, bp, upd_same, hlow, fun r H' l k hF => q r H' l (same_keep hx s k) hF⟩
  obtain ⟨_, _, _, g, _⟩ := hal.ex
  rw [z, hx] at g
  cases g
/-- a ratio has its lowest terms once -/
theorem low_one_r {t : Int} {t' b' : Int} (h : LowT t 1 t' b') : t' = t ∧ b' = 1 := by
  obtain ⟨h0, h1, h2⟩ := h
  have e : t' = t * b' := by rw [h1, Int.mul_one]
  have d : b'.natAbs ∣ t'.natAbs := Int.natAbs_dvd_natAbs.mpr ⟨t, by rw [e, Int.mul_comm]⟩
  have g : t'.natAbs.gcd b'.natAbs = b'.natAbs := Nat.gcd_eq_right d
  have b1 : b' = 1 := by omega
  subst b1
  exact ⟨by omega, rfl⟩
theorem low_one_q {w x y z : Int} {r : Q5} (h : Low5 ⟨w, x, y, z, 1⟩ r) : r = ⟨w, x, y, z, 1⟩ := by
  obtain ⟨h0, h1, h2, h3, h4, h5⟩ := h
  obtain ⟨w', x', y', z', d⟩ := r
  dsimp only at *
  have dv : ∀ {s t : Int}, s * d = t * 1 → d.natAbs ∣ t.natAbs := fun {s t} e => Int.natAbs_dvd_natAbs.mpr ⟨s, by rw [Int.mul_comm, e, Int.mul_one]⟩
  have g : d.natAbs ∣ gcd5 w' x' y' z' d := Nat.dvd_gcd (Nat.dvd_gcd (Nat.dvd_gcd (Nat.dvd_gcd (dv h1) (dv h2)) (dv h3)) (dv h4)) (Nat.dvd_refl _)
  rw [h5] at g
  have d1 : d = 1 := by
    have := Nat.dvd_one.mp g
    omega
  subst d1
  simp only [Int.mul_one] at h1 h2 h3 h4
  subst h1 h2 h3 h4
  rfl
end Sf

namespace Sf
open PySem PySem.Spec PyProof.Rows L2
/-! ### signs multiply -/
def par2 (s t : Nat) (u v : Int) : Int := (u - 1) / 2 * ((v - 1) / 2) + s * ((v * v - 1) / 8) + t * ((u * u - 1) / 8)
theorem sgn2 (s t : Nat) (u v : Int) : sgnAt 2 s t u v = if par2 s t u v % 2 = 1 then -1 else 1 := rfl
theorem e_mul {v w : Int} (hv : v % 2 = 1) (hw : w % 2 = 1) : ((v * w - 1) / 2) % 2 = ((v - 1) / 2 + (w - 1) / 2) % 2 := by
  have h1 : v = 2 * ((v - 1) / 2) + 1 := by omega
  have h2 : w = 2 * ((w - 1) / 2) + 1 := by omega
  generalize (v - 1) / 2 = k at h1 ⊢
  generalize (w - 1) / 2 = l at h2 ⊢
  have e : v * w = 4 * (k * l) + 2 * k + 2 * l + 1 := by rw [h1, h2]; grind
  omega
theorem w_mul {v w : Int} (hv : v % 2 = 1) (hw : w % 2 = 1) : ((v * w * (v * w) - 1) / 8) % 2 = ((v * v - 1) / 8 + (w * w - 1) / 8) % 2 := by
  have s1 := odd_sq8 (w := v) (by omega)
  have s2 := odd_sq8 (w := w) (by omega)
  have h1 : v * v = 8 * ((v * v - 1) / 8) + 1 := by omega
  have h2 : w * w = 8 * ((w * w - 1) / 8) + 1 := by omega
  generalize (v * v - 1) / 8 = k at h1 ⊢
  generalize (w * w - 1) / 8 = l at h2 ⊢
  have e : v * w * (v * w) = (v * v) * (w * w) := by grind
  have e2 : v * w * (v * w) = 64 * (k * l) + 8 * k + 8 * l + 1 := by rw [e, h1, h2]; grind
  omega
theorem par2_mul {s t t' : Nat} {u v w : Int} (hv : v % 2 = 1) (hw : w % 2 = 1) : par2 s (t + t') u (v * w) % 2 = (par2 s t u v + par2 s t' u w) % 2 := by
  unfold par2
  have h1 := par_mul ((u - 1) / 2) ((v * w - 1) / 2) ((u - 1) / 2) _ rfl (e_mul hv hw)
  have h2 := par_mul (s : Int) ((v * w * (v * w) - 1) / 8) (s : Int) _ rfl (w_mul hv hw)
  rw [Int.mul_add] at h1 h2
  have h3 : ((t + t' : Nat) : Int) * ((u * u - 1) / 8) = t * ((u * u - 1) / 8) + t' * ((u * u - 1) / 8) := by rw [Int.natCast_add, Int.add_mul]
  omega
theorem sgn_mul2 {s t t' : Nat} {u v w : Int} (hv : v % 2 = 1) (hw : w % 2 = 1) : sgnAt 2 s (t + t') u (v * w) = sgnAt 2 s t u v * sgnAt 2 s t' u w := by
  rw [sgn2, sgn2, sgn2]
  have h := par2_mul (s := s) (t := t) (t' := t') (u := u) hv hw
  by_cases c1 : par2 s t u v % 2 = 1 <;> by_cases c2 : par2 s t' u w % 2 = 1
  · rw [if_pos c1, if_pos c2, if_neg (by omega)]; rfl
  · rw [if_pos c1, if_neg c2, if_pos (by omega)]; rfl
  · rw [if_neg c1, if_pos c2, if_pos (by omega)]; rfl
  · rw [if_neg c1, if_neg c2, if_neg (by omega)]; rfl
theorem sgn_mul_odd {q : Nat} (h3 : 3 ≤ q) (he : euler q = true) (hp : PrP q) {s t t' : Nat} {u v w : Int} (hu : u % (q : Int) ≠ 0) : sgnAt q s (t + t') u (v * w) = sgnAt q s t u v * sgnAt q s t' u w := by
  have n2 : ¬ (q : Int) = 2 := by omega
  have m1 : (-1 : Int) % (q : Int) ≠ 0 := fun z => prime_one hp ((Int.dvd_neg).mp (Int.dvd_of_emod_eq_zero z))
  have r1 := rest_unit m1
  have r2 := rest_unit hu
  unfold sgnAt
  rw [if_neg n2, if_neg n2, if_neg n2, sign_mul h3 he hp]
  have k1 : s * (t + t') % 2 = (s % 2) * ((t % 2 + t' % 2) % 2) % 2 := by rw [Nat.mul_mod, Nat.add_mod]
  have k2 : s * t % 2 = (s % 2) * (t % 2) % 2 := by rw [Nat.mul_mod]
  have k3 : s * t' % 2 = (s % 2) * (t' % 2) % 2 := by rw [Nat.mul_mod]
  have k4 : (t + t') % 2 = (t % 2 + t' % 2) % 2 := Nat.add_mod _ _ _
  rw [k1, k2, k3, k4]
  generalize restSign (-1) (q : Int) = A at r1 ⊢
  generalize restSign u (q : Int) = B at r2 ⊢
  generalize restSign v (q : Int) = C
  generalize restSign w (q : Int) = D
  have d1 : s % 2 = 0 ∨ s % 2 = 1 := by omega
  have d2 : t % 2 = 0 ∨ t % 2 = 1 := by omega
  have d3 : t' % 2 = 0 ∨ t' % 2 = 1 := by omega
  have g1 : A * B * C * (A * B * D) = C * D := by
    have : A * B * C * (A * B * D) = (A * A) * (B * B) * (C * D) := by clear r1 r2 k1 k2 k3 k4 d1 d2 d3; grind
    rw [this, r1, r2]; simp
  clear k1 k2 k3 k4 h3 he hp hu n2 m1
  rcases d1 with e1 | e1 <;> rcases d2 with e2 | e2 <;> rcases d3 with e3 | e3 <;> rw [e1, e2, e3] <;> simp <;> clear e1 e2 e3 <;> grind
def GoodPl (p : Int) : Prop := p = 0 ∨ (PrP p ∧ (p = 2 ∨ ∃ q : Nat, p = q ∧ 3 ≤ q ∧ euler q = true))
theorem hsign_mul {a b c p r1 r2 : Int} (hp : GoodPl p) (b0 : b ≠ 0) (c0 : c ≠ 0) (h1 : HSign a b p r1) (h2 : HSign a c p r2) : HSign a (b * c) p (r1 * r2) := by
  rcases hp with p0 | ⟨hp, he⟩
  · have f1 : r1 = if a < 0 ∧ b < 0 then -1 else 1 := by
      rcases h1 with ⟨_, e⟩ | ⟨n, _⟩
      · exact e
      · exact absurd p0 n
    have f2 : r2 = if a < 0 ∧ c < 0 then -1 else 1 := by
      rcases h2 with ⟨_, e⟩ | ⟨n, _⟩
      · exact e
      · exact absurd p0 n
    refine .inl ⟨p0, ?_⟩
    rw [f1, f2]
    rcases Int.lt_or_gt_of_ne b0 with b1 | b1 <;> rcases Int.lt_or_gt_of_ne c0 with c1 | c1
    · have : 0 < b * c := Int.mul_pos_of_neg_of_neg b1 c1
      by_cases a1 : a < 0
      · rw [if_pos ⟨a1, b1⟩, if_pos ⟨a1, c1⟩, if_neg (by omega)]; rfl
      · rw [if_neg (fun z => a1 z.1), if_neg (fun z => a1 z.1), if_neg (fun z => a1 z.1)]; rfl
    · have : b * c < 0 := Int.mul_neg_of_neg_of_pos b1 c1
      by_cases a1 : a < 0
      · rw [if_pos ⟨a1, b1⟩, if_neg (by omega), if_pos (by omega)]; rfl
      · rw [if_neg (fun z => a1 z.1), if_neg (fun z => a1 z.1), if_neg (fun z => a1 z.1)]; rfl
    · have : b * c < 0 := Int.mul_neg_of_pos_of_neg b1 c1
      by_cases a1 : a < 0
      · rw [if_pos (by omega : a < 0 ∧ c < 0), if_neg (by omega), if_pos (by omega)]; rfl
      · rw [if_neg (fun z => a1 z.1), if_neg (fun z => a1 z.1), if_neg (fun z => a1 z.1)]; rfl
    · have : 0 < b * c := Int.mul_pos b1 c1
      rw [if_neg (by omega), if_neg (by omega), if_neg (by omega)]; rfl
  · have p2 := hp.1
    obtain ⟨p0, s, t, u, v, g1, g2, e1⟩ := h1.resolve_left (fun z => by omega)
    obtain ⟨_, s', t', u', v', k1, k2, e2⟩ := h2.resolve_left (fun z => by omega)
    obtain ⟨es, eu⟩ := strip_unique hp k1 g1
    subst es eu
    refine .inr ⟨p0, s', t + t', u', v * v', k1, ?_, ?_⟩
    · constructor
      · rw [g2.1, k2.1, Int.pow_add]
        grind
      · intro z
        rcases prime_mul hp (Int.dvd_of_emod_eq_zero z) with d | d
        · exact g2.2 (Int.emod_eq_zero_of_dvd d)
        · exact k2.2 (Int.emod_eq_zero_of_dvd d)
    · rw [e1, e2]
      rcases he with e | ⟨q, e, h3, h4⟩
      · subst e
        have h5 := g2.2
        have h6 := k2.2
        exact (sgn_mul2 (by omega) (by omega)).symm
      · subst e
        exact (sgn_mul_odd h3 h4 hp k1.2).symm
theorem hsign_sq {a b p r : Int} (hp : p = 0 ∨ PrP p) (h : HSign a b p r) : r = 1 ∨ r = -1 := by
  rcases h with ⟨_, e⟩ | ⟨p0, s, t, u, v, g1, g2, e⟩
  · rw [e]; split
    · exact .inr rfl
    · exact .inl rfl
  · have hp := hp.resolve_left p0
    have pm : ∀ x : Int, x * x = 1 → x = 1 ∨ x = -1 := fun x h => by
      have : x.natAbs * x.natAbs = 1 := by rw [← Int.natAbs_mul, h]; rfl
      have := Nat.eq_one_of_mul_eq_one_left this
      omega
    apply pm
    rw [e]
    unfold sgnAt
    split
    · split <;> rfl
    · have m1 : (-1 : Int) % p ≠ 0 := fun z => prime_one hp ((Int.dvd_neg).mp (Int.dvd_of_emod_eq_zero z))
      have r1 := rest_unit m1
      have r2 := rest_unit g1.2
      have r3 := rest_unit g2.2
      have q1 : (if s * t % 2 = 1 then restSign (-1) p else 1) * (if s * t % 2 = 1 then restSign (-1) p else 1) = 1 := by split <;> simp_all
      have q2 : (if t % 2 = 1 then restSign u p else 1) * (if t % 2 = 1 then restSign u p else 1) = 1 := by split <;> simp_all
      have q3 : (if s % 2 = 1 then restSign v p else 1) * (if s % 2 = 1 then restSign v p else 1) = 1 := by split <;> simp_all
      grind
/-! ### pairs with the sign 1 everywhere -/
theorem rest_one {n p : Int} (hp : 2 < p) (h : n % p = 1) : restSign n p = 1 := by
  unfold restSign
  rw [if_neg (by omega), if_neg (by omega), ← pow_mod, h, Int.one_pow, if_pos (Int.emod_eq_of_lt (by decide) (by omega))]
theorem hs_one {b p r : Int} (hp : p = 0 ∨ PrP p) (h : HSign 1 b p r) : r = 1 := by
  rcases h with ⟨_, e⟩ | ⟨p0, s, t, u, v, g1, g2, e⟩
  · rw [e]; rfl
  · have hp := hp.resolve_left p0
    have p2 := hp.1
    have z := strip_unique hp g1 (show Strip 1 p 0 1 from ⟨by rw [Int.pow_zero]; rfl, by rw [Int.emod_eq_of_lt (by decide) (by omega)]; decide⟩)
    rw [e, z.1, z.2]
    unfold sgnAt
    by_cases c : p = 2
    · rw [if_pos c, if_neg (by simp)]
    · rw [if_neg c, rest_one (by omega) (Int.emod_eq_of_lt (by decide) (by omega))]
      simp
theorem hs_neg {a p r : Int} (hp : GoodPl p) (a0 : a ≠ 0) (h : HSign a (-a) p r) : r = 1 := by
  rcases hp with p0 | ⟨hp, he⟩
  · rcases h with ⟨_, e⟩ | ⟨n, _⟩
    · rw [e, if_neg (by omega)]
    · exact absurd p0 n
  · have p2 := hp.1
    obtain ⟨p0, s, t, u, v, g1, g2, e⟩ := h.resolve_left (fun z => by omega)
    have hn : Strip (-a) p s (-u) := ⟨by rw [g1.1, Int.mul_neg], fun z => g1.2 (Int.emod_eq_zero_of_dvd ((Int.dvd_neg).mp (Int.dvd_of_emod_eq_zero z)))⟩
    obtain ⟨e1, e2⟩ := strip_unique hp g2 hn
    rw [e, e1, e2]
    rcases he with c | ⟨q, c, h3, h4⟩
    · subst c
      rw [sgn2, if_neg ?_]
      unfold par2
      have hu := g1.2
      have h1 : u = 2 * ((u - 1) / 2) + 1 := by omega
      have h2 : (-u - 1) / 2 = -((u - 1) / 2) - 1 := by omega
      rw [h2, Int.neg_mul_neg]
      generalize (u - 1) / 2 = k
      have : (k * (-k - 1)) % 2 = 0 := by
        rcases (by omega : k % 2 = 0 ∨ k % 2 = 1) with c | c
        · have := par_mul k (-k - 1) 0 (-k - 1) (by omega) rfl
          omega
        · have := par_mul k (-k - 1) k 0 rfl (by omega)
          omega
      omega
    · subst c
      have n2 : ¬ (q : Int) = 2 := by omega
      have m1 : (-1 : Int) % (q : Int) ≠ 0 := fun z => prime_one hp ((Int.dvd_neg).mp (Int.dvd_of_emod_eq_zero z))
      have r1 := rest_unit m1
      have r2 := rest_unit g1.2
      unfold sgnAt
      rw [if_neg n2]
      have en : -u = (-1) * u := by omega
      rw [en, sign_mul h3 h4 hp]
      have k2 : s * s % 2 = (s % 2) * (s % 2) % 2 := by rw [Nat.mul_mod]
      rw [k2]
      rcases (by omega : s % 2 = 0 ∨ s % 2 = 1) with c | c
      · rw [c]; simp
      · rw [c]; simp; grind
theorem hs_even {b p r : Int} (hp : p = 0 ∨ PrP p) (b0 : b ≠ 0) (b1 : b ≠ 1) (hb : p = 2 → b % 2 = 0) (h : HSign b (1 - b) p r) : r = 1 := by
  rcases h with ⟨_, e⟩ | ⟨p0, s, t, u, v, g1, g2, e⟩
  · rw [e, if_neg (by omega)]
  · have hp := hp.resolve_left p0
    have p2 := hp.1
    by_cases c : p = 2
    · subst c
      have hb := hb rfl
      have z2 := strip_unique hp g2 (show Strip (1 - b) 2 0 (1 - b) from ⟨by rw [Int.pow_zero, Int.one_mul], by omega⟩)
      rw [e, z2.1, z2.2, sgn2, if_neg ?_]
      unfold par2
      have hu := g1.2
      have e1 := g1.1
      rcases s with _ | _ | _ | s
      · rw [Int.pow_zero, Int.one_mul] at e1
        omega
      · have eb : b = 2 * u := by rw [e1]; rfl
        rw [eb]
        have h1 : u = 2 * ((u - 1) / 2) + 1 := by omega
        generalize (u - 1) / 2 = k at h1 ⊢
        have f1 : (1 - 2 * u - 1) / 2 = -u := by omega
        have f2 : ((1 - 2 * u) * (1 - 2 * u) - 1) / 8 = 2 * (k * k) + k := by
          have : (1 - 2 * u) * (1 - 2 * u) = 8 * (2 * (k * k) + k) + 1 := by rw [h1]; grind
          omega
        rw [f1, f2, h1]
        have f3 : k * -(2 * k + 1) = -(2 * (k * k)) - k := by grind
        rw [f3]
        omega
      · have eb : b = 4 * u := by rw [e1]; rfl
        rw [eb]
        have f1 : (1 - 4 * u - 1) / 2 = 2 * (-u) := by omega
        rw [f1]
        have f2 : (u - 1) / 2 * (2 * -u) = 2 * ((u - 1) / 2 * -u) := by grind
        rw [f2]
        omega
      · have eb : b = 8 * (2 ^ s * u) := by rw [e1, Int.pow_succ, Int.pow_succ, Int.pow_succ]; grind
        generalize 2 ^ s * u = m at eb
        rw [eb]
        have f1 : (1 - 8 * m - 1) / 2 = 2 * (-(2 * m)) := by omega
        have f2 : ((1 - 8 * m) * (1 - 8 * m) - 1) / 8 = 2 * (4 * (m * m) - m) := by
          have : (1 - 8 * m) * (1 - 8 * m) = 16 * (4 * (m * m) - m) + 1 := by grind
          omega
        rw [f1, f2]
        have f3 : (u - 1) / 2 * (2 * -(2 * m)) = 2 * ((u - 1) / 2 * -(2 * m)) := by grind
        have f4 : ((s + 1 + 1 + 1 : Nat) : Int) * (2 * (4 * (m * m) - m)) = 2 * (((s + 1 + 1 + 1 : Nat) : Int) * (4 * (m * m) - m)) := by grind
        rw [f3, f4]
        omega
    · have p3 : 2 < p := by omega
      rw [e]
      unfold sgnAt
      rw [if_neg c]
      by_cases d1 : b % p = 0
      · have d2 : (1 - b) % p = 1 := by
          have := Int.dvd_of_emod_eq_zero d1
          obtain ⟨k, hk⟩ := this
          rw [hk, Int.sub_eq_add_neg, ← Int.mul_neg, Int.add_mul_emod_self_left]
          exact Int.emod_eq_of_lt (by decide) (by omega)
        have z2 := strip_unique hp g2 (show Strip (1 - b) p 0 (1 - b) from ⟨by rw [Int.pow_zero, Int.one_mul], by rw [d2]; decide⟩)
        rw [z2.1, z2.2, rest_one p3 d2]
        simp
      · have z1 := strip_unique hp g1 (show Strip b p 0 b from ⟨by rw [Int.pow_zero, Int.one_mul], d1⟩)
        rw [z1.1, z1.2]
        by_cases d2 : (1 - b) % p = 0
        · have d3 : b % p = 1 := by
            obtain ⟨k, hk⟩ := Int.dvd_of_emod_eq_zero d2
            have : b = 1 + p * (-k) := by rw [Int.mul_neg]; omega
            rw [this, Int.add_mul_emod_self_left]
            exact Int.emod_eq_of_lt (by decide) (by omega)
          rw [rest_one p3 d3]
          simp
        · have z2 := strip_unique hp g2 (show Strip (1 - b) p 0 (1 - b) from ⟨by rw [Int.pow_zero, Int.one_mul], d2⟩)
          rw [z2.1]
          simp
theorem hs_flip {b p r : Int} (hp : p = 0 ∨ PrP p) (b0 : b ≠ 0) (b1 : b ≠ 1) (h : HSign b (1 - b) p r) : r = 1 := by
  by_cases c : b % 2 = 0
  · exact hs_even hp b0 b1 (fun _ => c) h
  · have e : b = 1 - (1 - b) := by omega
    refine hs_even (b := 1 - b) hp (by omega) (by omega) (fun _ => by omega) ?_
    rw [← e]
    exact hsign_comm h
end Sf

namespace Sf
open PySem PySem.Spec PyProof.Rows L2
/-! Fermat's little theorem by the residues that a multiplication exchanges; residue signs multiply for every prime -/
theorem perm_sub : ∀ {l m : List Int}, l.Nodup → m.Nodup → (∀ x ∈ l, x ∈ m) → m.length ≤ l.length → l.Perm m
  | [], m, _, _, _, h => by
    have : m = [] := List.eq_nil_of_length_eq_zero (by simpa using h)
    rw [this]
  | x :: l, m, hl, hm, hs, h => by
    have hx := hs x List.mem_cons_self
    have p := List.perm_cons_erase hx
    have hl' := List.nodup_cons.mp hl
    refine (List.Perm.cons x (perm_sub hl'.2 (hm.erase x) (fun y hy => ?_) ?_)).trans p.symm
    · have ne : y ≠ x := fun z => hl'.1 (z ▸ hy)
      exact (List.mem_erase_of_ne ne).mpr (hs y (List.mem_cons_of_mem _ hy))
    · rw [List.length_erase_of_mem hx]
      have := h
      rw [List.length_cons] at this
      omega
def prL (l : List Int) : Int := l.foldr (· * ·) 1
theorem prL_perm {l m : List Int} (h : l.Perm m) : prL l = prL m := by
  induction h with
  | nil => rfl
  | cons x _ ih => show x * prL _ = x * prL _; rw [ih]
  | swap x y l =>
    show y * (x * prL l) = x * (y * prL l)
    rw [← Int.mul_assoc, ← Int.mul_assoc, Int.mul_comm y x]
  | trans _ _ h1 h2 => exact h1.trans h2
theorem prL_mod (a p : Int) : ∀ l : List Int, prL (l.map fun x => a * x % p) % p = a ^ l.length * prL l % p
  | [] => by
    show (1 : Int) % p = a ^ 0 * 1 % p
    rw [Int.pow_zero, Int.mul_one]
  | x :: l => by
    show (a * x % p) * prL (l.map fun x => a * x % p) % p = a ^ (l.length + 1) * (x * prL l) % p
    rw [Int.mul_emod, prL_mod a p l, Int.emod_emod, ← Int.mul_emod, Int.pow_succ]
    congr 1
    grind
theorem prL_prime {p : Int} (hp : PrP p) : ∀ {l : List Int}, (∀ x ∈ l, ¬ p ∣ x) → ¬ p ∣ prL l
  | [], _ => prime_one hp
  | x :: l, h => fun z => by
    rcases prime_mul hp (show p ∣ x * prL l from z) with y | y
    · exact h x List.mem_cons_self y
    · exact prL_prime hp (fun x hx => h x (List.mem_cons_of_mem _ hx)) y
def resL (p : Nat) : List Int := (List.range' 1 (p - 1)).map fun x : Nat => (x : Int)
theorem resL_mem {p : Nat} (hp : 1 ≤ p) {x : Int} : x ∈ resL p ↔ 1 ≤ x ∧ x < p := by
  unfold resL
  rw [List.mem_map]
  constructor
  · rintro ⟨y, hy, rfl⟩
    have := List.mem_range'_1.mp hy
    omega
  · rintro ⟨h1, h2⟩
    exact ⟨x.toNat, List.mem_range'_1.mpr (by omega), by omega⟩
theorem resL_nodup (p : Nat) : (resL p).Nodup := by
  unfold resL
  refine List.pairwise_map.mpr (List.Pairwise.imp (fun {a b : Nat} (h : a ≠ b) (e : (a : Int) = b) => h (by omega)) (List.nodup_range' (s := 1) (n := p - 1)))
theorem small_dvd {p x : Int} (h : p ∣ x) (h1 : -p < x) (h2 : x < p) : x = 0 := by
  obtain ⟨k, rfl⟩ := h
  have hp : 0 < p := by omega
  by_cases k0 : k = 0
  · rw [k0, Int.mul_zero]
  · exfalso
    by_cases kp : 0 < k
    · have : p * 1 ≤ p * k := Int.mul_le_mul_of_nonneg_left (by omega) (by omega)
      omega
    · have : p * k ≤ p * (-1) := Int.mul_le_mul_of_nonneg_left (by omega) (by omega)
      omega
theorem fermat {p : Nat} (hp : PrP (p : Int)) {a : Int} (ha : ¬ (p : Int) ∣ a) : a ^ (p - 1) % (p : Int) = 1 := by
  have p2 := hp.1
  have hf : ∀ x ∈ resL p, ¬ (p : Int) ∣ x := fun x hx z => by
    have h := (resL_mem (by omega)).mp hx
    have := small_dvd z (by omega) h.2
    omega
  have nd : ((resL p).map fun x => a * x % (p : Int)).Nodup := by
    refine List.pairwise_map.mpr (List.Pairwise.imp_of_mem (fun {x y} hx hy ne e => ne ?_) (resL_nodup p))
    have h1 := (resL_mem (by omega)).mp hx
    have h2 := (resL_mem (by omega)).mp hy
    have d : (p : Int) ∣ a * (x - y) := by
      rw [Int.mul_sub]
      exact Int.dvd_of_emod_eq_zero (Int.emod_eq_emod_iff_emod_sub_eq_zero.mp e)
    rcases prime_mul hp d with z | z
    · exact absurd z ha
    · have := small_dvd z (by omega) (by omega)
      omega
  have sub : ∀ y ∈ (resL p).map fun x => a * x % (p : Int), y ∈ resL p := fun y hy => by
    obtain ⟨x, hx, rfl⟩ := List.mem_map.mp hy
    have h3 := Int.emod_nonneg (a * x) (by omega : (p : Int) ≠ 0)
    have h4 := Int.emod_lt_of_pos (a * x) (by omega : (0 : Int) < p)
    refine (resL_mem (by omega)).mpr ⟨?_, h4⟩
    by_cases z : a * x % (p : Int) = 0
    · rcases prime_mul hp (Int.dvd_of_emod_eq_zero z) with y | y
      · exact absurd y ha
      · exact absurd y (hf x hx)
    · omega
  have pm := perm_sub nd (resL_nodup p) sub (by rw [List.length_map]; exact Nat.le_refl _)
  have e := prL_mod a p (resL p)
  rw [prL_perm pm] at e
  have len : (resL p).length = p - 1 := by unfold resL; rw [List.length_map, List.length_range']
  rw [len] at e
  have d : (p : Int) ∣ (a ^ (p - 1) - 1) * prL (resL p) := by
    rw [Int.sub_mul, Int.one_mul]
    exact Int.dvd_of_emod_eq_zero (Int.emod_eq_emod_iff_emod_sub_eq_zero.mp e.symm)
  rcases prime_mul hp d with z | z
  · have h := Int.emod_eq_emod_iff_emod_sub_eq_zero.mpr (Int.emod_eq_zero_of_dvd z)
    rw [h]
    exact Int.emod_eq_of_lt (by omega) (by omega)
  · exact absurd z (prL_prime hp hf)
/-- a power by half of p - 1 leaves 1 or p - 1 -/
theorem half_two {p : Nat} (hp : PrP (p : Int)) (h3 : p ≠ 2) {a : Int} (ha : a % (p : Int) ≠ 0) : a ^ ((p - 1) / 2) % (p : Int) = 1 ∨ a ^ ((p - 1) / 2) % (p : Int) = p - 1 := by
  have p2 := hp.1
  have odd : p % 2 = 1 := by
    have h := hp.2 2 (by omega)
    by_cases z : p % 2 = 1
    · exact z
    · exact absurd (by omega) (h (by omega))
  have f := fermat hp (fun z => ha (Int.emod_eq_zero_of_dvd z))
  have e : p - 1 = (p - 1) / 2 + (p - 1) / 2 := by omega
  rw [e, Int.pow_add] at f
  generalize a ^ ((p - 1) / 2) = c at f ⊢
  have d : (p : Int) ∣ (c - 1) * (c + 1) := by
    have h : c * c % (p : Int) = 1 % (p : Int) := by rw [f, Int.emod_eq_of_lt (by omega) (by omega)]
    have g := Int.dvd_of_emod_eq_zero (Int.emod_eq_emod_iff_emod_sub_eq_zero.mp h)
    have ee : (c - 1) * (c + 1) = c * c - 1 := by grind
    rw [ee]
    exact g
  rcases prime_mul hp d with z | z
  · left
    have h := Int.emod_eq_emod_iff_emod_sub_eq_zero.mpr (Int.emod_eq_zero_of_dvd z)
    rw [h]
    exact Int.emod_eq_of_lt (by omega) (by omega)
  · right
    have h : c % (p : Int) = (-1) % (p : Int) := Int.emod_eq_emod_iff_emod_sub_eq_zero.mpr (Int.emod_eq_zero_of_dvd (by
      have ee : c - -1 = c + 1 := by omega
      rw [ee]
      exact z))
    have m1 : (-1 : Int) % (p : Int) = p - 1 := by
      have e1 : (-1 : Int) % (p : Int) = (-1 + p * 1) % (p : Int) := (Int.add_mul_emod_self_left ..).symm
      rw [e1, Int.emod_eq_of_lt (by omega) (by omega)]
      omega
    rw [h, m1]
/-- residue signs multiply, for every prime -/
theorem sign_all {p : Int} (hq : PrP p) (a b : Int) : restSign (a * b) p = restSign a p * restSign b p := by
  by_cases h2 : p = 2
  · rw [h2]
    exact sign_mul2 a b
  obtain ⟨n, rfl⟩ : ∃ n : Nat, p = n := ⟨p.toNat, by have := hq.1; omega⟩
  have p2 := hq.1
  have n2 : n ≠ 2 := fun z => h2 (by rw [z]; rfl)
  unfold restSign
  by_cases ha : a % (n : Int) = 0
  · have hab : a * b % (n : Int) = 0 := Int.emod_eq_zero_of_dvd (Int.dvd_mul_of_dvd_left (Int.dvd_of_emod_eq_zero ha))
    rw [if_pos ha, if_pos hab, Int.zero_mul]
  by_cases hb : b % (n : Int) = 0
  · have hab : a * b % (n : Int) = 0 := Int.emod_eq_zero_of_dvd (Int.dvd_mul_of_dvd_right (Int.dvd_of_emod_eq_zero hb))
    rw [if_pos hb, if_pos hab, Int.mul_zero]
  have hab : ¬ a * b % (n : Int) = 0 := fun z => by
    rcases prime_mul hq (Int.dvd_of_emod_eq_zero z) with y | y
    · exact ha (Int.emod_eq_zero_of_dvd y)
    · exact hb (Int.emod_eq_zero_of_dvd y)
  rw [if_neg ha, if_neg hb, if_neg hab, if_neg h2, if_neg h2, if_neg h2, half_cast n (by omega)]
  have e1 := half_two hq n2 ha
  have e2 := half_two hq n2 hb
  have pm : (a * b) ^ ((n - 1) / 2) % (n : Int) = ((a ^ ((n - 1) / 2) % (n : Int)) * (b ^ ((n - 1) / 2) % (n : Int))) % (n : Int) := by rw [Int.mul_pow, Int.mul_emod]
  have q1 : ((n : Int) - 1) * ((n : Int) - 1) % (n : Int) = 1 := by
    have : ((n : Int) - 1) * ((n : Int) - 1) = 1 + n * (n - 2) := by grind
    rw [this, Int.add_mul_emod_self_left]
    exact Int.emod_eq_of_lt (by omega) (by omega)
  have q2 : ((n : Int) - 1) % (n : Int) = n - 1 := Int.emod_eq_of_lt (by omega) (by omega)
  have q3 : (1 : Int) % (n : Int) = 1 := Int.emod_eq_of_lt (by omega) (by omega)
  have n1 : ¬ ((n : Int) - 1) = 1 := by omega
  rw [pm]
  rcases e1 with e1 | e1 <;> rcases e2 with e2 | e2 <;> rw [e1, e2]
  · rw [Int.one_mul, q3]; rfl
  · rw [Int.one_mul, q2, if_neg n1]; rfl
  · rw [Int.mul_one, q2, if_neg n1]; rfl
  · rw [q1, if_neg n1]; rfl
/-- the sign of a square that the prime doesn't divide -/
theorem sign_sq {p : Int} (hq : PrP p) {a : Int} (ha : a % p ≠ 0) : restSign (a * a) p = 1 := by
  rw [sign_all hq, rest_unit ha]
end Sf

namespace Sf
open PySem PySem.Spec PyProof.Rows L2
/-! Gauss's lemma; quadratic reciprocity by Eisenstein's count -/
def sumL (l : List Int) : Int := l.foldr (· + ·) 0
theorem sumL_perm {l m : List Int} (h : l.Perm m) : sumL l = sumL m := by
  induction h with
  | nil => rfl
  | cons x _ ih => show x + sumL _ = x + sumL _; rw [ih]
  | swap x y l => show y + (x + sumL l) = x + (y + sumL l); omega
  | trans _ _ h1 h2 => exact h1.trans h2
theorem sumL_append (l m : List Int) : sumL (l ++ m) = sumL l + sumL m := by
  induction l with
  | nil => show sumL m = 0 + sumL m; omega
  | cons x l ih => show x + sumL (l ++ m) = x + sumL l + sumL m; rw [ih]; omega
theorem sumL_add (f g : Int → Int) : ∀ l : List Int, sumL (l.map fun x => f x + g x) = sumL (l.map f) + sumL (l.map g)
  | [] => rfl
  | x :: l => by
    show f x + g x + sumL (l.map fun x => f x + g x) = f x + sumL (l.map f) + (g x + sumL (l.map g))
    rw [sumL_add f g l]
    omega
theorem sumL_swap (g : Int → Int → Int) (m : List Int) : ∀ l : List Int, sumL (l.map fun x => sumL (m.map fun y => g x y)) = sumL (m.map fun y => sumL (l.map fun x => g x y))
  | [] => by
    show (0 : Int) = sumL (m.map fun _ => 0)
    induction m with
    | nil => rfl
    | cons y m ih => show (0 : Int) = 0 + sumL (m.map fun _ => 0); omega
  | x :: l => by
    show sumL (m.map fun y => g x y) + sumL (l.map fun x => sumL (m.map fun y => g x y)) = sumL (m.map fun y => g x y + sumL (l.map fun x => g x y))
    rw [sumL_swap g m l, sumL_add]
theorem sumL_congr {f g : Int → Int} : ∀ {l : List Int}, (∀ x ∈ l, f x = g x) → sumL (l.map f) = sumL (l.map g)
  | [], _ => rfl
  | x :: l, h => by
    show f x + sumL (l.map f) = g x + sumL (l.map g)
    rw [h x List.mem_cons_self, sumL_congr fun y hy => h y (List.mem_cons_of_mem _ hy)]
theorem sumL_one (l : List Int) : sumL (l.map fun _ => 1) = l.length := by
  induction l with
  | nil => rfl
  | cons x l ih => show 1 + sumL (l.map fun _ => 1) = _; rw [ih, List.length_cons]; omega
def halfL (p : Nat) : List Int := (List.range' 1 ((p - 1) / 2)).map fun x : Nat => (x : Int)
theorem halfL_mem {p : Nat} {x : Int} : x ∈ halfL p ↔ 1 ≤ x ∧ x ≤ (((p - 1) / 2 : Nat) : Int) := by
  unfold halfL
  rw [List.mem_map]
  constructor
  · rintro ⟨y, hy, rfl⟩
    have := List.mem_range'_1.mp hy
    omega
  · rintro ⟨h1, h2⟩
    exact ⟨x.toNat, List.mem_range'_1.mpr (by omega), by omega⟩
theorem halfL_nodup (p : Nat) : (halfL p).Nodup := by
  unfold halfL
  exact List.pairwise_map.mpr (List.Pairwise.imp (fun {a b : Nat} (h : a ≠ b) (e : (a : Int) = b) => h (by omega)) (List.nodup_range' (s := 1) (n := (p - 1) / 2)))
theorem halfL_len (p : Nat) : (halfL p).length = (p - 1) / 2 := by
  unfold halfL
  rw [List.length_map, List.length_range']
def gsT (p : Nat) (a x : Int) : Int := if a * x % p ≤ (((p - 1) / 2 : Nat) : Int) then a * x % p else p - a * x % p
def gsM (p : Nat) (a x : Int) : Int := if a * x % p ≤ (((p - 1) / 2 : Nat) : Int) then 0 else 1
def muG (p : Nat) (a : Int) : Int := sumL ((halfL p).map (gsM p a))
def sgP (n : Int) : Int := if n % 2 = 1 then -1 else 1
theorem sgP_add (m n : Int) : sgP (m + n) = sgP m * sgP n := by
  unfold sgP
  by_cases c1 : m % 2 = 1 <;> by_cases c2 : n % 2 = 1
  · rw [if_pos c1, if_pos c2, if_neg (by omega)]; rfl
  · rw [if_pos c1, if_neg c2, if_pos (by omega)]; rfl
  · rw [if_neg c1, if_pos c2, if_pos (by omega)]; rfl
  · rw [if_neg c1, if_neg c2, if_neg (by omega)]; rfl
theorem sgP_par {m n : Int} (h : m % 2 = n % 2) : sgP m = sgP n := by
  unfold sgP
  rw [h]
theorem odd_prime {p : Nat} (hp : PrP (p : Int)) (h2 : p ≠ 2) : p % 2 = 1 := by
  have h := hp.2 2 (by omega)
  have := hp.1
  by_cases z : p % 2 = 1
  · exact z
  · exact absurd (by omega) (h (by omega))
section
variable {p : Nat} {a : Int}
theorem gs_perm (hp : PrP (p : Int)) (h2 : p ≠ 2) (ha : ¬ (p : Int) ∣ a) : ((halfL p).map (gsT p a)).Perm (halfL p) := by
  have p2 := hp.1
  have odd := odd_prime hp h2
  have rr : ∀ x ∈ halfL p, 1 ≤ a * x % (p : Int) ∧ a * x % (p : Int) < p := fun x hx => by
    have h := halfL_mem.mp hx
    have h3 := Int.emod_nonneg (a * x) (by omega : (p : Int) ≠ 0)
    have h4 := Int.emod_lt_of_pos (a * x) (by omega : (0 : Int) < p)
    refine ⟨?_, h4⟩
    by_cases z : a * x % (p : Int) = 0
    · rcases prime_mul hp (Int.dvd_of_emod_eq_zero z) with y | y
      · exact absurd y ha
      · have := small_dvd y (by omega) (by omega)
        omega
    · omega
  refine perm_sub ?_ (halfL_nodup p) (fun y hy => ?_) (by rw [List.length_map]; exact Nat.le_refl _)
  · refine List.pairwise_map.mpr (List.Pairwise.imp_of_mem (fun {x y} hx hy ne e => ne ?_) (halfL_nodup p))
    have h1 := halfL_mem.mp hx
    have h3 := halfL_mem.mp hy
    have r1 := rr x hx
    have r2 := rr y hy
    have d1 : (p : Int) ∣ a * (x - y) ∨ (p : Int) ∣ a * (x + y) := by
      have e1 := Int.emod_add_mul_ediv (a * x) p
      have e2 := Int.emod_add_mul_ediv (a * y) p
      have c : a * x % (p : Int) = a * y % (p : Int) ∨ a * x % (p : Int) + a * y % (p : Int) = p := by
        unfold gsT at e
        split at e <;> split at e <;> omega
      rcases c with c | c
      · left
        refine ⟨a * x / p - a * y / p, ?_⟩
        rw [Int.mul_sub, Int.mul_sub]
        omega
      · right
        refine ⟨a * x / p + a * y / p + 1, ?_⟩
        rw [Int.mul_add, Int.mul_add, Int.mul_add]
        omega
    rcases d1 with d | d <;> rcases prime_mul hp d with z | z
    · exact absurd z ha
    · have := small_dvd z (by omega) (by omega)
      omega
    · exact absurd z ha
    · have := small_dvd z (by omega) (by omega)
      omega
  · obtain ⟨x, hx, rfl⟩ := List.mem_map.mp hy
    have r1 := rr x hx
    refine halfL_mem.mpr ?_
    unfold gsT
    split <;> omega
theorem gs_prod : ∀ l : List Int, prL (l.map fun x => a * x % (p : Int)) % (p : Int) = sgP (sumL (l.map (gsM p a))) * prL (l.map (gsT p a)) % (p : Int)
  | [] => rfl
  | x :: l => by
    show (a * x % (p : Int)) * prL (l.map fun x => a * x % (p : Int)) % (p : Int) = sgP (gsM p a x + sumL (l.map (gsM p a))) * (gsT p a x * prL (l.map (gsT p a))) % (p : Int)
    have e1 : (a * x % (p : Int)) % (p : Int) = sgP (gsM p a x) * gsT p a x % (p : Int) := by
      unfold gsM gsT
      by_cases c : a * x % (p : Int) ≤ (((p - 1) / 2 : Nat) : Int)
      · rw [if_pos c, if_pos c]
        show _ = 1 * (a * x % (p : Int)) % (p : Int)
        rw [Int.one_mul]
      · rw [if_neg c, if_neg c]
        show _ = -1 * ((p : Int) - a * x % (p : Int)) % (p : Int)
        have : -1 * ((p : Int) - a * x % (p : Int)) = a * x % (p : Int) + p * (-1) := by omega
        rw [this, Int.add_mul_emod_self_left]
    rw [Int.mul_emod, e1, gs_prod l, ← Int.mul_emod, sgP_add]
    congr 1
    grind
theorem gauss (hp : PrP (p : Int)) (h2 : p ≠ 2) (ha : ¬ (p : Int) ∣ a) : restSign a p = sgP (muG p a) := by
  have p2 := hp.1
  have odd := odd_prime hp h2
  have e1 := prL_mod a p (halfL p)
  rw [gs_prod, halfL_len, prL_perm (gs_perm hp h2 ha)] at e1
  have nf : ¬ (p : Int) ∣ prL (halfL p) := prL_prime hp fun x hx z => by
    have h := halfL_mem.mp hx
    have := small_dvd z (by omega) (by omega)
    omega
  have d : (p : Int) ∣ (a ^ ((p - 1) / 2) - sgP (muG p a)) * prL (halfL p) := by
    rw [Int.sub_mul]
    exact Int.dvd_of_emod_eq_zero (Int.emod_eq_emod_iff_emod_sub_eq_zero.mp e1.symm)
  have d2 := (prime_mul hp d).resolve_right nf
  have e2 : a ^ ((p - 1) / 2) % (p : Int) = sgP (muG p a) % (p : Int) := Int.emod_eq_emod_iff_emod_sub_eq_zero.mpr (Int.emod_eq_zero_of_dvd d2)
  unfold restSign
  rw [if_neg (fun z => ha (Int.dvd_of_emod_eq_zero z)), if_neg (by omega), half_cast p (by omega), e2]
  unfold sgP
  by_cases c : muG p a % 2 = 1
  · rw [if_pos c]
    have : (-1 : Int) % (p : Int) = p - 1 := by
      have e3 : (-1 : Int) % (p : Int) = (-1 + p * 1) % (p : Int) := (Int.add_mul_emod_self_left ..).symm
      rw [e3, Int.emod_eq_of_lt (by omega) (by omega)]
      omega
    rw [this, if_neg (by omega)]
  · rw [if_neg c, if_pos (Int.emod_eq_of_lt (by omega) (by omega))]
theorem gs_rest (odd : p % 2 = 1) : ∀ l : List Int, sumL (l.map fun x => a * x % (p : Int)) % 2 = (sumL (l.map (gsT p a)) + sumL (l.map (gsM p a))) % 2
  | [] => rfl
  | x :: l => by
    have ih := gs_rest odd l
    show (a * x % (p : Int) + sumL (l.map fun x => a * x % (p : Int))) % 2 = (gsT p a x + sumL (l.map (gsT p a)) + (gsM p a x + sumL (l.map (gsM p a)))) % 2
    have e : (a * x % (p : Int)) % 2 = (gsT p a x + gsM p a x) % 2 := by
      unfold gsT gsM
      split <;> omega
    omega
theorem gs_div : ∀ l : List Int, a * sumL l = p * sumL (l.map fun x => a * x / (p : Int)) + sumL (l.map fun x => a * x % (p : Int))
  | [] => by show a * 0 = p * 0 + 0; omega
  | x :: l => by
    have ih := gs_div l
    show a * (x + sumL l) = p * (a * x / (p : Int) + sumL (l.map fun x => a * x / (p : Int))) + (a * x % (p : Int) + sumL (l.map fun x => a * x % (p : Int)))
    have e := Int.emod_add_mul_ediv (a * x) p
    rw [Int.mul_add, Int.mul_add]
    omega
theorem mu_par (hp : PrP (p : Int)) (h2 : p ≠ 2) (ha : ¬ (p : Int) ∣ a) : (a * sumL (halfL p)) % 2 = (sumL ((halfL p).map fun x => a * x / (p : Int)) + sumL (halfL p) + muG p a) % 2 := by
  have odd := odd_prime hp h2
  have e1 := gs_div (p := p) (a := a) (halfL p)
  have e2 := gs_rest odd (a := a) (halfL p)
  rw [sumL_perm (gs_perm hp h2 ha)] at e2
  unfold muG
  have e3 : (p : Int) * sumL ((halfL p).map fun x => a * x / (p : Int)) % 2 = sumL ((halfL p).map fun x => a * x / (p : Int)) % 2 := by
    rw [Int.mul_emod, show (p : Int) % 2 = 1 by omega, Int.one_mul, Int.emod_emod_of_dvd _ (Int.dvd_refl _)]
  omega
theorem mu_odd (hp : PrP (p : Int)) (h2 : p ≠ 2) (ha : ¬ (p : Int) ∣ a) (oa : a % 2 = 1) : muG p a % 2 = sumL ((halfL p).map fun x => a * x / (p : Int)) % 2 := by
  have e := mu_par hp h2 ha
  rw [Int.mul_emod, oa, Int.one_mul, Int.emod_emod_of_dvd _ (Int.dvd_refl _)] at e
  omega
end
theorem sum_half : ∀ n : Nat, 2 * sumL ((List.range' 1 n).map fun x : Nat => (x : Int)) = n * (n + 1)
  | 0 => rfl
  | n + 1 => by
    have ih := sum_half n
    rw [List.range'_1_concat, List.map_append, sumL_append, Int.mul_add, ih]
    show (n : Int) * (n + 1) + 2 * (((1 + n : Nat) : Int) + 0) = ((n + 1 : Nat) : Int) * (((n + 1 : Nat) : Int) + 1)
    push_cast
    grind
/-- the sign of -1 -/
theorem sup_neg {p : Nat} (hp : PrP (p : Int)) (h2 : p ≠ 2) : restSign (-1) p = sgP ((p - 1) / 2) := by
  have p2 := hp.1
  have odd := odd_prime hp h2
  rw [gauss hp h2 (fun z => prime_one hp ((Int.dvd_neg).mp z))]
  have e : muG p (-1) = (halfL p).length := by
    unfold muG
    rw [← sumL_one]
    refine sumL_congr fun x hx => ?_
    have h := halfL_mem.mp hx
    unfold gsM
    have : -1 * x % (p : Int) = p - x := by
      have e3 : (-1 * x) % (p : Int) = (-1 * x + p * 1) % (p : Int) := (Int.add_mul_emod_self_left ..).symm
      rw [e3, Int.emod_eq_of_lt (by omega) (by omega)]
      omega
    rw [this, if_neg (by omega)]
  rw [e, halfL_len]
  congr 1
  omega
/-- the sign of 2 -/
theorem sup_two {p : Nat} (hp : PrP (p : Int)) (h2 : p ≠ 2) : restSign 2 p = sgP (((p : Int) * p - 1) / 8) := by
  have p2 := hp.1
  have odd := odd_prime hp h2
  have nd : ¬ (p : Int) ∣ 2 := fun z => by
    have := Int.le_of_dvd (by omega) z
    omega
  rw [gauss hp h2 nd]
  refine sgP_par ?_
  have e := mu_par hp h2 nd
  have z : sumL ((halfL p).map fun x => 2 * x / (p : Int)) = 0 := by
    have e1 : sumL ((halfL p).map fun x => 2 * x / (p : Int)) = sumL ((halfL p).map fun _ => (0 : Int)) := sumL_congr fun x hx => by
      have h := halfL_mem.mp hx
      exact Int.ediv_eq_zero_of_lt (by omega) (by omega)
    rw [e1]
    have : ∀ l : List Int, sumL (l.map fun _ => (0 : Int)) = 0 := fun l => by
      induction l with
      | nil => rfl
      | cons x l ih => show 0 + sumL (l.map fun _ => (0 : Int)) = 0; omega
    exact this _
  rw [z] at e
  have s := sum_half ((p - 1) / 2)
  have s2 : 2 * sumL (halfL p) = (((p - 1) / 2 : Nat) : Int) * ((((p - 1) / 2 : Nat) : Int) + 1) := s
  generalize sumL (halfL p) = S at *
  obtain ⟨k, hk⟩ : ∃ k : Nat, p = 2 * k + 1 := ⟨(p - 1) / 2, by omega⟩
  have ek : (p - 1) / 2 = k := by omega
  rw [ek] at s2
  have e4 : ((p : Int) * p - 1) = 8 * S := by
    rw [hk]
    push_cast
    have : (2 * (k : Int) + 1) * (2 * k + 1) - 1 = 4 * (k * (k + 1)) := by grind
    omega
  rw [e4, Int.mul_ediv_cancel_left _ (by decide)]
  omega
theorem cnt_le : ∀ (k : Nat) (N : Int), 0 ≤ N → sumL (((List.range' 1 k).map fun x : Nat => (x : Int)).map fun y => if y ≤ N then 1 else 0) = if N ≤ k then N else k
  | 0, N, h => by
    show (0 : Int) = _
    by_cases c : N ≤ ((0 : Nat) : Int)
    · rw [if_pos c]; omega
    · rw [if_neg c]; rfl
  | k + 1, N, h => by
    rw [List.range'_1_concat, List.map_append, List.map_append, sumL_append, cnt_le k N h]
    show _ + ((if ((1 + k : Nat) : Int) ≤ N then (1 : Int) else 0) + 0) = _
    split <;> split <;> split <;> omega
theorem floors {p q : Nat} (hp : PrP (p : Int)) (hq : PrP (q : Int)) (p2 : p ≠ 2) (q2 : q ≠ 2) (ne : p ≠ q) : sumL ((halfL p).map fun x => (q : Int) * x / (p : Int)) = sumL ((halfL p).map fun x => sumL ((halfL q).map fun y => if (p : Int) * y < q * x then 1 else 0)) := by
  refine sumL_congr fun x hx => ?_
  have h := halfL_mem.mp hx
  have h1 := hp.1
  have h2 := hq.1
  have po := odd_prime hp p2
  have qo := odd_prime hq q2
  have nd : ¬ (p : Int) ∣ q * x := fun z => by
    rcases prime_mul hp z with y | y
    · have := prime_dvd_prime hp hq y
      omega
    · have := small_dvd y (by omega) (by omega)
      omega
  have n0 : 0 ≤ (q : Int) * x / p := Int.ediv_nonneg (Int.mul_nonneg (by omega) (by omega)) (by omega)
  have e1 : sumL ((halfL q).map fun y => if (p : Int) * y < q * x then 1 else 0) = sumL ((halfL q).map fun y => if y ≤ (q : Int) * x / p then 1 else 0) := sumL_congr fun y hy => by
    have i : (p : Int) * y < q * x ↔ y ≤ (q : Int) * x / p := by
      rw [Int.le_ediv_iff_mul_le (by omega), Int.mul_comm y]
      constructor
      · exact Int.le_of_lt
      · intro l
        rcases Int.lt_or_eq_of_le l with l | l
        · exact l
        · exact absurd ⟨y, l.symm⟩ nd
    simp only [i]
  rw [e1]
  unfold halfL
  rw [cnt_le _ _ n0]
  have le : (q : Int) * x / p ≤ (((q - 1) / 2 : Nat) : Int) := by
    have m := Int.ediv_mul_le ((q : Int) * x) (b := (p : Int)) (by omega)
    have l1 : (q : Int) * (2 * x) ≤ q * (p - 1) := Int.mul_le_mul_of_nonneg_left (by omega) (by omega)
    have l2 : (q : Int) * (2 * x) = 2 * (q * x) := by grind
    have l3 : (q : Int) * (p - 1) = p * q - q := by grind
    have l4 : (p : Int) * (2 * ((q : Int) * x / p)) < p * q := by
      have : (p : Int) * (2 * ((q : Int) * x / p)) = 2 * ((q : Int) * x / p * p) := by grind
      omega
    have l5 := Int.lt_of_mul_lt_mul_left l4 (by omega)
    omega
  rw [if_pos le]
/-- quadratic reciprocity -/
theorem recip {p q : Nat} (hp : PrP (p : Int)) (hq : PrP (q : Int)) (p2 : p ≠ 2) (q2 : q ≠ 2) (ne : p ≠ q) : restSign q p * restSign p q = sgP (((p : Int) - 1) / 2 * ((q - 1) / 2)) := by
  have h1 := hp.1
  have h2 := hq.1
  have po := odd_prime hp p2
  have qo := odd_prime hq q2
  have n1 : ¬ (p : Int) ∣ q := fun z => ne (by have := prime_dvd_prime hp hq z; omega)
  have n2 : ¬ (q : Int) ∣ p := fun z => ne (by have := prime_dvd_prime hq hp z; omega)
  rw [gauss hp p2 n1, gauss hq q2 n2, sgP_par (mu_odd hp p2 n1 (by omega)), sgP_par (mu_odd hq q2 n2 (by omega)), ← sgP_add, floors hp hq p2 q2 ne, floors hq hp q2 p2 (fun z => ne z.symm), sumL_swap (fun (y x : Int) => if (q : Int) * x < p * y then 1 else 0) (halfL p) (halfL q), ← sumL_add]
  have e1 : sumL ((halfL p).map fun x => sumL ((halfL q).map fun y => if (p : Int) * y < q * x then 1 else 0) + sumL ((halfL q).map fun y => if (q : Int) * x < p * y then 1 else 0)) = sumL ((halfL p).map fun _ => (((q - 1) / 2 : Nat) : Int)) := sumL_congr fun x hx => by
    rw [← sumL_add, ← halfL_len q, ← sumL_one]
    refine sumL_congr fun y hy => ?_
    have hx' := halfL_mem.mp hx
    have hy' := halfL_mem.mp hy
    have nd : (p : Int) * y ≠ q * x := fun z => by
      rcases prime_mul hp (show (p : Int) ∣ q * x from ⟨y, z.symm⟩) with w | w
      · exact n1 w
      · have := small_dvd w (by omega) (by omega)
        omega
    split <;> split <;> omega
  have e2 : ∀ (l : List Int) (c : Int), sumL (l.map fun _ => c) = l.length * c := fun l c => by
    induction l with
    | nil => show (0 : Int) = 0 * c; omega
    | cons x l ih =>
      show c + sumL (l.map fun _ => c) = ((l.length + 1 : Nat) : Int) * c
      rw [ih]
      push_cast
      grind
  rw [e1, e2, halfL_len]
  congr 1
  have : (((p - 1) / 2 : Nat) : Int) = ((p : Int) - 1) / 2 := by omega
  have : (((q - 1) / 2 : Nat) : Int) = ((q : Int) - 1) / 2 := by omega
  simp_all
end Sf

namespace Sf
open PySem PySem.Spec PyProof.Rows L2
/-! ### signs multiply, at every place -/
theorem sgn_mul_all {p : Int} (hp : PrP p) (h2 : p ≠ 2) {s t t' : Nat} {u v w : Int} (hu : u % p ≠ 0) : sgnAt p s (t + t') u (v * w) = sgnAt p s t u v * sgnAt p s t' u w := by
  have m1 : (-1 : Int) % p ≠ 0 := fun z => prime_one hp ((Int.dvd_neg).mp (Int.dvd_of_emod_eq_zero z))
  have r1 := rest_unit m1
  have r2 := rest_unit hu
  unfold sgnAt
  rw [if_neg h2, if_neg h2, if_neg h2, sign_all hp]
  have k1 : s * (t + t') % 2 = (s % 2) * ((t % 2 + t' % 2) % 2) % 2 := by rw [Nat.mul_mod, Nat.add_mod]
  have k2 : s * t % 2 = (s % 2) * (t % 2) % 2 := by rw [Nat.mul_mod]
  have k3 : s * t' % 2 = (s % 2) * (t' % 2) % 2 := by rw [Nat.mul_mod]
  have k4 : (t + t') % 2 = (t % 2 + t' % 2) % 2 := Nat.add_mod _ _ _
  rw [k1, k2, k3, k4]
  generalize restSign (-1) p = A at r1 ⊢
  generalize restSign u p = B at r2 ⊢
  generalize restSign v p = C
  generalize restSign w p = D
  have d1 : s % 2 = 0 ∨ s % 2 = 1 := by omega
  have d2 : t % 2 = 0 ∨ t % 2 = 1 := by omega
  have d3 : t' % 2 = 0 ∨ t' % 2 = 1 := by omega
  have g1 : A * B * C * (A * B * D) = C * D := by
    have : A * B * C * (A * B * D) = (A * A) * (B * B) * (C * D) := by clear r1 r2 k1 k2 k3 k4 d1 d2 d3; grind
    rw [this, r1, r2]; simp
  clear k1 k2 k3 k4 hp hu h2 m1
  rcases d1 with e1 | e1 <;> rcases d2 with e2 | e2 <;> rcases d3 with e3 | e3 <;> rw [e1, e2, e3] <;> simp <;> clear e1 e2 e3 <;> grind
theorem hsign_mulA {a b c p r1 r2 : Int} (hp : p = 0 ∨ PrP p) (b0 : b ≠ 0) (c0 : c ≠ 0) (h1 : HSign a b p r1) (h2 : HSign a c p r2) : HSign a (b * c) p (r1 * r2) := by
  rcases hp with p0 | hp
  · exact hsign_mul (.inl p0) b0 c0 h1 h2
  · by_cases c2 : p = 2
    · exact hsign_mul (.inr ⟨hp, .inl c2⟩) b0 c0 h1 h2
    · have p2 := hp.1
      obtain ⟨p0, s, t, u, v, g1, g2, e1⟩ := h1.resolve_left (fun z => by omega)
      obtain ⟨_, s', t', u', v', k1, k2, e2⟩ := h2.resolve_left (fun z => by omega)
      obtain ⟨es, eu⟩ := strip_unique hp k1 g1
      subst es eu
      refine .inr ⟨p0, s', t + t', u', v * v', k1, ?_, ?_⟩
      · constructor
        · rw [g2.1, k2.1, Int.pow_add]
          grind
        · intro z
          rcases prime_mul hp (Int.dvd_of_emod_eq_zero z) with d | d
          · exact g2.2 (Int.emod_eq_zero_of_dvd d)
          · exact k2.2 (Int.emod_eq_zero_of_dvd d)
      · rw [e1, e2]
        exact (sgn_mul_all hp c2 k1.2).symm
theorem hs_negA {a p r : Int} (hp : p = 0 ∨ PrP p) (a0 : a ≠ 0) (h : HSign a (-a) p r) : r = 1 := by
  rcases hp with p0 | hp
  · exact hs_neg (.inl p0) a0 h
  · by_cases c2 : p = 2
    · exact hs_neg (.inr ⟨hp, .inl c2⟩) a0 h
    · have p2 := hp.1
      obtain ⟨p0, s, t, u, v, g1, g2, e⟩ := h.resolve_left (fun z => by omega)
      have hn : Strip (-a) p s (-u) := ⟨by rw [g1.1, Int.mul_neg], fun z => g1.2 (Int.emod_eq_zero_of_dvd ((Int.dvd_neg).mp (Int.dvd_of_emod_eq_zero z)))⟩
      obtain ⟨e1, e2⟩ := strip_unique hp g2 hn
      rw [e, e1, e2]
      have m1 : (-1 : Int) % p ≠ 0 := fun z => prime_one hp ((Int.dvd_neg).mp (Int.dvd_of_emod_eq_zero z))
      have r1 := rest_unit m1
      have r2 := rest_unit g1.2
      unfold sgnAt
      rw [if_neg c2]
      have en : -u = (-1) * u := by omega
      rw [en, sign_all hp]
      have k2 : s * s % 2 = (s % 2) * (s % 2) % 2 := by rw [Nat.mul_mod]
      rw [k2]
      rcases (by omega : s % 2 = 0 ∨ s % 2 = 1) with c | c
      · rw [c]; simp
      · rw [c]; simp; grind
/-! ### the product of the signs -/
open Classical in
noncomputable def hsA (a b p : Int) : Int := if h : ∃ r, HSign a b p r then Classical.choose h else 1
theorem hsA_spec {a b p : Int} (ha : a ≠ 0) (hb : b ≠ 0) (hp : p = 0 ∨ PrP p) : HSign a b p (hsA a b p) := by
  have h := hsign_some ha hb hp
  unfold hsA
  rw [dif_pos h]
  exact Classical.choose_spec h
theorem hsA_eq {a b p r : Int} (hp : p = 0 ∨ PrP p) (h : HSign a b p r) : hsA a b p = r := by
  have e : ∃ r, HSign a b p r := ⟨r, h⟩
  have z : HSign a b p (hsA a b p) := by
    unfold hsA
    rw [dif_pos e]
    exact Classical.choose_spec e
  exact hsign_unique hp z h
structure Pls (S : List Int) : Prop where
  asc : S.Pairwise (· < ·)
  good : ∀ p ∈ S, p = 0 ∨ PrP p
  zero : (0 : Int) ∈ S
  two : (2 : Int) ∈ S
theorem asc_nodup {S : List Int} (h : S.Pairwise (· < ·)) : S.Nodup := List.Pairwise.imp (fun {a b} h => Int.ne_of_lt h) h
noncomputable def totS (S : List Int) (a b : Int) : Int := prL (S.map (hsA a b))
theorem prL_mul (f g h : Int → Int) : ∀ l : List Int, (∀ p ∈ l, f p = g p * h p) → prL (l.map f) = prL (l.map g) * prL (l.map h)
  | [], _ => rfl
  | x :: l, e => by
    have ih := prL_mul f g h l fun p hp => e p (List.mem_cons_of_mem _ hp)
    show f x * prL (l.map f) = g x * prL (l.map g) * (h x * prL (l.map h))
    rw [ih, e x List.mem_cons_self]
    grind
theorem prL_only {f : Int → Int} : ∀ {T S : List Int}, S.Nodup → T.Nodup → (∀ t ∈ T, t ∈ S) → (∀ p ∈ S, p ∉ T → f p = 1) → prL (S.map f) = prL (T.map f)
  | [], S, _, _, _, h => by
    have : ∀ l : List Int, (∀ p ∈ l, f p = 1) → prL (l.map f) = 1 := fun l => by
      induction l with
      | nil => exact fun _ => rfl
      | cons x l ih =>
        intro h
        show f x * prL (l.map f) = 1
        rw [h x List.mem_cons_self, ih fun p hp => h p (List.mem_cons_of_mem _ hp)]
        rfl
    exact this S fun p hp => h p hp (by simp)
  | t :: T, S, nS, nT, sub, h => by
    have ht := sub t List.mem_cons_self
    have nT' := List.nodup_cons.mp nT
    rw [prL_perm (List.Perm.map f (List.perm_cons_erase ht))]
    show f t * prL ((S.erase t).map f) = f t * prL (T.map f)
    rw [prL_only (nS.erase t) nT'.2 (fun x hx => ?_) (fun p hp np => ?_)]
    · exact (List.mem_erase_of_ne (fun z : x = t => nT'.1 (by rw [← z]; exact hx))).mpr (sub x (List.mem_cons_of_mem _ hx))
    · have ne : p ≠ t := fun z => by
        rw [z] at hp
        exact (List.Nodup.not_mem_erase nS) hp
      refine h p (List.mem_of_mem_erase hp) fun z => ?_
      rcases List.mem_cons.mp z with z | z
      · exact ne z
      · exact np z
section
variable {S : List Int}
theorem totS_mul (G : Pls S) {a b c : Int} (ha : a ≠ 0) (hb : b ≠ 0) (hc : c ≠ 0) : totS S a (b * c) = totS S a b * totS S a c :=
  prL_mul _ _ _ _ fun p hp => hsA_eq (G.good p hp) (hsign_mulA (G.good p hp) hb hc (hsA_spec ha hb (G.good p hp)) (hsA_spec ha hc (G.good p hp)))
theorem totS_comm (G : Pls S) {a b : Int} (ha : a ≠ 0) (hb : b ≠ 0) : totS S a b = totS S b a := by
  unfold totS
  congr 1
  exact List.map_congr_left fun p hp => hsA_eq (G.good p hp) (hsign_comm (hsA_spec hb ha (G.good p hp)))
theorem prP2 : PrP 2 := prp_of_trial (d := 2) (by decide) (by decide) (fun k a b => by omega) (by decide)
/-- all but the places told have the sign 1 -/
theorem totS_only (G : Pls S) {a b : Int} (a0 : a ≠ 0) (b0 : b ≠ 0) {T : List Int} (nT : T.Nodup) (sub : ∀ t ∈ T, t ∈ S) (h0 : (0 : Int) ∈ T) (h2 : (2 : Int) ∈ T) (far : ∀ p, PrP p → p ≠ 2 → p ∉ T → a % p ≠ 0 ∧ b % p ≠ 0) : totS S a b = prL (T.map (hsA a b)) :=
  prL_only (asc_nodup G.asc) nT sub fun p hp np => by
    have n2 : p ≠ 2 := fun z => np (by rw [z]; exact h2)
    have pp : PrP p := (G.good p hp).resolve_left fun z => np (by rw [z]; exact h0)
    obtain ⟨f1, f2⟩ := far p pp n2 np
    exact sign_far pp n2 f1 f2 (hsA_spec a0 b0 (.inr pp))
theorem hs0 (a b : Int) : hsA a b 0 = if a < 0 ∧ b < 0 then -1 else 1 := hsA_eq (.inl rfl) (.inl ⟨rfl, rfl⟩)
theorem hsP {a b p : Int} (hp : PrP p) {s t : Nat} {u v : Int} (h1 : Strip a p s u) (h2 : Strip b p t v) : hsA a b p = sgnAt p s t u v := hsA_eq (.inr hp) (.inr ⟨by have := hp.1; omega, s, t, u, v, h1, h2, rfl⟩)
theorem strip0 {a p : Int} (h : a % p ≠ 0) : Strip a p 0 a := ⟨by rw [Int.pow_zero, Int.one_mul], h⟩
theorem strip1 {p : Int} (hp : PrP p) : Strip p p 1 1 := ⟨by rw [Int.pow_succ, Int.pow_zero, Int.one_mul, Int.mul_one], by rw [Int.emod_eq_of_lt (by decide) (by have := hp.1; omega)]; decide⟩
theorem mod_neg1 {p : Int} (hp : PrP p) : (-1 : Int) % p ≠ 0 := fun z => prime_one hp ((Int.dvd_neg).mp (Int.dvd_of_emod_eq_zero z))
theorem mod_one {p : Int} (hp : PrP p) : (1 : Int) % p ≠ 0 := fun z => prime_one hp (Int.dvd_of_emod_eq_zero z)
theorem mod_prime {p q : Int} (hp : PrP p) (hq : PrP q) (h : p ≠ q) : q % p ≠ 0 := fun z => h (prime_dvd_prime hp hq (Int.dvd_of_emod_eq_zero z))
theorem tot_11 (G : Pls S) : totS S (-1) (-1) = 1 := by
  rw [totS_only G (by decide) (by decide) (T := [0, 2]) (by decide) (fun t ht => ?_) (by simp) (by simp) (fun p pp _ _ => ⟨mod_neg1 pp, mod_neg1 pp⟩)]
  · show hsA (-1) (-1) 0 * (hsA (-1) (-1) 2 * 1) = 1
    rw [hs0, hsP prP2 (strip0 (by decide)) (strip0 (by decide))]
    decide
  · have c : t = 0 ∨ t = 2 := by simpa using ht
    rcases c with rfl | rfl
    · exact G.zero
    · exact G.two
theorem tot_12 (G : Pls S) : totS S (-1) 2 = 1 := by
  rw [totS_only G (by decide) (by decide) (T := [0, 2]) (by decide) (fun t ht => ?_) (by simp) (by simp) (fun p pp h2 _ => ⟨mod_neg1 pp, mod_prime pp prP2 h2⟩)]
  · show hsA (-1) 2 0 * (hsA (-1) 2 2 * 1) = 1
    rw [hs0, hsP prP2 (strip0 (by decide)) (strip1 prP2)]
    decide
  · have c : t = 0 ∨ t = 2 := by simpa using ht
    rcases c with rfl | rfl
    · exact G.zero
    · exact G.two
theorem sg_if (n : Int) : (if n % 2 = 1 then (-1 : Int) else 1) = sgP n := rfl
theorem sg_sq (n : Int) : sgP n * sgP n = 1 := by
  unfold sgP
  split <;> rfl
theorem tot_1q (G : Pls S) {q : Nat} (hq : PrP (q : Int)) (q2 : q ≠ 2) (m : (q : Int) ∈ S) : totS S (-1) q = 1 := by
  have h2 := hq.1
  have qo := odd_prime hq q2
  rw [totS_only G (by decide) (by omega) (T := [0, 2, q]) (by simp; omega) (fun t ht => ?_) (by simp) (by simp) (fun p pp h2 np => ⟨mod_neg1 pp, mod_prime pp hq (fun z => np (by simp [z]))⟩)]
  · show hsA (-1) q 0 * (hsA (-1) q 2 * (hsA (-1) q q * 1)) = 1
    rw [hs0, hsP prP2 (strip0 (by decide)) (strip0 (a := q) (by omega)), hsP hq (strip0 (mod_neg1 hq)) (strip1 hq), if_neg (by omega)]
    have f1 : sgnAt 2 0 0 (-1) q = sgP (((q : Int) - 1) / 2) := by
      rw [sgn2]
      unfold par2
      rw [show ((-1 : Int) - 1) / 2 = -1 by decide, show ((0 : Nat) : Int) = 0 from rfl, Int.zero_mul, Int.zero_mul]
      exact sgP_par (by omega)
    have f2 : sgnAt (q : Int) 0 1 (-1) 1 = sgP (((q : Int) - 1) / 2) := by
      unfold sgnAt
      rw [if_neg (by omega), if_neg (by decide), if_pos (by decide), if_neg (by decide), sup_neg hq q2]
      omega
    rw [f1, f2, Int.one_mul, Int.mul_one]
    exact sg_sq _
  · have c : t = 0 ∨ t = 2 ∨ t = q := by simpa using ht
    rcases c with rfl | rfl | rfl
    · exact G.zero
    · exact G.two
    · exact m
theorem tot_2q (G : Pls S) {q : Nat} (hq : PrP (q : Int)) (q2 : q ≠ 2) (m : (q : Int) ∈ S) : totS S 2 q = 1 := by
  have h2 := hq.1
  have qo := odd_prime hq q2
  rw [totS_only G (by decide) (by omega) (T := [0, 2, q]) (by simp; omega) (fun t ht => ?_) (by simp) (by simp) (fun p pp h2 np => ⟨mod_prime pp prP2 h2, mod_prime pp hq (fun z => np (by simp [z]))⟩)]
  · show hsA 2 q 0 * (hsA 2 q 2 * (hsA 2 q q * 1)) = 1
    rw [hs0, hsP prP2 (strip1 prP2) (strip0 (a := q) (by omega)), hsP hq (strip0 (mod_prime hq prP2 (by omega))) (strip1 hq), if_neg (by omega)]
    have f1 : sgnAt 2 1 0 1 q = sgP (((q : Int) * q - 1) / 8) := by
      rw [sgn2]
      unfold par2
      rw [show ((1 : Int) - 1) / 2 = 0 by decide, show ((0 : Nat) : Int) = 0 from rfl, show ((1 : Nat) : Int) = 1 from rfl, Int.zero_mul, Int.zero_mul, Int.one_mul, Int.zero_add, Int.add_zero]
      rfl
    have f2 : sgnAt (q : Int) 0 1 2 1 = sgP (((q : Int) * q - 1) / 8) := by
      unfold sgnAt
      rw [if_neg (by omega), if_neg (by decide), if_pos (by decide), if_neg (by decide), sup_two hq q2]
      omega
    rw [f1, f2, Int.one_mul, Int.mul_one]
    exact sg_sq _
  · have c : t = 0 ∨ t = 2 ∨ t = q := by simpa using ht
    rcases c with rfl | rfl | rfl
    · exact G.zero
    · exact G.two
    · exact m
theorem tot_pq (G : Pls S) {p q : Nat} (hp : PrP (p : Int)) (hq : PrP (q : Int)) (p2 : p ≠ 2) (q2 : q ≠ 2) (ne : p ≠ q) (mp : (p : Int) ∈ S) (mq : (q : Int) ∈ S) : totS S p q = 1 := by
  have h1 := hp.1
  have h2 := hq.1
  have po := odd_prime hp p2
  have qo := odd_prime hq q2
  rw [totS_only G (by omega) (by omega) (T := [0, 2, p, q]) (by simp; omega) (fun t ht => ?_) (by simp) (by simp) (fun r pp h2 np => ⟨mod_prime pp hp (fun z => np (by simp [z])), mod_prime pp hq (fun z => np (by simp [z]))⟩)]
  · show hsA p q 0 * (hsA p q 2 * (hsA p q p * (hsA p q q * 1))) = 1
    rw [hs0, hsP prP2 (strip0 (a := p) (by omega)) (strip0 (a := q) (by omega)), hsP hp (strip1 hp) (strip0 (mod_prime hp hq (by omega))), hsP hq (strip0 (mod_prime hq hp (by omega))) (strip1 hq), if_neg (by omega)]
    have f1 : sgnAt 2 0 0 p q = sgP (((p : Int) - 1) / 2 * (((q : Int) - 1) / 2)) := by
      rw [sgn2]
      unfold par2
      rw [show ((0 : Nat) : Int) = 0 from rfl, Int.zero_mul, Int.zero_mul, Int.add_zero, Int.add_zero]
      rfl
    have f2 : sgnAt (p : Int) 1 0 1 q = restSign q p := by
      unfold sgnAt
      rw [if_neg (by omega), if_neg (by decide), if_neg (by decide), if_pos (by decide)]
      omega
    have f3 : sgnAt (q : Int) 0 1 p 1 = restSign p q := by
      unfold sgnAt
      rw [if_neg (by omega), if_neg (by decide), if_pos (by decide), if_neg (by decide)]
      omega
    rw [f1, f2, f3, Int.one_mul, Int.mul_one]
    rw [recip hp hq p2 q2 ne]
    exact sg_sq _
  · have c : t = 0 ∨ t = 2 ∨ t = p ∨ t = q := by simpa using ht
    rcases c with rfl | rfl | rfl | rfl
    · exact G.zero
    · exact G.two
    · exact mp
    · exact mq
/-- what numbers are made of -/
def Gen (S : List Int) (g : Int) : Prop := g = 1 ∨ g = -1 ∨ (g ∈ S ∧ PrP g)
theorem gen_ne {g : Int} (h : Gen S g) : g ≠ 0 := by
  rcases h with h | h | ⟨_, h⟩
  · omega
  · omega
  · have := h.1; omega
theorem tot_one1 (G : Pls S) {b : Int} (b0 : b ≠ 0) : totS S 1 b = 1 := by
  have : ∀ l : List Int, (∀ p ∈ l, p = 0 ∨ PrP p) → prL (l.map (hsA 1 b)) = 1 := fun l => by
    induction l with
    | nil => exact fun _ => rfl
    | cons x l ih =>
      intro h
      show hsA 1 b x * prL (l.map (hsA 1 b)) = 1
      rw [hs_one (h x List.mem_cons_self) (hsA_spec (by decide) b0 (h x List.mem_cons_self)), ih fun p hp => h p (List.mem_cons_of_mem _ hp)]
      rfl
  exact this S G.good
theorem tot_same (G : Pls S) {a : Int} (a0 : a ≠ 0) : totS S a a = totS S a (-1) := by
  have e : totS S a (-1 * -a) = totS S a (-1) * totS S a (-a) := totS_mul G a0 (by decide) (by omega)
  have n : totS S a (-a) = 1 := by
    have : ∀ l : List Int, (∀ p ∈ l, p = 0 ∨ PrP p) → prL (l.map (hsA a (-a))) = 1 := fun l => by
      induction l with
      | nil => exact fun _ => rfl
      | cons x l ih =>
        intro h
        show hsA a (-a) x * prL (l.map (hsA a (-a))) = 1
        rw [hs_negA (h x List.mem_cons_self) a0 (hsA_spec a0 (by omega) (h x List.mem_cons_self)), ih fun p hp => h p (List.mem_cons_of_mem _ hp)]
        rfl
    exact this S G.good
  rw [n, Int.mul_one] at e
  rw [← e]
  congr 1
  omega
theorem tot_1g (G : Pls S) {g : Int} (h : Gen S g) : totS S (-1) g = 1 := by
  rcases h with rfl | rfl | ⟨m, hp⟩
  · rw [totS_comm G (by decide) (by decide)]
    exact tot_one1 G (by decide)
  · exact tot_11 G
  · by_cases c : g = 2
    · rw [c]; exact tot_12 G
    · obtain ⟨q, rfl⟩ : ∃ q : Nat, g = q := ⟨g.toNat, by have := hp.1; omega⟩
      exact tot_1q G hp (by omega) m
theorem tot_gg (G : Pls S) {g h : Int} (hg : Gen S g) (hh : Gen S h) : totS S g h = 1 := by
  rcases hg with rfl | rfl | ⟨mg, pg⟩
  · exact tot_one1 G (gen_ne hh)
  · exact tot_1g G hh
  · have g0 := pg.1
    rcases hh with rfl | rfl | ⟨mh, ph⟩
    · rw [totS_comm G (by omega) (by decide)]
      exact tot_one1 G (by omega)
    · rw [totS_comm G (by omega) (by decide)]
      exact tot_1g G (.inr (.inr ⟨mg, pg⟩))
    · have h0 := ph.1
      by_cases e : g = h
      · subst e
        rw [tot_same G (by omega), totS_comm G (by omega) (by decide)]
        exact tot_1g G (.inr (.inr ⟨mg, pg⟩))
      · obtain ⟨p, rfl⟩ : ∃ q : Nat, g = q := ⟨g.toNat, by omega⟩
        obtain ⟨q, rfl⟩ : ∃ q : Nat, h = q := ⟨h.toNat, by omega⟩
        by_cases c1 : p = 2
        · subst c1
          exact tot_2q G ph (fun z => e (by omega)) mh
        · by_cases c2 : q = 2
          · subst c2
            rw [totS_comm G (by omega) (by omega)]
            exact tot_2q G pg c1 mg
          · exact tot_pq G pg ph c1 c2 (fun z => e (by omega)) mg mh
def MadeS (S : List Int) (n : Int) : Prop := ∃ l : List Int, (∀ g ∈ l, Gen S g) ∧ n = prL l
theorem prL_ne {l : List Int} (h : ∀ g ∈ l, Gen S g) : prL l ≠ 0 := by
  induction l with
  | nil => decide
  | cons x l ih => exact Int.mul_ne_zero (gen_ne (h x List.mem_cons_self)) (ih fun g hg => h g (List.mem_cons_of_mem _ hg))
theorem tot_list (G : Pls S) {a : Int} (a0 : a ≠ 0) (h : ∀ g, Gen S g → totS S a g = 1) : ∀ {l : List Int}, (∀ g ∈ l, Gen S g) → totS S a (prL l) = 1
  | [], _ => h 1 (.inl rfl)
  | x :: l, hl => by
    have hx := hl x List.mem_cons_self
    have hl' := fun g hg => hl g (List.mem_cons_of_mem _ hg)
    show totS S a (x * prL l) = 1
    rw [totS_mul G a0 (gen_ne hx) (prL_ne hl'), h x hx, tot_list G a0 h hl']
    rfl
theorem tot_made (G : Pls S) {a b : Int} (ha : MadeS S a) (hb : MadeS S b) : totS S a b = 1 := by
  obtain ⟨l, hl, rfl⟩ := ha
  obtain ⟨m, hm, rfl⟩ := hb
  refine tot_list G (prL_ne hl) (fun g hg => ?_) hm
  rw [totS_comm G (prL_ne hl) (gen_ne hg)]
  exact tot_list G (gen_ne hg) (fun h hh => tot_gg G hg hh) hl
end
/-! ### every number is a product of primes; an ascending list of what stands in a list -/
theorem prime_div {n : Int} (h : 2 ≤ n) : ∃ p, PrP p ∧ p ∣ n := by
  generalize hN : n.toNat = N
  induction N using Nat.strongRecOn generalizing n with
  | ind N ih =>
    by_cases c : PrP n
    · exact ⟨n, c, Int.dvd_refl n⟩
    · have : ∃ k : Int, 2 ≤ k ∧ k < n ∧ n % k = 0 := Classical.byContradiction fun z => c ⟨h, fun k a b e => z ⟨k, a, b, e⟩⟩
      obtain ⟨k, k2, kn, e⟩ := this
      obtain ⟨p, hp, d⟩ := ih k.toNat (by omega) k2 rfl
      exact ⟨p, hp, Int.dvd_trans d (Int.dvd_of_emod_eq_zero e)⟩
theorem prime_list {n : Int} (h : 1 ≤ n) : ∃ l : List Int, (∀ q ∈ l, PrP q) ∧ n = prL l := by
  generalize hN : n.toNat = N
  induction N using Nat.strongRecOn generalizing n with
  | ind N ih =>
    by_cases c : n = 1
    · exact ⟨[], by simp, c⟩
    · obtain ⟨p, hp, k, rfl⟩ := prime_div (n := n) (by omega)
      have p2 := hp.1
      have k1 : 1 ≤ k := by
        by_cases z : 1 ≤ k
        · exact z
        · have := Int.mul_nonpos_of_nonneg_of_nonpos (a := p) (b := k) (by omega) (by omega)
          omega
      have lt : k < p * k := by
        have : 2 * k ≤ p * k := Int.mul_le_mul_of_nonneg_right p2 (by omega)
        omega
      obtain ⟨l, hl, e⟩ := ih k.toNat (by omega) k1 rfl
      refine ⟨p :: l, fun q hq => ?_, ?_⟩
      · rcases List.mem_cons.mp hq with rfl | hq
        · exact hp
        · exact hl q hq
      · show p * k = p * prL l
        rw [← e]
theorem asc_some : ∀ l : List Int, ∃ m : List Int, m.Pairwise (· < ·) ∧ ∀ x, x ∈ m ↔ x ∈ l
  | [] => ⟨[], List.Pairwise.nil, fun _ => Iff.rfl⟩
  | x :: l => by
    obtain ⟨m, hm, he⟩ := asc_some l
    refine ⟨m.filter (fun y => decide (y < x)) ++ x :: m.filter (fun y => decide (x < y)), ?_, fun y => ?_⟩
    · refine List.pairwise_append.mpr ⟨List.Pairwise.filter _ hm, List.pairwise_cons.mpr ⟨fun y hy => ?_, List.Pairwise.filter _ hm⟩, fun a ha b hb => ?_⟩
      · exact of_decide_eq_true (List.mem_filter.mp hy).2
      · have h1 := of_decide_eq_true (List.mem_filter.mp ha).2
        rcases List.mem_cons.mp hb with rfl | hb
        · exact h1
        · have h2 := of_decide_eq_true (List.mem_filter.mp hb).2
          omega
    · simp only [List.mem_append, List.mem_cons, List.mem_filter, decide_eq_true_eq, he]
      constructor
      · rintro (⟨h, _⟩ | h | ⟨h, _⟩)
        · exact .inr h
        · exact .inl h
        · exact .inr h
      · rintro (h | h)
        · exact .inr (.inl h)
        · rcases Int.lt_trichotomy y x with c | c | c
          · exact .inl ⟨h, c⟩
          · exact .inr (.inl c)
          · exact .inr (.inr ⟨h, c⟩)
theorem parity_list (f : Int → Int) : ∀ l : List Int, (∀ p ∈ l, f p = 1 ∨ f p = -1) → prL (l.map f) = if (l.filter fun p => decide (f p = -1)).length % 2 = 1 then -1 else 1
  | [], _ => rfl
  | x :: l, h => by
    have ih := parity_list f l fun p hp => h p (List.mem_cons_of_mem _ hp)
    show f x * prL (l.map f) = _
    rw [ih, List.filter_cons]
    rcases h x List.mem_cons_self with e | e
    · rw [e, if_neg (by decide : ¬ decide ((1 : Int) = -1) = true), Int.one_mul]
    · rw [e, if_pos (by decide : decide ((-1 : Int) = -1) = true), List.length_cons]
      by_cases c : (l.filter fun p => decide (f p = -1)).length % 2 = 1
      · rw [if_pos c, if_neg (by omega)]; rfl
      · rw [if_neg c, if_pos (by omega)]; rfl
/-- the places of any two numbers are even in number -/
theorem even_all {a b : Int} {l : List Int} (a0 : a ≠ 0) (b0 : b ≠ 0) (h : PlacesOf a b l) : l.length % 2 = 0 := by
  have one : ∀ n : Int, n ≠ 0 → ∃ m : List Int, (∀ q ∈ m, PrP q) ∧ ∃ σ : Int, (σ = 1 ∨ σ = -1) ∧ n = σ * prL m := fun n n0 => by
    rcases Int.lt_or_gt_of_ne n0 with c | c
    · obtain ⟨m, hm, e⟩ := prime_list (n := -n) (by omega)
      exact ⟨m, hm, -1, .inr rfl, by omega⟩
    · obtain ⟨m, hm, e⟩ := prime_list (n := n) (by omega)
      exact ⟨m, hm, 1, .inl rfl, by omega⟩
  obtain ⟨la, ha, σ, hσ, ea⟩ := one a a0
  obtain ⟨lb, hb, τ, hτ, eb⟩ := one b b0
  obtain ⟨S, asc, mem⟩ := asc_some (0 :: 2 :: (la ++ lb))
  have G : Pls S := {
    asc := asc
    good := fun p hp => by
      have c := (mem p).mp hp
      simp only [List.mem_cons, List.mem_append] at c
      rcases c with c | c | c | c
      · exact .inl c
      · exact .inr (c ▸ prP2)
      · exact .inr (ha p c)
      · exact .inr (hb p c)
    zero := (mem 0).mpr (by simp)
    two := (mem 2).mpr (by simp) }
  have sgn : ∀ σ : Int, (σ = 1 ∨ σ = -1) → Gen S σ := fun σ h => h.elim (fun h => .inl h) (fun h => .inr (.inl h))
  have made : ∀ (n σ : Int) (m : List Int), (∀ q ∈ m, PrP q) → (∀ q ∈ m, q ∈ S) → (σ = 1 ∨ σ = -1) → n = σ * prL m → MadeS S n := fun n σ m hm hs h e => ⟨σ :: m, fun g hg => by
    rcases List.mem_cons.mp hg with rfl | hg
    · exact sgn _ h
    · exact .inr (.inr ⟨hs g hg, hm g hg⟩), e⟩
  have t := tot_made G (made a σ la ha (fun q hq => (mem q).mpr (by simp [hq])) hσ ea) (made b τ lb hb (fun q hq => (mem q).mpr (by simp [hq])) hτ eb)
  have dv : ∀ {n σ p : Int} {m : List Int}, (∀ q ∈ m, PrP q) → (σ = 1 ∨ σ = -1) → n = σ * prL m → PrP p → n % p = 0 → p ∈ m := fun {n σ p m} hm hσ e hp d => by
    have d := Int.dvd_of_emod_eq_zero d
    rw [e] at d
    have key : ∀ {l : List Int}, (∀ q ∈ l, PrP q) → p ∣ prL l → p ∈ l := by
      intro l
      induction l with
      | nil => exact fun _ d => absurd d (prime_one hp)
      | cons x l ih =>
        intro h1 d
        rcases prime_mul hp d with d | d
        · rw [prime_dvd_prime hp (h1 x List.mem_cons_self) d]
          exact List.mem_cons_self
        · exact List.mem_cons_of_mem _ (ih (fun q hq => h1 q (List.mem_cons_of_mem _ hq)) d)
    rcases prime_mul hp d with d | d
    · rcases hσ with e | e
      · rw [e] at d; exact absurd d (prime_one hp)
      · rw [e] at d; exact absurd ((Int.dvd_neg).mp d) (prime_one hp)
    · exact key hm d
  have e : l = S.filter fun p => decide (hsA a b p = -1) := by
    refine asc_unique h.1 (List.Pairwise.filter _ asc) fun p => ?_
    rw [h.2, List.mem_filter, decide_eq_true_iff]
    constructor
    · rintro ⟨hp, hn⟩
      refine ⟨?_, hsA_eq hp hn⟩
      rcases hp with e | hp
      · rw [e]; exact G.zero
      · by_cases c : p = 2
        · rw [c]; exact G.two
        · by_cases c1 : a % p = 0
          · exact (mem p).mpr (by simp [dv ha hσ ea hp c1])
          · by_cases c2 : b % p = 0
            · exact (mem p).mpr (by simp [dv hb hτ eb hp c2])
            · exact absurd (sign_far hp c c1 c2 hn) (by decide)
    · rintro ⟨hp, e⟩
      refine ⟨G.good p hp, ?_⟩
      rw [← e]
      exact hsA_spec a0 b0 (G.good p hp)
  unfold totS at t
  rw [parity_list _ _ fun p hp => hsign_sq (G.good p hp) (hsA_spec a0 b0 (G.good p hp)), ← e] at t
  by_cases c : l.length % 2 = 1
  · rw [if_pos c] at t
    exact absurd t (by decide)
  · omega
end Sf

namespace Sf
open PySem PySem.Spec PyProof.Rows L2
/-! A + B = C * C: the sign of (A, B) is 1 -/
theorem strip_sum {A B p : Int} {s t : Nat} {u v : Int} (g1 : Strip A p s u) (g2 : Strip B p t v) (h : s < t) : Strip (A + B) p s (u + p ^ (t - s) * v) := by
  have e : p ^ t = p ^ s * p ^ (t - s) := by rw [← Int.pow_add]; congr 1; omega
  refine ⟨by rw [g1.1, g2.1, e, Int.mul_add, Int.mul_assoc], fun z => g1.2 ?_⟩
  have d : p ∣ p ^ (t - s) * v := by
    obtain ⟨k, hk⟩ : ∃ k, t - s = k + 1 := ⟨t - s - 1, by omega⟩
    rw [hk, Int.pow_succ]
    exact ⟨p ^ k * v, by grind⟩
  exact Int.emod_eq_zero_of_dvd ((Int.dvd_add_left d).mp (Int.dvd_of_emod_eq_zero z))
theorem strip_sq2 {C p : Int} {c : Nat} {w : Int} (hp : PrP p) (h : Strip C p c w) : Strip (C * C) p (2 * c) (w * w) := by
  refine ⟨by rw [h.1, Nat.two_mul, Int.pow_add]; grind, fun z => ?_⟩
  rcases prime_mul hp (Int.dvd_of_emod_eq_zero z) with y | y <;> exact h.2 (Int.emod_eq_zero_of_dvd y)
theorem rest_eq {m n p : Int} (h2 : p ≠ 2) (h : m % p = n % p) : restSign m p = restSign n p := by rw [← rest_mod h2, h, rest_mod h2]
theorem conic_lt {A B C p r : Int} {s t : Nat} {u v : Int} (hp : PrP p) (h2 : p ≠ 2) (e : A + B = C * C) (g1 : Strip A p s u) (g2 : Strip B p t v) (h : s < t) (hr : r = sgnAt p s t u v) : r = 1 := by
  have g := strip_sum g1 g2 h
  have C0 : C ≠ 0 := fun z => by
    rw [e, z] at g
    have hu := strip_ne g
    have p0 : p ^ s ≠ 0 := Int.pow_ne_zero (by have := hp.1; omega)
    exact Int.mul_ne_zero p0 hu g.1.symm
  obtain ⟨c, w, gc⟩ := strip_exists C0 hp.1
  rw [e] at g
  obtain ⟨e1, e2⟩ := strip_unique hp g (strip_sq2 hp gc)
  have d : (u + p ^ (t - s) * v) % p = u % p := by
    obtain ⟨k, hk⟩ : ∃ k, t - s = k + 1 := ⟨t - s - 1, by omega⟩
    have e3 : p ^ (t - s) * v = p * (p ^ k * v) := by rw [hk, Int.pow_succ]; grind
    rw [e3, Int.add_mul_emod_self_left]
  have ru : restSign u p = 1 := by
    rw [← rest_eq h2 d, e2]
    exact sign_sq hp gc.2
  rw [hr]
  unfold sgnAt
  have s0 : s % 2 = 0 := by omega
  have st : s * t % 2 = 0 := by rw [Nat.mul_mod, s0]; simp
  rw [if_neg h2, ru, st, s0]
  simp
theorem conic_odd {A B C p r : Int} (hp : PrP p) (h2 : p ≠ 2) (e : A + B = C * C) (h : HSign A B p r) : r = 1 := by
  obtain ⟨p0, s, t, u, v, g1, g2, hr⟩ := h.resolve_left (fun z => by have := hp.1; omega)
  rcases Nat.lt_trichotomy s t with c | c | c
  · exact conic_lt hp h2 e g1 g2 c hr
  · subst c
    rcases (by omega : s % 2 = 0 ∨ s % 2 = 1) with c | c
    · rw [hr]
      unfold sgnAt
      have st : s * s % 2 = 0 := by rw [Nat.mul_mod, c]
      rw [if_neg h2, st, c]
      simp
    · have d : p ∣ u + v := by
        by_cases z : (u + v) % p = 0
        · exact Int.dvd_of_emod_eq_zero z
        · exfalso
          have g : Strip (A + B) p s (u + v) := ⟨by rw [g1.1, g2.1, Int.mul_add], z⟩
          have C0 : C ≠ 0 := fun y => by
            rw [e, y] at g
            have pn : p ^ s ≠ 0 := Int.pow_ne_zero (by have := hp.1; omega)
            exact Int.mul_ne_zero pn (strip_ne g) g.1.symm
          obtain ⟨k, w, gc⟩ := strip_exists C0 hp.1
          rw [e] at g
          have := (strip_unique hp g (strip_sq2 hp gc)).1
          omega
      have ev : v % p = (-1 * u) % p := by
        refine Int.emod_eq_emod_iff_emod_sub_eq_zero.mpr (Int.emod_eq_zero_of_dvd ?_)
        have e3 : v - -1 * u = u + v := by omega
        rw [e3]
        exact d
      have rv : restSign v p = restSign (-1) p * restSign u p := by rw [rest_eq h2 ev, sign_all hp]
      have m1 : (-1 : Int) % p ≠ 0 := fun z => prime_one hp ((Int.dvd_neg).mp (Int.dvd_of_emod_eq_zero z))
      have r1 := rest_unit m1
      have r2 := rest_unit g1.2
      rw [hr]
      unfold sgnAt
      have st : s * s % 2 = 1 := by rw [Nat.mul_mod, c]
      rw [if_neg h2, st, c, rv]
      simp only [if_true]
      generalize restSign (-1) p = a at *
      generalize restSign u p = b at *
      have : a * b * (a * b) = (a * a) * (b * b) := by grind
      rw [this, r1, r2]
      rfl
  · exact conic_lt hp h2 (by rw [Int.add_comm]; exact e) g2 g1 c (by rw [hr, sgnAt_comm])
theorem conic_real {A B C r : Int} (e : A + B = C * C) (h : HSign A B 0 r) : r = 1 := by
  rcases h with ⟨_, h⟩ | ⟨h, _⟩
  · rw [h, if_neg]
    intro ⟨h1, h2⟩
    have : 0 ≤ C * C := by
      rcases Int.le_total 0 C with z | z
      · exact Int.mul_nonneg z z
      · exact Int.mul_nonneg_of_nonpos_of_nonpos z z
    omega
  · exact absurd rfl h
/-! at 2: by the rests modulo 8 -/
theorem two_a : ∀ t : Fin 2, ∀ u v : Fin 8, u.val % 2 = 1 → v.val % 2 = 1 → (u.val = 1 ∨ (u.val = 5 ∧ t.val = 0) ∨ (t.val = 1 ∧ (u.val + 2 * v.val) % 8 = 1)) → sgnAt 2 0 t.val (u.val : Int) (v.val : Int) = 1 := by decide +kernel
theorem two_b : ∀ u v : Fin 8, u.val % 2 = 1 → v.val % 2 = 1 → (u.val + v.val) % 4 = 0 → sgnAt 2 0 0 (u.val : Int) (v.val : Int) = 1 := by decide +kernel
theorem two_c : ∀ u v : Fin 8, u.val % 2 = 1 → v.val % 2 = 1 → ((u.val + v.val) % 8 = 0 ∨ (u.val + v.val) % 8 = 2) → sgnAt 2 1 1 (u.val : Int) (v.val : Int) = 1 := by decide +kernel
theorem fin8 (u : Int) : ∃ n : Fin 8, u % 8 = (n.val : Int) ∧ Alike 2 u (n.val : Int) := by
  refine ⟨⟨(u % 8).toNat, by omega⟩, by show u % 8 = ((u % 8).toNat : Int); omega, ?_⟩
  unfold Alike
  rw [if_pos rfl]
  show u % 8 = ((u % 8).toNat : Int) % 8
  omega
theorem conic_lt2 {A B C r : Int} {s t : Nat} {u v : Int} (e : A + B = C * C) (g1 : Strip A 2 s u) (g2 : Strip B 2 t v) (h : s < t) (hr : r = sgnAt 2 s t u v) : r = 1 := by
  have hp : PrP 2 := ⟨by decide, fun k h1 h2 => by omega⟩
  have g := strip_sum g1 g2 h
  have C0 : C ≠ 0 := fun z => by
    rw [e, z] at g
    have hu := strip_ne g
    have p0 : (2 : Int) ^ s ≠ 0 := Int.pow_ne_zero (by decide)
    exact Int.mul_ne_zero p0 hu g.1.symm
  obtain ⟨c, w, gc⟩ := strip_exists C0 hp.1
  rw [e] at g
  obtain ⟨e1, e2⟩ := strip_unique hp g (strip_sq2 hp gc)
  have w8 := odd_sq8 gc.2
  have u2 := g1.2
  have v2 := g2.2
  obtain ⟨n, hn, an⟩ := fin8 u
  obtain ⟨m, hm, am⟩ := fin8 v
  have tf : t % 2 < 2 := Nat.mod_lt _ (by decide)
  rw [hr, sgn_congr (s' := 0) (t' := t % 2) (by omega) (by omega) an am]
  refine two_a ⟨t % 2, tf⟩ n m (by omega) (by omega) ?_
  show n.val = 1 ∨ (n.val = 5 ∧ t % 2 = 0) ∨ (t % 2 = 1 ∧ (n.val + 2 * m.val) % 8 = 1)
  have cd : t - s = 1 ∨ t - s = 2 ∨ ∃ k, t - s = k + 3 := by
    rcases (by omega : t - s = 1 ∨ t - s = 2 ∨ 3 ≤ t - s) with c | c | c
    · exact .inl c
    · exact .inr (.inl c)
    · exact .inr (.inr ⟨t - s - 3, by omega⟩)
  rcases cd with d | d | ⟨k, d⟩
  · rw [d] at e2
    have e3 : (2 : Int) ^ 1 * v = 2 * v := rfl
    rw [e3] at e2
    exact .inr (.inr ⟨by omega, by omega⟩)
  · rw [d] at e2
    have e3 : (2 : Int) ^ 2 * v = 4 * v := rfl
    rw [e3] at e2
    exact .inr (.inl ⟨by omega, by omega⟩)
  · rw [d] at e2
    have e3 : (2 : Int) ^ (k + 3) * v = 8 * (2 ^ k * v) := by rw [Int.pow_add]; grind
    rw [e3] at e2
    generalize 2 ^ k * v = z at e2
    exact .inl (by omega)
theorem conic_two {A B C r : Int} (e : A + B = C * C) (h : HSign A B 2 r) : r = 1 := by
  have hp : PrP 2 := ⟨by decide, fun k h1 h2 => by omega⟩
  obtain ⟨p0, s, t, u, v, g1, g2, hr⟩ := h.resolve_left (fun z => by omega)
  rcases Nat.lt_trichotomy s t with c | c | c
  · exact conic_lt2 e g1 g2 c hr
  · subst c
    have u2 := g1.2
    have v2 := g2.2
    obtain ⟨n, hn, an⟩ := fin8 u
    obtain ⟨m, hm, am⟩ := fin8 v
    have q : (u + v = 0 ∨ ∃ (x : Nat) (y : Int), u + v = 2 ^ x * y ∧ y % 8 = 1 ∧ (s + x) % 2 = 0) := by
      by_cases z : u + v = 0
      · exact .inl z
      · obtain ⟨x, y, gy⟩ := strip_exists z hp.1
        have g : Strip (A + B) 2 (s + x) y := ⟨by rw [g1.1, g2.1, ← Int.mul_add, gy.1, Int.pow_add, Int.mul_assoc], gy.2⟩
        have C0 : C ≠ 0 := fun k => by
          rw [e, k] at g
          have pn : (2 : Int) ^ (s + x) ≠ 0 := Int.pow_ne_zero (by decide)
          exact Int.mul_ne_zero pn (strip_ne g) g.1.symm
        obtain ⟨k, w, gc⟩ := strip_exists C0 hp.1
        rw [e] at g
        obtain ⟨e1, e2⟩ := strip_unique hp g (strip_sq2 hp gc)
        exact .inr ⟨x, y, gy.1, by rw [e2]; exact odd_sq8 gc.2, by omega⟩
    have q2 : (u + v) % 8 = 0 ∨ ((u + v) % 8 = 4 ∧ s % 2 = 0) ∨ ((u + v) % 8 = 2 ∧ s % 2 = 1) := by
      rcases q with q | ⟨x, y, e1, y8, sx⟩
      · exact .inl (by omega)
      · have cd : x = 0 ∨ x = 1 ∨ x = 2 ∨ ∃ k, x = k + 3 := by
          rcases (by omega : x = 0 ∨ x = 1 ∨ x = 2 ∨ 3 ≤ x) with c | c | c | c
          · exact .inl c
          · exact .inr (.inl c)
          · exact .inr (.inr (.inl c))
          · exact .inr (.inr (.inr ⟨x - 3, by omega⟩))
        rcases cd with d | d | d | ⟨k, d⟩
        · subst d
          have e3 : (2 : Int) ^ 0 * y = y := by rw [Int.pow_zero, Int.one_mul]
          rw [e3] at e1
          omega
        · subst d
          have e3 : (2 : Int) ^ 1 * y = 2 * y := rfl
          rw [e3] at e1
          exact .inr (.inr (by omega))
        · subst d
          have e3 : (2 : Int) ^ 2 * y = 4 * y := rfl
          rw [e3] at e1
          exact .inr (.inl (by omega))
        · subst d
          have e3 : (2 : Int) ^ (k + 3) * y = 8 * (2 ^ k * y) := by rw [Int.pow_add]; grind
          rw [e3] at e1
          generalize 2 ^ k * y = z at e1
          exact .inl (by omega)
    clear q
    rw [hr]
    rcases (by omega : s % 2 = 0 ∨ s % 2 = 1) with c | c
    · rw [sgn_congr (s' := 0) (t' := 0) (by omega) (by omega) an am]
      exact two_b n m (by omega) (by omega) (by omega)
    · rw [sgn_congr (s' := 1) (t' := 1) (by omega) (by omega) an am]
      exact two_c n m (by omega) (by omega) (by omega)
  · exact conic_lt2 (by rw [Int.add_comm]; exact e) g2 g1 c (by rw [hr, sgnAt_comm])
theorem conic {A B C p r : Int} (hp : p = 0 ∨ PrP p) (e : A + B = C * C) (h : HSign A B p r) : r = 1 := by
  rcases hp with rfl | hp
  · exact conic_real e h
  · by_cases h2 : p = 2
    · subst h2
      exact conic_two e h
    · exact conic_odd hp h2 e h
end Sf

namespace Sf
open PySem PySem.Spec PyProof.Rows L2
/-! a four other than 0 of norm 0: all signs are 1 -/
theorem alike_all {p u w : Int} (hp : PrP p) (hw : w % p ≠ 0) : Alike p (u * (w * w)) u := by
  unfold Alike
  by_cases h : p = 2
  · rw [if_pos h, Int.mul_emod, odd_sq8 (by rw [← h]; exact hw), Int.mul_one, Int.emod_emod_of_dvd _ (Int.dvd_refl _)]
  · rw [if_neg h, sign_all hp, sign_sq hp hw, Int.mul_one]
theorem neg_sq {a k : Int} (k0 : k ≠ 0) : a * (k * k) < 0 ↔ a < 0 := by
  have kk : 0 < k * k := by
    rcases (by omega : 0 < k ∨ k < 0) with c | c
    · exact Int.mul_pos c c
    · exact Int.mul_pos_of_neg_of_neg c c
  constructor
  · intro h
    by_cases c : a < 0
    · exact c
    · have := Int.mul_nonneg (by omega : 0 ≤ a) (Int.le_of_lt kk)
      omega
  · intro h
    exact Int.mul_neg_of_neg_of_pos h kk
theorem hsign_bare_all {a b a' b' p r : Int} (hp : p = 0 ∨ PrP p) (ha : ∃ k, k ≠ 0 ∧ a = a' * (k * k)) (hb : ∃ k, k ≠ 0 ∧ b = b' * (k * k)) (a0 : a' ≠ 0) (b0 : b' ≠ 0) (h : HSign a b p r) : HSign a' b' p r := by
  obtain ⟨k, k0, e⟩ := ha
  obtain ⟨j, j0, f⟩ := hb
  rcases hp with rfl | hp
  · rcases h with ⟨_, h⟩ | ⟨h, _⟩
    · refine .inl ⟨rfl, ?_⟩
      rw [h, e, f]
      have c1 := neg_sq (a := a') k0
      have c2 := neg_sq (a := b') j0
      by_cases c : a' < 0 ∧ b' < 0
      · rw [if_pos c, if_pos ⟨c1.mpr c.1, c2.mpr c.2⟩]
      · rw [if_neg c, if_neg fun z => c ⟨c1.mp z.1, c2.mp z.2⟩]
    · exact absurd rfl h
  · have p2 := hp.1
    obtain ⟨h0, s, t, u, v, h1, h2, h3⟩ := h.resolve_left (fun z => by omega)
    obtain ⟨s', u', g1⟩ := strip_exists a0 p2
    obtain ⟨t', v', g2⟩ := strip_exists b0 p2
    obtain ⟨w, w0, w1, w2⟩ := strip_sq hp k0 e h1 g1
    obtain ⟨x, x0, x1, x2⟩ := strip_sq hp j0 f h2 g2
    refine .inr ⟨h0, s', t', u', v', g1, g2, ?_⟩
    rw [h3]
    exact sgn_congr w2 x2 (by rw [w1]; exact alike_all hp w0) (by rw [x1]; exact alike_all hp x0)
/-- signs of (a k k, b j j) and of (a, b) -/
theorem sign_scaled {a b k j p r r' : Int} (hp : p = 0 ∨ PrP p) (a0 : a ≠ 0) (b0 : b ≠ 0) (k0 : k ≠ 0) (j0 : j ≠ 0) (h : HSign a b p r) (h' : HSign (a * (k * k)) (b * (j * j)) p r') : r = r' :=
  hsign_unique hp h (hsign_bare_all hp ⟨k, k0, rfl⟩ ⟨j, j0, rfl⟩ a0 b0 h')
/-- the first one times a square is a square -/
theorem sign_square {a b k c p r : Int} (hp : p = 0 ∨ PrP p) (a0 : a ≠ 0) (b0 : b ≠ 0) (k0 : k ≠ 0) (e : a * (k * k) = c * c) (h : HSign a b p r) : r = 1 := by
  have c0 : c ≠ 0 := fun z => Int.mul_ne_zero a0 (Int.mul_ne_zero k0 k0) (by rw [e, z]; rfl)
  obtain ⟨r', h'⟩ := hsign_some (p := p) (Int.mul_ne_zero a0 (Int.mul_ne_zero k0 k0)) b0 hp
  have h1 : r = r' := sign_scaled (j := 1) hp a0 b0 k0 (by decide) h (by rw [show b * (1 * 1) = b by omega]; exact h')
  have h2 : HSign 1 b p r' := hsign_bare_all hp ⟨c, c0, by rw [e, Int.one_mul]⟩ ⟨1, by decide, by omega⟩ (by decide) b0 h'
  rw [h1]
  exact hs_one hp h2
theorem iso_sign {a b w x y z p r : Int} (hp : p = 0 ∨ PrP p) (a0 : a ≠ 0) (b0 : b ≠ 0) (N : w * w - a * x * x - b * y * y + a * b * z * z = 0) (nz : ¬ (w = 0 ∧ x = 0 ∧ y = 0 ∧ z = 0)) (h : HSign a b p r) : r = 1 := by
  by_cases n0 : y * y - a * (z * z) = 0
  · by_cases z0 : z = 0
    · have y0 : y = 0 := by
        rw [z0, Int.mul_zero, Int.mul_zero, Int.sub_zero] at n0
        rcases Int.mul_eq_zero.mp n0 with c | c <;> exact c
      have e : a * (x * x) = w * w := by
        rw [z0, y0] at N
        grind
      have x0 : x ≠ 0 := fun c => nz ⟨by
        rw [c, Int.mul_zero, Int.mul_zero] at e
        rcases Int.mul_eq_zero.mp e.symm with d | d <;> exact d, c, y0, z0⟩
      exact sign_square hp a0 b0 x0 e h
    · exact sign_square hp a0 b0 z0 (c := y) (by omega) h
  · have e : a * ((x * y - w * z) * (x * y - w * z)) + b * ((y * y - a * (z * z)) * (y * y - a * (z * z))) = (w * y - a * x * z) * (w * y - a * x * z) := by
      have n1 : w * w - a * x * x = b * (y * y - a * (z * z)) := by grind
      have n2 : b * ((y * y - a * (z * z)) * (y * y - a * (z * z))) = (w * w - a * x * x) * (y * y - a * (z * z)) := by rw [n1, Int.mul_assoc]
      rw [n2]
      clear n1 n2 N h
      grind
    by_cases v0 : x * y - w * z = 0
    · rw [v0, Int.mul_zero, Int.mul_zero, Int.zero_add] at e
      exact sign_square hp b0 a0 n0 e (hsign_comm h)
    · obtain ⟨r', h'⟩ := hsign_some (p := p) (Int.mul_ne_zero a0 (Int.mul_ne_zero v0 v0)) (Int.mul_ne_zero b0 (Int.mul_ne_zero n0 n0)) hp
      rw [sign_scaled hp a0 b0 v0 n0 h h']
      exact conic hp e h'
/-- so the algebra has no places -/
theorem iso_places {a b : Int} {l : List Int} {q : Q5} (a0 : a ≠ 0) (b0 : b ≠ 0) (N : normT a b q = 0) (nz : ¬ (q.w = 0 ∧ q.x = 0 ∧ q.y = 0 ∧ q.z = 0)) (h : PlacesOf a b l) : l = [] := by
  cases l with
  | nil => rfl
  | cons p l =>
    obtain ⟨hp, hs⟩ := (h.2 p).mp List.mem_cons_self
    have := iso_sign hp a0 b0 N nz hs
    omega
end Sf

namespace Sf
open PySem PySem.Spec PyProof.Rows L2
section
variable {X : Cx}
theorem gcd_args3 (a b c : Value) : argsOk "math.gcd" ⟨[a, b, c], []⟩ := by unfold argsOk; kernel_rfl
theorem gcd_run3 (a b c : Int) (ta tb tc : Tok) : Gives (Builtin.«math.gcd» ⟨[.int a ta, .int b tb, .int c tc], []⟩) (.int ((((Nat.gcd 0 a.natAbs).gcd b.natAbs).gcd c.natAbs : Nat) : Int)) :=
  .of_wp fun M A E s Q h => by
    obtain ⟨hp, g, d, tk, os⟩ := s
    wp_walk
    exact ⟨_, rfl, h⟩
/-- gcd of three integers -/
def rGcd3 : List V → Hp → VK → Prop := fun vs H Q => ∃ a b c : Int, vs = [.int a, .int b, .int c] ∧ Q (.int (((a.natAbs.gcd b.natAbs).gcd c.natAbs : Nat) : Int)) H
theorem cr_gcd3 : CallR X (.builtin "math.gcd") rGcd3 := by
  intro pins s σ H xs us Q I r h
  obtain ⟨a, b, c, rfl, q⟩ := h
  cases r with
  | cons r1 r => cases r with
    | cons r2 r => cases r with
      | cons r3 r =>
        cases r
        obtain ⟨t1, rfl⟩ := r1
        obtain ⟨t2, rfl⟩ := r2
        obtain ⟨t3, rfl⟩ := r3
        have g := gcd_run3 a b c t1 t2 t3
        rw [Nat.gcd_zero_left] at g
        exact call_function_meets PySem.W.MGF.kind_gcd PySem.W.MGF.plain_gcd PySem.W.MGF.entry_gcd (gcd_args3 _ _ _) g.meets ⟨.int _, H, I.tok _, ⟨_, rfl⟩, q⟩
/-- the root of an integer, rounded down -/
def rIsqrt : List V → Hp → VK → Prop := fun vs H Q => ∃ n : Nat, vs = [.int n] ∧ n < 2 ^ 60 ∧ Q (.int (PySem.Float64.isqrt n : Nat)) H
theorem cr_isqrt : CallR X (.builtin "math.isqrt") rIsqrt := by
  intro pins s σ H xs us Q I r h
  obtain ⟨n, rfl, hn, q⟩ := h
  cases r with
  | cons r1 r =>
    cases r
    obtain ⟨t1, rfl⟩ := r1
    have l60 : n.log2 < 60 := by
      by_cases z : n = 0
      · rw [z]; decide
      · exact (Nat.log2_lt z).mpr hn
    have g := PySem.W.mg_run_isqrt (n : Int) t1 (by omega) (by rw [Int.toNat_natCast]; omega) (by rw [Int.toNat_natCast]; omega)
    rw [Int.toNat_natCast] at g
    exact call_function_meets PySem.W.MGF.kind_isqrt PySem.W.MGF.plain_isqrt PySem.W.MGF.entry_isqrt (PySem.W.MGF.args_isqrt _) g.meets ⟨.int _, H, I.tok _, ⟨_, rfl⟩, q⟩
end
end Sf

namespace Sf
open PySem PySem.Spec PyProof.Rows L2
/-! a polynomial has no more roots modulo a prime than its degree; there is a number that is no square; a root by halving -/
def ev : List Int → Int → Int
  | [], _ => 0
  | c :: l, x => c + x * ev l x
def addL : List Int → List Int → List Int
  | [], m => m
  | c :: l, [] => c :: l
  | c :: l, d :: m => (c + d) :: addL l m
theorem ev_add : ∀ (l m : List Int) (x : Int), ev (addL l m) x = ev l x + ev m x
  | [], m, x => by show ev m x = 0 + ev m x; omega
  | c :: l, [], x => by show ev (c :: l) x = ev (c :: l) x + 0; omega
  | c :: l, d :: m, x => by
    show c + d + x * ev (addL l m) x = c + x * ev l x + (d + x * ev m x)
    rw [ev_add l m x, Int.mul_add]
    omega
theorem len_add : ∀ (l m : List Int), (addL l m).length = max l.length m.length
  | [], m => by show m.length = max 0 m.length; omega
  | c :: l, [] => by show l.length + 1 = max (l.length + 1) 0; omega
  | c :: l, d :: m => by
    show (addL l m).length + 1 = max (l.length + 1) (m.length + 1)
    rw [len_add l m]
    omega
theorem ev_scale (k : Int) : ∀ (l : List Int) (x : Int), ev (l.map (k * ·)) x = k * ev l x
  | [], x => by show (0 : Int) = k * 0; omega
  | c :: l, x => by
    show k * c + x * ev (l.map (k * ·)) x = k * (c + x * ev l x)
    rw [ev_scale k l x]
    grind
/-- a polynomial taken at two places: the factor x - r -/
theorem ev_factor (r : Int) : ∀ l : List Int, ∃ m : List Int, m.length = l.length - 1 ∧ ∀ x, ev l x - ev l r = (x - r) * ev m x
  | [] => ⟨[], rfl, fun x => by show (0 : Int) - 0 = (x - r) * 0; omega⟩
  | c :: l => by
    obtain ⟨m, h1, h2⟩ := ev_factor r l
    refine ⟨addL l (m.map (r * ·)), ?_, fun x => ?_⟩
    · rw [len_add, List.length_map, List.length_cons]
      omega
    · have := h2 x
      rw [ev_add, ev_scale]
      show c + x * ev l x - (c + r * ev l r) = _
      grind
theorem pow_factor (r : Int) : ∀ n : Nat, ∃ m : List Int, m.length = n ∧ ∀ x : Int, x ^ (n + 1) - r ^ (n + 1) = (x - r) * (x ^ n + ev m x)
  | 0 => ⟨[], rfl, fun x => by show x ^ 1 - r ^ 1 = (x - r) * (x ^ 0 + 0); grind⟩
  | n + 1 => by
    obtain ⟨m, h1, h2⟩ := pow_factor r n
    refine ⟨addL (0 :: m) (r ^ (n + 1) :: []), ?_, fun x => ?_⟩
    · rw [len_add, List.length_cons, List.length_singleton]
      omega
    · have := h2 x
      rw [ev_add]
      show x ^ (n + 1 + 1) - r ^ (n + 1 + 1) = (x - r) * (x ^ (n + 1) + (0 + x * ev m x + (r ^ (n + 1) + x * 0)))
      rw [Int.pow_succ x (n + 1), Int.pow_succ r (n + 1)]
      grind
/-- x ^ n + .. has at most n roots -/
theorem few_roots {p : Int} (hp : PrP p) : ∀ (n : Nat) (l : List Int), l.length ≤ n → ∀ rs : List Int, rs.Pairwise (fun r s => ¬ p ∣ s - r) → (∀ r ∈ rs, p ∣ r ^ n + ev l r) → rs.length ≤ n
  | 0, l, hl, [], _, _ => Nat.zero_le _
  | 0, l, hl, r :: rs, _, h => by
    have e : l = [] := List.eq_nil_of_length_eq_zero (by omega)
    have z := h r (by simp)
    rw [e] at z
    exact absurd (show p ∣ 1 by simpa [ev] using z) (prime_one hp)
  | n + 1, l, hl, [], _, _ => Nat.zero_le _
  | n + 1, l, hl, r :: rs, hd, h => by
    obtain ⟨d1, d2⟩ := List.pairwise_cons.mp hd
    obtain ⟨m1, a1, a2⟩ := pow_factor r n
    obtain ⟨m2, b1, b2⟩ := ev_factor r l
    have hr := h r (by simp)
    have ih := few_roots hp n (addL m1 m2) (by rw [len_add]; omega) rs d2 fun s hs => by
      have k : p ∣ (s - r) * (s ^ n + ev (addL m1 m2) s) := by
        have e : (s - r) * (s ^ n + ev (addL m1 m2) s) = (s ^ (n + 1) + ev l s) - (r ^ (n + 1) + ev l r) := by
          have := a2 s
          have := b2 s
          rw [ev_add]
          grind
        rw [e]
        exact Int.dvd_sub (h s (by simp [hs])) hr
      exact (prime_mul hp k).resolve_left (d1 s hs)
    rw [List.length_cons]
    omega
/-- there is a number that is no square -/
theorem nonsquare {p : Nat} (hp : PrP (p : Int)) (h3 : p ≠ 2) : ∃ z : Int, 2 ≤ z ∧ z < p ∧ restSign z p = -1 := by
  refine Classical.byContradiction fun no => ?_
  have p2 := hp.1
  have all : ∀ z : Int, 1 ≤ z → z < p → (p : Int) ∣ z ^ ((p - 1) / 2) - 1 := fun z z1 z2 => by
    have nz : z % (p : Int) ≠ 0 := by rw [Int.emod_eq_of_lt (by omega) z2]; omega
    rcases half_two hp h3 nz with e | e
    · exact Int.dvd_of_emod_eq_zero (by rw [Int.sub_emod, e, Int.emod_eq_of_lt (by decide : (0 : Int) ≤ 1) (by omega)]; exact Int.zero_emod _)
    · exfalso
      have z1' : z ≠ 1 := fun k => by
        rw [k, Int.one_pow, Int.emod_eq_of_lt (by decide) (by omega)] at e
        omega
      refine no ⟨z, by omega, z2, ?_⟩
      unfold restSign
      rw [if_neg nz, if_neg (by omega), half_cast p (by omega), if_neg (by omega)]
  have b := few_roots hp ((p - 1) / 2) [-1] ?_ (resL p) ?_ fun r hr => ?_
  · have : (resL p).length = p - 1 := by unfold resL; rw [List.length_map, List.length_range']
    omega
  · show 1 ≤ _
    have : p ≠ 3 → 4 ≤ p := by omega
    omega
  · have nd := resL_nodup p
    refine List.Pairwise.imp_of_mem (fun {a b} ha hb (ne : a ≠ b) d => ?_) nd
    have a1 := (resL_mem (by omega)).mp ha
    have b1 := (resL_mem (by omega)).mp hb
    have := small_dvd d (by omega) (by omega)
    omega
  · obtain ⟨r1, r2⟩ := (resL_mem (by omega)).mp hr
    have := all r r1 r2
    show (p : Int) ∣ r ^ ((p - 1) / 2) + (-1 + r * 0)
    rw [Int.mul_zero, Int.add_zero]
    exact this
end Sf

namespace Sf
open PySem PySem.Spec PyProof.Rows L2
/-! congruences, and the root by halving (Tonelli, Shanks) -/
def Cg (p a b : Int) : Prop := a % p = b % p
theorem cg_dvd {p a b : Int} : Cg p a b ↔ p ∣ a - b := by
  unfold Cg
  exact Int.emod_eq_emod_iff_emod_sub_eq_zero.trans ⟨Int.dvd_of_emod_eq_zero, Int.emod_eq_zero_of_dvd⟩
theorem Cg.mul {p a b c d : Int} (h : Cg p a b) (g : Cg p c d) : Cg p (a * c) (b * d) := by
  unfold Cg at *
  rw [Int.mul_emod, h, g, ← Int.mul_emod]
theorem Cg.pow {p a b : Int} (h : Cg p a b) (n : Nat) : Cg p (a ^ n) (b ^ n) := by
  unfold Cg at *
  rw [← pow_mod a, h, pow_mod]
theorem Cg.refl (p a : Int) : Cg p a a := rfl
theorem Cg.symm {p a b : Int} (h : Cg p a b) : Cg p b a := Eq.symm h
theorem Cg.trans {p a b c : Int} (h : Cg p a b) (g : Cg p b c) : Cg p a c := Eq.trans h g
theorem cg_mod (p a : Int) : Cg p (a % p) a := Int.emod_emod_of_dvd a (Int.dvd_refl p)
theorem Cg.of {p a b : Int} (e : a = b) : Cg p a b := e ▸ rfl
/-- a square that leaves 1: the number leaves 1 or -1 -/
theorem cg_unit {p x : Int} (hp : PrP p) (h : Cg p (x * x) 1) : Cg p x 1 ∨ Cg p x (-1) := by
  have d : p ∣ (x - 1) * (x + 1) := by
    have := cg_dvd.mp h
    have e : (x - 1) * (x + 1) = x * x - 1 := by grind
    rw [e]
    exact this
  rcases prime_mul hp d with k | k
  · exact .inl (cg_dvd.mpr k)
  · exact .inr (cg_dvd.mpr (by rw [Int.sub_neg]; exact k))
/-- the power of a power of two -/
def p2 (x : Int) (m : Nat) : Int := x ^ (2 ^ m)
theorem p2_zero (x : Int) : p2 x 0 = x := by unfold p2; rw [Nat.pow_zero, Int.pow_one]
theorem p2_succ (x : Int) (m : Nat) : p2 x (m + 1) = p2 x m * p2 x m := by
  unfold p2
  rw [Nat.pow_succ, Nat.mul_two, Int.pow_add]
theorem p2_add (x : Int) (m n : Nat) : p2 x (m + n) = p2 (p2 x m) n := by
  unfold p2
  rw [Nat.pow_add, Int.pow_mul]
theorem p2_mul (x y : Int) (m : Nat) : p2 (x * y) m = p2 x m * p2 y m := by
  unfold p2
  exact Int.mul_pow ..
theorem Cg.p2 {p a b : Int} (h : Cg p a b) (n : Nat) : Cg p (p2 a n) (p2 b n) := h.pow _
theorem p2_one (m : Nat) : p2 1 m = 1 := Int.one_pow ..
theorem p2_cg_one {p x : Int} {m n : Nat} (h : Cg p (p2 x m) 1) (hn : m ≤ n) : Cg p (p2 x n) 1 := by
  obtain ⟨k, rfl⟩ := Nat.exists_eq_add_of_le hn
  rw [p2_add]
  have := h.p2 k
  rwa [p2_one] at this
/-- what stands at each turn: root root = number fault, fault and turn of orders that divide powers of 2 -/
structure Ton (p number root fault turn : Int) (twos : Nat) : Prop where
  sq : Cg p (root * root) (number * fault)
  fa : Cg p (p2 fault (twos - 1)) 1
  tu : Cg p (p2 turn (twos - 1)) (-1)
  t1 : 1 ≤ twos
/-- one turn -/
theorem ton_step {p number root fault turn : Int} {twos left : Nat} (hp : PrP p) (h : Ton p number root fault turn twos) (l1 : 1 ≤ left) (hl : left ≤ twos - 1) (e : Cg p (p2 fault left) 1) (no : ¬ Cg p (p2 fault (left - 1)) 1) {b : Int} (hb : Cg p b (p2 turn (twos - left - 1))) :
    Ton p number (root * b % p) (fault * (b * b % p) % p) (b * b % p) left := by
  have t1 := h.t1
  have f1 : Cg p (p2 fault (left - 1)) (-1) := by
    have z : p2 fault left = p2 fault (left - 1) * p2 fault (left - 1) := by rw [← p2_succ]; congr 1; omega
    rw [z] at e
    exact (cg_unit hp e).resolve_left no
  have b1 : Cg p (p2 (b * b) (left - 1)) (-1) := by
    have e1 : p2 (b * b) (left - 1) = p2 b left := by
      rw [p2_mul, ← p2_succ]
      congr 1
      omega
    rw [e1]
    refine (hb.p2 left).trans ?_
    rw [← p2_add]
    have e2 : twos - left - 1 + left = twos - 1 := by omega
    rw [e2]
    exact h.tu
  refine ⟨?_, ?_, ?_, l1⟩
  · refine ((cg_mod p _).mul (cg_mod p _)).trans ?_
    refine (Cg.of (show root * b * (root * b) = root * root * (b * b) by grind)).trans ?_
    refine (h.sq.mul (Cg.refl p (b * b))).trans ?_
    refine (Cg.of (show number * fault * (b * b) = number * (fault * (b * b)) by grind)).trans ?_
    refine (Cg.refl p number).mul (Cg.symm ?_)
    exact (cg_mod p _).trans ((Cg.refl p fault).mul (cg_mod p _))
  · refine ((cg_mod p _).p2 _).trans ?_
    rw [p2_mul]
    refine (f1.mul (((cg_mod p _).p2 _).trans b1)).trans ?_
    exact Cg.of (by decide)
  · exact ((cg_mod p _).p2 _).trans b1
/-- the least power that leaves 1 -/
structure Halv (p x : Int) (m : Nat) : Prop where
  one : Cg p (p2 x m) 1
  no : ∀ j, j < m → ¬ Cg p (p2 x j) 1
theorem halv_le {p x : Int} {m n : Nat} (h : Halv p x m) (g : Cg p (p2 x n) 1) : m ≤ n := by
  rcases Nat.lt_or_ge n m with c | c
  · exact absurd g (h.no n c)
  · exact c
/-- where the turns begin -/
theorem ton_start {p number z : Int} {twos : Nat} {odd : Int} (hp : PrP p) (h2 : p ≠ 2) (hs : Strip (p - 1) 2 twos odd) (hn : restSign number p = 1) (hz : restSign z p = -1) :
    Ton p number (number ^ ((odd + 1) / 2).toNat % p) (number ^ odd.toNat % p) (z ^ odd.toNat % p) twos ∧ 1 ≤ odd := by
  have p2 := hp.1
  obtain ⟨q, rfl⟩ : ∃ q : Nat, p = q := ⟨p.toNat, by omega⟩
  have oq := odd_prime hp (by omega)
  obtain ⟨e1, e2⟩ := hs
  have pw : (0 : Int) < 2 ^ twos := pow_pos_int (by decide) _
  have o1 : 1 ≤ odd := by
    rcases Int.lt_or_le 0 odd with c | c
    · omega
    · have : (2 : Int) ^ twos * odd ≤ 0 := Int.mul_nonpos_of_nonneg_of_nonpos (by omega) c
      omega
  have t1 : 1 ≤ twos := by
    rcases Nat.lt_or_ge 0 twos with c | c
    · exact c
    · have : twos = 0 := by omega
      rw [this, Int.pow_zero, Int.one_mul] at e1
      omega
  have half : (((q : Int) - 1) / 2).toNat = odd.toNat * 2 ^ (twos - 1) := by
    have a : (q : Int) - 1 = 2 * (2 ^ (twos - 1) * odd) := by
      rw [e1, ← Int.mul_assoc]
      congr 1
      have : twos = (twos - 1) + 1 := by omega
      rw [this, Int.pow_succ]
      have e3 : twos - 1 + 1 - 1 = twos - 1 := by omega
      rw [e3, Int.mul_comm]
    rw [a, Int.mul_ediv_cancel_left _ (by decide)]
    obtain ⟨o, rfl⟩ : ∃ o : Nat, odd = o := ⟨odd.toNat, by omega⟩
    rw [show ((2 : Int) ^ (twos - 1) * (o : Int)) = ((2 ^ (twos - 1) * o : Nat) : Int) by rw [Int.natCast_mul, Int.natCast_pow]; rfl, Int.toNat_natCast, Int.toNat_natCast, Nat.mul_comm]
  have pn : Cg (q : Int) (number ^ (((q : Int) - 1) / 2).toNat) 1 := by
    unfold restSign at hn
    split at hn
    · omega
    · split at hn
      · rename_i h1 h3
        unfold Cg
        rw [h3, Int.emod_eq_of_lt (by decide) (by omega)]
      · omega
  have pz : Cg (q : Int) (z ^ (((q : Int) - 1) / 2).toNat) (-1) := by
    unfold restSign at hz
    split at hz
    · omega
    · split at hz
      · omega
      · rename_i h1 h3
        rw [half_cast q (by omega)] at h3 ⊢
        have := (half_two hp (by omega) h1).resolve_left h3
        unfold Cg
        rw [this]
        have e : (-1 : Int) % (q : Int) = q - 1 := by
          rw [← Int.add_emod_right, Int.emod_eq_of_lt (by omega) (by omega)]
          omega
        exact e.symm
  rw [half, Int.pow_mul] at pn pz
  refine ⟨⟨?_, ((cg_mod _ _).p2 _).trans pn, ((cg_mod _ _).p2 _).trans pz, t1⟩, o1⟩
  refine ((cg_mod _ _).mul (cg_mod _ _)).trans (Cg.trans ?_ ((Cg.refl _ number).mul (cg_mod _ _).symm))
  refine Cg.of ?_
  rw [← Int.pow_add, Int.mul_comm, ← Int.pow_succ]
  congr 1
  omega
end Sf

namespace Sf
open PySem PySem.Spec PyProof.Rows L2
section
variable {P : Program} {w : World} {K : PySem.W.Frag} {mg : Str → Option Value} {base : Heap} {f : Addr} {fd : FuncData}
theorem least_nat {Pr : Nat → Prop} : ∀ n, Pr n → ∃ m, Pr m ∧ ∀ j, j < m → ¬ Pr j
  | 0, h => ⟨0, h, fun j hj => absurd hj (Nat.not_lt_zero j)⟩
  | n + 1, h => by
    rcases Classical.em (∃ j, j ≤ n ∧ Pr j) with ⟨j, hj, hp⟩ | no
    · obtain ⟨m, h1, h2⟩ := least_nat_aux n j hj hp
      exact ⟨m, h1, h2⟩
    · exact ⟨n + 1, h, fun j hj hp => no ⟨j, by omega, hp⟩⟩
where least_nat_aux : ∀ (n j : Nat), j ≤ n → Pr j → ∃ m, Pr m ∧ ∀ j, j < m → ¬ Pr j
  | 0, j, hj, hp => ⟨j, hp, fun i hi => by omega⟩
  | n + 1, j, hj, hp => by
    rcases Classical.em (∃ i, i < j ∧ Pr i) with ⟨i, hi, hp'⟩ | no
    · exact least_nat_aux n i (by omega) hp'
    · exact ⟨j, hp, fun i hi hp' => no ⟨i, hi, hp'⟩⟩
theorem strip_pos {p : Int} {m : Nat} {u : Int} (hp : 2 ≤ p) (h : Strip (p - 1) 2 m u) : 1 ≤ u := by
  have pw : (0 : Int) < 2 ^ m := pow_pos_int (by decide) _
  have e1 := h.1
  rcases Int.lt_or_le 0 u with c | c
  · omega
  · have : (2 : Int) ^ m * u ≤ 0 := Int.mul_nonpos_of_nonneg_of_nonpos (by omega) c
    omega
theorem cmul9 {i j : Int} (h1 : i.natAbs ≤ 1000000000) (h2 : j.natAbs ≤ 1000000000) : CMulW i j := CMulW.of (Nat.lt_of_le_of_lt h1 (by decide +kernel)) (Nat.lt_of_le_of_lt h2 (by decide +kernel))
theorem lt9 {i : Int} (h1 : i.natAbs ≤ 1000000000) : i.natAbs < 2 ^ 1000 := Nat.lt_of_le_of_lt h1 (by decide +kernel)
def spHalv : Sp := fun vs H Q _ => ∃ (x p : Int) (M : Nat), vs = [.int x, .int p] ∧ 0 ≤ x ∧ x < p ∧ 2 ≤ p ∧ p ≤ 1000000000 ∧ Halv p x M ∧ Q (.int M) H
theorem ok_halvings (F : FnD K "halvings" "halvings" s_P_halvings f fd) : FnOk P w K mg base CX0 1 f fd ["number", "prime"] spHalv := by
  refine F.ok sc_P_halvings (fun vs H Q E h => ?_) (fun cdv A outer s H vs Q E hr h => ?_)
  · obtain ⟨x, p, M, rfl, _⟩ := h; rfl
  · obtain ⟨x, p, M, rfl, x0, xp, p2', p9, hM, q⟩ := h
    refine ⟨_, PSs.nox (pss_cons (ps_set (i := 2) sc_P_halvings.nd rfl (Or.inl rfl) pe_int)
      (pss_cons (ps_while PassesOwn.never (pt_cmp (pc_neI (pv 0) pe_int)) (pss_cons (ps_set (i := 0) sc_P_halvings.nd rfl (Or.inl rfl) (pe_op op_mod (pe_op op_mulW (pv 0) (pv 0)) (pv 1)))
      (pss_one (ps_set (i := 2) sc_P_halvings.nd rfl (Or.inl rfl) (pe_op op_add (pv 2) pe_int)))))
      (pss_one (ps_ret (pv 2))))), ?_⟩
    have one : (1 : Int) % p = 1 := Int.emod_eq_of_lt (by decide) (by omega)
    refine ⟨fun c σ H' => H' = H ∧ ∃ (y : Int) (k : Nat), σ = [some (.int y), some (.int p), some (.int k)] ∧ y = p2 x k % p ∧ k ≤ M ∧ c = M - k, ⟨_, rfl, x, 0, rfl, by rw [p2_zero]; exact (Int.emod_eq_of_lt x0 xp).symm, Nat.zero_le _, rfl⟩, ?_⟩
    rintro c σ H0 ⟨rfl, y, k, rfl, ey, kM, rfl⟩
    have y0 := Int.emod_nonneg (p2 x k) (by omega : p ≠ 0)
    have y1 := Int.emod_lt_of_pos (p2 x k) (by omega : 0 < p)
    rw [← ey] at y0 y1
    refine ⟨_, rfl, _, _, rfl, rfl, _, rfl, ifn (fun h => ⟨_, fun _ _ z => z, ?_⟩) (fun h => ?_)⟩
    · have h : y ≠ 1 := h
      have lt : k < M := by
        rcases Nat.lt_or_ge k M with c | c
        · exact c
        · have : k = M := by omega
          subst this
          exact absurd (ey.trans (Eq.trans hM.one one)) h
      refine ⟨_, rfl, _, rfl, _, _, rfl, rfl, cmul9 (by omega) (by omega), _, rfl, _, _, rfl, rfl, (by omega), ?_⟩
      refine ⟨_, rfl, _, _, rfl, rfl, M - (k + 1), by omega, rfl, y * y % p, k + 1, rfl, ?_, lt, rfl⟩
      rw [p2_succ, ey]
      exact ((cg_mod p _).mul (cg_mod p _))
    · have h : y = 1 := h
      have ek : M = k := by
        have := halv_le hM (n := k) (by unfold Cg; rw [← ey, h, one])
        omega
      rw [ek] at q
      exact ⟨_, rfl, q⟩
def spLeastN : Sp := fun vs H Q _ => ∃ p : Int, vs = [.int p] ∧ PrP p ∧ p ≠ 2 ∧ p ≤ 1000000000 ∧ ∀ (z : Int) (H' : Hp), 2 ≤ z → z < p → restSign z p = -1 → Same H H' → Q (.int z) H'
theorem ok_least_nonsquare (F : FnD K "least_nonsquare" "least_nonsquare" s_P_least_nonsquare f fd) (C_P_rest_sign : Cal P w K mg base 2 "rest_sign" ["number", "prime"] spRestSign) : FnOk P w K mg base CX0 3 f fd ["prime"] spLeastN := by
  refine F.ok sc_P_least_nonsquare (fun vs H Q E h => ?_) (fun cdv A outer s H vs Q E hr h => ?_)
  · obtain ⟨p, rfl, _⟩ := h; rfl
  · obtain ⟨p, rfl, hp, h2, p9, q⟩ := h
    refine ⟨_, PSs.nox (pss_cons (ps_set (i := 1) sc_P_least_nonsquare.nd rfl (Or.inl rfl) pe_int)
      (pss_cons (ps_while PassesOwn.never (pt_cmp (pc_neI (pe_cal C_P_rest_sign (hr.mono (by decide)) (pa_cons (pv 1) (pa_cons (pv 0) pa_nil))) (pe_un un_neg pe_int))) (pss_one (ps_set (i := 1) sc_P_least_nonsquare.nd rfl (Or.inl rfl) (pe_op op_add (pv 1) pe_int))))
      (pss_one (ps_ret (pv 1))))), ?_⟩
    have p2' := hp.1
    obtain ⟨z, z2, zp, hz⟩ : ∃ z : Int, 2 ≤ z ∧ z < p ∧ restSign z p = -1 := by
      obtain ⟨n, rfl⟩ : ∃ n : Nat, p = n := ⟨p.toNat, by omega⟩
      exact nonsquare hp (by omega)
    refine ⟨fun c σ H' => Same H H' ∧ ∃ y : Int, σ = [some (.int p), some (.int y)] ∧ 2 ≤ y ∧ y ≤ z ∧ c = (z - y).toNat, ⟨_, Same.refl _, 2, rfl, by decide, z2, rfl⟩, ?_⟩
    rintro c σ H1 ⟨e1, y, rfl, y2, yz, rfl⟩
    refine ⟨_, rfl, _, rfl, y, p, rfl, by omega, lt9 (by omega), fun H2 e2 => ?_⟩
    refine ⟨1, rfl, _, _, rfl, rfl, _, rfl, ifn (fun h => ⟨_, fun _ _ z => z, ?_⟩) (fun h => ?_)⟩
    · have h : restSign y p ≠ -1 := h
      have ny : y ≠ z := fun e => h (e ▸ hz)
      exact ⟨_, rfl, _, _, rfl, rfl, (z - (y + 1)).toNat, by omega, e1.trans e2, y + 1, rfl, by omega, by omega, rfl⟩
    · have h : restSign y p = -1 := h
      exact ⟨_, rfl, q y H2 y2 (by omega) h (e1.trans e2)⟩
/-- a root of a number modulo a prime, if it has one -/
def spRootM : Sp := fun vs H Q _ => ∃ n p : Int, vs = [.int n, .int p] ∧ PrP p ∧ p ≤ 1000000000 ∧ (p = 2 ∨ n % p = 0 ∨ restSign n p = 1) ∧ ∀ (r : Int) (H' : Hp), 0 ≤ r → r < p → p ∣ r * r - n → Same H H' → Q (.int r) H'
set_option maxHeartbeats 8000000 in
theorem ok_root_modulo (F : FnD K "root_modulo" "root_modulo" s_P_root_modulo f fd) (T : Glob mg) (C_P_stripped : Cal P w K mg base 1 "stripped" ["number", "prime"] spStripped) (C_P_power_modulo : Cal P w K mg base 1 "power_modulo" ["number", "many", "modulus"] spPowMod) (C_P_least_nonsquare : Cal P w K mg base 3 "least_nonsquare" ["prime"] spLeastN) (C_P_halvings : Cal P w K mg base 1 "halvings" ["number", "prime"] spHalv) : FnOk P w K mg base CX0 4 f fd ["number", "prime"] spRootM := by
  refine F.ok sc_P_root_modulo (fun vs H Q E h => ?_) (fun cdv A outer s H vs Q E hr h => ?_)
  · obtain ⟨n, p, rfl, _⟩ := h; rfl
  · obtain ⟨n, p, rfl, hp, p9, hn, q⟩ := h
    refine ⟨_, PSs.nox (pss_cons (ps_if (pt_cmp (pc_eqI (pv 1) pe_int)) (pss_one (ps_ret (pe_op op_mod (pv 0) pe_int))) pss_nil)
      (pss_cons (ps_asg (pe_cal C_P_stripped (hr.mono (by decide)) (pa_cons (pe_op op_sub (pv 1) pe_int) (pa_cons pe_int pa_nil))) (pg_tup (by rfl) (pgs_cons (pg_name (i := 2) sc_P_root_modulo.nd rfl (Or.inl rfl)) (pgs_cons (pg_name (i := 3) sc_P_root_modulo.nd rfl (Or.inl rfl)) pgs_nil))))
      (pss_cons (ps_set (i := 4) sc_P_root_modulo.nd rfl (Or.inl rfl) (pe_cal C_P_power_modulo (hr.mono (by decide)) (pa_cons (pe_cal C_P_least_nonsquare (hr.mono (by decide)) (pa_cons (pv 1) pa_nil)) (pa_cons (pv 3) (pa_cons (pv 1) pa_nil)))))
      (pss_cons (ps_set (i := 5) sc_P_root_modulo.nd rfl (Or.inl rfl) (pe_cal C_P_power_modulo (hr.mono (by decide)) (pa_cons (pv 0) (pa_cons (pe_op op_fdivW (pe_op op_add (pv 3) pe_int) pe_int) (pa_cons (pv 1) pa_nil)))))
      (pss_cons (ps_set (i := 6) sc_P_root_modulo.nd rfl (Or.inl rfl) (pe_cal C_P_power_modulo (hr.mono (by decide)) (pa_cons (pv 0) (pa_cons (pv 3) (pa_cons (pv 1) pa_nil)))))
      (pss_cons (ps_while PassesOwn.never (pt_cmp (pc_gt (pv 6) pe_int)) (pss_cons (ps_set (i := 7) sc_P_root_modulo.nd rfl (Or.inl rfl) (pe_cal C_P_halvings (hr.mono (by decide)) (pa_cons (pv 6) (pa_cons (pv 1) pa_nil))))
      (pss_cons (ps_for PassesOwn.never rfl (pi_range1 (by rfl) T.m_range (pa_cons (pe_op op_sub (pe_op op_sub (pv 2) (pv 7)) pe_int) pa_nil)) (pg_name (i := 8) sc_P_root_modulo.nd rfl (Or.inl rfl)) (pss_one (ps_set (i := 4) sc_P_root_modulo.nd rfl (Or.inl rfl) (pe_op op_mod (pe_op op_mulW (pv 4) (pv 4)) (pv 1)))))
      (pss_cons (ps_set (i := 5) sc_P_root_modulo.nd rfl (Or.inl rfl) (pe_op op_mod (pe_op op_mulW (pv 5) (pv 4)) (pv 1)))
      (pss_cons (ps_set (i := 4) sc_P_root_modulo.nd rfl (Or.inl rfl) (pe_op op_mod (pe_op op_mulW (pv 4) (pv 4)) (pv 1)))
      (pss_cons (ps_set (i := 6) sc_P_root_modulo.nd rfl (Or.inl rfl) (pe_op op_mod (pe_op op_mulW (pv 6) (pv 4)) (pv 1)))
      (pss_one (ps_set (i := 2) sc_P_root_modulo.nd rfl (Or.inl rfl) (pv 7)))))))))
      (pss_one (ps_ret (pv 5))))))))), ?_⟩
    have p2' := hp.1
    refine ⟨_, rfl, _, _, rfl, rfl, _, rfl, ifd (fun h => ?_) (fun h2 => ?_)⟩
    · have h : p = 2 := h
      subst h
      refine ⟨_, rfl, _, _, rfl, rfl, (by show (0 : Int) < 2; decide), ?_⟩
      refine q (n % 2) H (by omega) (by omega) ?_ (Same.refl _)
      have c : n % 2 = 0 ∨ n % 2 = 1 := by omega
      rcases c with c | c
      · rw [c]
        omega
      · rw [c]
        omega
    have h2 : p ≠ 2 := h2
    refine ⟨_, rfl, _, _, rfl, rfl, ?_⟩
    refine ⟨p - 1, 2, rfl, by omega, by decide, by decide +kernel, fun m u a hS ha => ?_⟩
    refine ⟨a, _, rfl, .inl (.inl upd_same), rfl, _, _, rfl, _, _, rfl, rfl, ?_⟩
    have s1 := same_upd (o := .tup [.int (m : Int), .int u]) ha
    generalize upd H a (.tup [.int (m : Int), .int u]) = H1 at *
    refine ⟨_, rfl, p, rfl, hp, h2, p9, fun z H2 z2 zp hz s2 => ?_⟩
    have u1 := strip_pos p2' hS
    have um := strip_le (by decide) hS
    refine ⟨_, rfl, _, rfl, z, u, p, rfl, by omega, by omega, lt9 (by omega), ?_⟩
    refine ⟨_, rfl, _, rfl, _, _, rfl, rfl, _, _, rfl, rfl, CDivW.of (by decide) (by decide +kernel), _, rfl, n, (u + 1) / 2, p, rfl, by omega, by omega, lt9 (by omega), ?_⟩
    refine ⟨_, rfl, _, rfl, _, rfl, n, u, p, rfl, by omega, by omega, lt9 (by omega), ?_⟩
    have s12 := s1.trans s2
    have rg : ∀ x : Int, 0 ≤ x % p ∧ x % p < p := fun x => ⟨Int.emod_nonneg x (by omega), Int.emod_lt_of_pos x (by omega)⟩
    have one : (1 : Int) % p = 1 := Int.emod_eq_of_lt (by decide) (by omega)
    refine ⟨fun c σ H' => Same H H' ∧ ∃ (root fault turn : Int) (tw : Nat) (v7 v8 : Option V), σ = [some (.int n), some (.int p), some (.int tw), some (.int u), some (.int turn), some (.int root), some (.int fault), v7, v8] ∧ (0 ≤ root ∧ root < p) ∧ (0 ≤ fault ∧ fault < p) ∧ (0 ≤ turn ∧ turn < p) ∧ ((n % p = 0 ∧ fault = 0 ∧ root = 0) ∨ Ton p n root fault turn tw) ∧ tw ≤ m ∧ c = tw,
      ⟨_, s12, _, _, _, m, none, none, rfl, rg _, rg _, rg _, ?_, Nat.le_refl _, rfl⟩, ?_⟩
    · rcases hn with c | c | c
      · exact absurd c h2
      · refine .inl ⟨c, ?_, ?_⟩
        · rw [← pow_mod, c, Int.zero_pow (by omega)]
          exact Int.zero_emod _
        · rw [← pow_mod, c, Int.zero_pow (by omega)]
          exact Int.zero_emod _
      · exact .inr (ton_start hp h2 hS c hz).1
    rintro tw σ H3 ⟨e3, root, fault, turn, _, v7, v8, rfl, hroot, hfault, hturn, hT, twm, rfl⟩
    refine ⟨_, rfl, _, _, rfl, rfl, _, rfl, ifd (fun h => ⟨_, fun _ _ z => z, ?_⟩) (fun h => ?_)⟩
    · have h : fault > 1 := h
      have T1 : Ton p n root fault turn tw := hT.resolve_left fun k => by omega
      obtain ⟨left, hl1, hl2⟩ := least_nat (Pr := fun j => Cg p (p2 fault j) 1) _ T1.fa
      have hH : Halv p fault left := ⟨hl1, hl2⟩
      have lle := halv_le hH T1.fa
      have t1 := T1.t1
      have l1 : 1 ≤ left := by
        rcases Nat.lt_or_ge 0 left with k | k
        · exact k
        · have e0 : left = 0 := by omega
          rw [e0, p2_zero] at hl1
          unfold Cg at hl1
          rw [one, Int.emod_eq_of_lt hfault.1 hfault.2] at hl1
          omega
      refine ⟨_, rfl, _, rfl, fault, p, left, rfl, hfault.1, hfault.2, p2', p9, hH, ?_⟩
      refine ⟨_, rfl, _, rfl, _, _, rfl, rfl, _, _, rfl, rfl, ((tw - left - 1 : Nat) : Int), ?_, by omega, by omega, ?_⟩
      · show [V.int ((tw : Int) - (left : Int) - 1)] = _
        congr 2
        omega
      refine for_range (lo := 0) (n := tw - left - 1) (fun i σ H' => H3 = H' ∧ ∃ (b : Int) (v : Option V), σ = [some (.int n), some (.int p), some (.int tw), some (.int u), some (.int b), some (.int root), some (.int fault), some (.int left), v] ∧ (0 ≤ b ∧ b < p) ∧ Cg p b (p2 turn i)) ⟨rfl, turn, v8, rfl, hturn, by rw [p2_zero]; exact Cg.refl _ _⟩ ?_ ?_
      · rintro i σ _ hi ⟨rfl, b, v, rfl, hb, cb⟩
        refine ⟨_, rfl, _, rfl, _, _, rfl, rfl, cmul9 (by omega) (by omega), _, rfl, _, _, rfl, rfl, (by omega), ?_⟩
        refine ⟨rfl, b * b % p, _, rfl, rg _, ?_⟩
        rw [p2_succ]
        exact (cg_mod p _).trans (cb.mul cb)
      · rintro σ _ ⟨rfl, b, v, rfl, hb, cb⟩
        have st := ton_step hp T1 l1 lle hl1 (hl2 _ (by omega)) cb
        have rb := rg (b * b)
        refine ⟨_, rfl, _, rfl, _, _, rfl, rfl, cmul9 (by omega) (by omega), _, rfl, _, _, rfl, rfl, (by omega), ?_⟩
        refine ⟨_, rfl, _, rfl, _, _, rfl, rfl, cmul9 (by omega) (by omega), _, rfl, _, _, rfl, rfl, (by omega), ?_⟩
        refine ⟨_, rfl, _, rfl, _, _, rfl, rfl, cmul9 (by omega) (by omega), _, rfl, _, _, rfl, rfl, (by omega), ?_⟩
        refine ⟨_, rfl, left, by omega, e3, root * b % p, fault * (b * b % p) % p, b * b % p, left, _, _, rfl, rg _, rg _, rb, .inr st, by omega, rfl⟩
    · have h : ¬ fault > 1 := h
      refine ⟨_, rfl, q root H3 hroot.1 hroot.2 ?_ e3⟩
      rcases hT with ⟨k1, k2, k3⟩ | T1
      · rw [k3]
        exact Int.dvd_sub (Int.dvd_zero p) (Int.dvd_of_emod_eq_zero k1)
      · have f1 : fault = 1 := by
          have : fault ≠ 0 := fun k => by
            have z := T1.fa
            unfold Cg p2 at z
            rw [k, Int.zero_pow (by exact Nat.ne_of_gt (Nat.pow_pos (by decide))), Int.zero_emod, one] at z
            omega
          omega
        have z := T1.sq
        rw [f1, Int.mul_one] at z
        exact cg_dvd.mp z
end
end Sf

namespace Sf
open PySem PySem.Spec PyProof.Rows L2
/-! places, and products of distinct primes -/
theorem neg_placeA {a b p : Int} (hp : p = 0 ∨ PrP p) (h : HSign a b p (-1)) : p = 0 ∨ p = 2 ∨ (PrP p ∧ (a % p = 0 ∨ b % p = 0)) := by
  rcases hp with e | hp
  · exact .inl e
  · by_cases c : p = 2
    · exact .inr (.inl c)
    · by_cases c1 : a % p = 0
      · exact .inr (.inr ⟨hp, .inl c1⟩)
      · by_cases c2 : b % p = 0
        · exact .inr (.inr ⟨hp, .inr c2⟩)
        · exact absurd (sign_far hp c c1 c2 h) (by decide)
theorem prime2 : PrP 2 := ⟨by decide, fun k h1 h2 => by omega⟩
theorem disc_pos : ∀ l : List Int, 0 < discOf l
  | [] => by decide
  | p :: l => by
    show 0 < (if p > 0 then p else 1) * discOf l
    have := disc_pos l
    split
    · exact Int.mul_pos (by assumption) this
    · omega
theorem disc_no {p : Int} (hp : PrP p) : ∀ {l : List Int}, (∀ x ∈ l, x = 0 ∨ PrP x) → p ∉ l → ¬ p ∣ discOf l
  | [], _, _, z => prime_one hp z
  | x :: l, h, n, z => by
    rcases prime_mul hp (show p ∣ (if x > 0 then x else 1) * discOf l from z) with y | y
    · split at y
      · have hx := (h x (by simp)).resolve_left (by omega)
        exact n (by rw [prime_dvd_prime hp hx y]; simp)
      · exact prime_one hp y
    · exact disc_no hp (fun q hq => h q (List.mem_cons_of_mem _ hq)) (fun q => n (List.mem_cons_of_mem _ q)) y
theorem disc_split {p : Int} (hp : PrP p) : ∀ {l : List Int}, l.Pairwise (· < ·) → (∀ x ∈ l, x = 0 ∨ PrP x) → p ∈ l → ∃ q, discOf l = p * q ∧ ¬ p ∣ q
  | [], _, _, hm => by cases hm
  | x :: l, ha, h, hm => by
    obtain ⟨a1, a2⟩ := List.pairwise_cons.mp ha
    rcases List.mem_cons.mp hm with e | e
    · subst e
      have := hp.1
      refine ⟨discOf l, ?_, disc_no hp (fun q hq => h q (List.mem_cons_of_mem _ hq)) (fun z => by have := a1 p z; omega)⟩
      show (if p > 0 then p else 1) * discOf l = _
      rw [if_pos (by omega)]
    · obtain ⟨q, e1, e2⟩ := disc_split hp a2 (fun q hq => h q (List.mem_cons_of_mem _ hq)) e
      refine ⟨(if x > 0 then x else 1) * q, ?_, fun z => ?_⟩
      · show (if x > 0 then x else 1) * discOf l = _
        rw [e1]
        exact Int.mul_left_comm ..
      · rcases prime_mul hp z with y | y
        · split at y
          · have hx := (h x (by simp)).resolve_left (by omega)
            have := prime_dvd_prime hp hx y
            have := a1 p e
            omega
          · exact prime_one hp y
        · exact e2 y
theorem disc_dvd {M : Int} : ∀ {l : List Int}, l.Pairwise (· < ·) → (∀ x ∈ l, x = 0 ∨ PrP x) → (∀ x ∈ l, PrP x → x ∣ M) → discOf l ∣ M
  | [], _, _, _ => ⟨M, (Int.one_mul _).symm⟩
  | x :: l, ha, h, g => by
    obtain ⟨a1, a2⟩ := List.pairwise_cons.mp ha
    have h' : ∀ y ∈ l, y = 0 ∨ PrP y := fun q hq => h q (List.mem_cons_of_mem _ hq)
    obtain ⟨k, hk⟩ := disc_dvd (M := M) a2 h' fun q hq => g q (List.mem_cons_of_mem _ hq)
    show (if x > 0 then x else 1) * discOf l ∣ M
    split
    · have hx := (h x (by simp)).resolve_left (by omega)
      have d := g x (by simp) hx
      rw [hk] at d
      rcases prime_mul hx d with y | ⟨j, hj⟩
      · exact absurd y (disc_no hx h' fun z => by have := a1 x z; omega)
      · exact ⟨j, by rw [hk, hj, ← Int.mul_assoc, Int.mul_comm (discOf l)]⟩
    · exact ⟨k, by rw [hk, Int.one_mul]⟩
end Sf

namespace Sf
open PySem PySem.Spec PyProof.Rows L2
/-- no square of a prime divides it -/
def SqF (b : Int) : Prop := ∀ p, PrP p → ¬ p * p ∣ b
theorem keys_asc {l : List (Int × Nat)} (h : Sorted l) : (l.map (·.1)).Pairwise (· < ·) := List.pairwise_map.mpr h
theorem keys_ok {l : List (Int × Nat)} (h : Primes l) : ∀ x ∈ l.map (·.1), x = 0 ∨ PrP x := fun x hx => by
  obtain ⟨q, hq, rfl⟩ := List.mem_map.mp hx
  exact .inr (h q hq).1
/-- of a number without squares the product of the primes is the number -/
theorem disc_keys : ∀ {l : List (Int × Nat)}, Primes l → (∀ q ∈ l, q.2 = 1) → discOf (l.map (·.1)) = prodF l
  | [], _, _ => rfl
  | q :: l, h, g => by
    have ih := disc_keys (l := l) (fun r hr => h r (List.mem_cons_of_mem _ hr)) fun r hr => g r (List.mem_cons_of_mem _ hr)
    have p2 := (h q (by simp)).1.1
    show (if q.1 > 0 then q.1 else 1) * discOf (l.map (·.1)) = q.1 ^ q.2 * prodF l
    rw [if_pos (by omega), ih, g q (by simp), Int.pow_succ, Int.pow_zero, Int.one_mul]
theorem pow_dvd_prodF {l : List (Int × Nat)} {q : Int × Nat} (hq : q ∈ l) : q.1 ^ q.2 ∣ prodF l := by
  induction l with
  | nil => cases hq
  | cons x l ih =>
    show q.1 ^ q.2 ∣ x.1 ^ x.2 * prodF l
    rcases List.mem_cons.mp hq with e | e
    · rw [e]
      exact Int.dvd_mul_right ..
    · exact Int.dvd_trans (ih e) (Int.dvd_mul_left ..)
theorem sqf_one {b : Int} {l : List (Int × Nat)} (h : SqF b) (f : FactOf (absI b) l) : ∀ q ∈ l, q.2 = 1 := fun q hq => by
  obtain ⟨h1, h2⟩ := f.2.2 q hq
  rcases Nat.lt_or_ge q.2 2 with c | c
  · omega
  · exfalso
    refine h q.1 h1 ?_
    have d := pow_dvd_prodF hq
    rw [f.1] at d
    have e : q.2 = 2 + (q.2 - 2) := by omega
    rw [e, Int.pow_add] at d
    have d2 := Int.dvd_trans (Int.dvd_mul_right (q.1 ^ 2) (q.1 ^ (q.2 - 2))) d
    rw [Int.pow_succ, Int.pow_succ, Int.pow_zero, Int.one_mul] at d2
    unfold absI at d2
    split at d2
    · exact Int.dvd_neg.mp d2
    · exact d2
theorem disc_append : ∀ l m : List Int, discOf (l ++ m) = discOf l * discOf m
  | [], m => (Int.one_mul _).symm
  | x :: l, m => by
    show (if x > 0 then x else 1) * discOf (l ++ m) = (if x > 0 then x else 1) * discOf l * discOf m
    rw [disc_append l m, Int.mul_assoc]
theorem disc_take_le (l : List Int) (i : Nat) : discOf (l.take i) ≤ discOf l := by
  have e : discOf l = discOf (l.take i) * discOf (l.drop i) := by rw [← disc_append, List.take_append_drop]
  have h1 := disc_pos (l.take i)
  have h2 := disc_pos (l.drop i)
  rw [e]
  have := Int.mul_le_mul_of_nonneg_left (show 1 ≤ discOf (l.drop i) by omega) (show 0 ≤ discOf (l.take i) by omega)
  omega
/-- the inverse by a power -/
theorem inv_pow {p x : Int} (hp : PrP p) (h : ¬ p ∣ x) : Cg p (x * (x ^ (p - 2).toNat % p)) 1 := by
  have p2 := hp.1
  obtain ⟨n, rfl⟩ : ∃ n : Nat, p = n := ⟨p.toNat, by omega⟩
  have f := fermat hp h
  refine ((Cg.refl _ x).mul (cg_mod _ _)).trans ?_
  have e : x * x ^ ((n : Int) - 2).toNat = x ^ (n - 1) := by
    rw [Int.mul_comm, ← Int.pow_succ]
    congr 1
    omega
  rw [e]
  unfold Cg
  rw [f, Int.emod_eq_of_lt (by decide) (by omega)]
section
variable {P : Program} {w : World} {K : PySem.W.Frag} {mg : Str → Option Value} {base : Heap} {f : Addr} {fd : FuncData}
/-- a root of a number modulo one without squares -/
def spRootBy : Sp := fun vs H Q _ => ∃ n b : Int, vs = [.int n, .int b] ∧ b ≠ 0 ∧ b.natAbs ≤ 1000000000 ∧ n.natAbs ≤ 1000000000 ∧ SqF b ∧ (∀ p, PrP p → p ∣ b → p = 2 ∨ n % p = 0 ∨ restSign n p = 1) ∧
  ∀ (r : Int) (H' : Hp), 0 ≤ r → r < b.natAbs → b ∣ r * r - n → Same H H' → Q (.int r) H'
set_option maxHeartbeats 8000000 in
theorem ok_root_by (F : FnD K "root_by" "root_by" s_P_root_by f fd) (T : Glob mg) (C_P_prime_powers : Cal P w K mg base 2 "prime_powers" ["number"] spFactors) (C_P_root_modulo : Cal P w K mg base 4 "root_modulo" ["number", "prime"] spRootM) (C_P_power_modulo : Cal P w K mg base 1 "power_modulo" ["number", "many", "modulus"] spPowMod) : FnOk P w K mg base CX0 5 f fd ["number", "modulus"] spRootBy := by
  refine F.ok sc_P_root_by (fun vs H Q E h => ?_) (fun cdv A outer s H vs Q E hr h => ?_)
  · obtain ⟨n, b, rfl, _⟩ := h; rfl
  · obtain ⟨n, b, rfl, b0, b9, n9, hS, hn, q⟩ := h
    refine ⟨_, PSs.nox (pss_cons (ps_asg (pe_tup (pa_cons pe_int (pa_cons pe_int pa_nil))) (pg_tup (by rfl) (pgs_cons (pg_name (i := 2) sc_P_root_by.nd rfl (Or.inl rfl)) (pgs_cons (pg_name (i := 3) sc_P_root_by.nd rfl (Or.inl rfl)) pgs_nil))))
      (pss_cons (ps_for PassesOwn.never rfl (pi_keys (pe_frz (pe_cal C_P_prime_powers (hr.mono (by decide)) (pa_cons (pv 1) pa_nil)))) (pg_name (i := 4) sc_P_root_by.nd rfl (Or.inl rfl)) (pss_cons (ps_set (i := 5) sc_P_root_by.nd rfl (Or.inl rfl) (pe_op op_sub (pe_cal C_P_root_modulo (hr.mono (by decide)) (pa_cons (pv 0) (pa_cons (pv 4) pa_nil))) (pv 2)))
      (pss_cons (ps_set (i := 2) sc_P_root_by.nd rfl (Or.inl rfl) (pe_op op_add (pv 2) (pe_op op_mulW (pv 3) (pe_op op_mod (pe_op op_mulW (pv 5) (pe_cal C_P_power_modulo (hr.mono (by decide)) (pa_cons (pv 3) (pa_cons (pe_op op_sub (pv 4) pe_int) (pa_cons (pv 4) pa_nil))))) (pv 4)))))
      (pss_one (ps_set (i := 3) sc_P_root_by.nd rfl (Or.inl rfl) (pe_op op_mulW (pv 3) (pv 4)))))))
      (pss_one (ps_ret (pv 2))))), ?_⟩
    refine ⟨(by show 2 ≤ sizeLine; decide), fun t0 h0 => ⟨t0, _, rfl, SqT.of upd_same, rfl, _, _, rfl, _, _, rfl, rfl, ?_⟩⟩
    have s0 := same_upd (o := .tup [.int 0, .int 1]) h0
    generalize upd H t0 (.tup [.int 0, .int 1]) = H0 at *
    refine ⟨_, rfl, b, rfl, b0, by omega, by omega, fun l d H1 hf hs hd hdd => ?_⟩
    have hks := keys_asc hf.2.1
    have hok := keys_ok hf.2.2
    have hdk := disc_keys hf.2.2 (sqf_one hS hf)
    rw [hf.1] at hdk
    have eb : absI b = b.natAbs := by unfold absI; split <;> omega
    have s01 := s0.trans hs
    refine ⟨d, _, rfl, hdd, True.intro, fun od => ⟨d, od, rfl, .inl ⟨kvsF l, upd_same, ?_⟩⟩⟩
    have hs1 : Same H (upd H1 d (.frz od (.dK (kvsF l)))) := fun c o e => by
      rw [upd_ne (ne_of_none (s0 _ _ e) hd)]
      exact s01 c o e
    refine ⟨fun i c σ H' => ∃ (r : Int) (v4 v5 : Option V), σ = [some (.int n), some (.int b), some (.int r), some (.int (discOf ((l.map (·.1)).take i))), v4, v5] ∧ i + c = l.length ∧ Same H H' ∧ H' d = some (.frz od (.dK (kvsF l))) ∧ 0 ≤ r ∧ r < discOf ((l.map (·.1)).take i) ∧ ∀ p ∈ (l.map (·.1)).take i, p ∣ r * r - n, ⟨l.length, 0, none, none, rfl, by omega, hs1, upd_same, by decide, by show (0 : Int) < 1; decide, fun p hp => by cases hp⟩, ?_⟩
    rintro i c σ H' ⟨r, v4, v5, rfl, hc, hs', hd', r0, r1, hr'⟩
    by_cases hi : i < l.length
    · refine .inr ⟨⟨hd', by rw [kvsF_len]; exact hi⟩, _, fun _ _ z => z, fun x H2 hy => ?_⟩
      obtain ⟨rfl, k, v, e1, rfl⟩ := hy
      have ek : ((Sum.inl l[i].1 : Key), V.int l[i].2) = (k, v) := by
        unfold kvsF at e1
        rw [List.getElem?_map, List.getElem?_eq_getElem hi] at e1
        exact Option.some.inj e1
      cases ek
      obtain ⟨hp, _⟩ := hf.2.2 l[i] (List.getElem_mem hi)
      have hpi : (l.map (·.1))[i]? = some l[i].1 := by rw [List.getElem?_map, List.getElem?_eq_getElem hi]; rfl
      have et : (l.map (·.1)).take (i + 1) = (l.map (·.1)).take i ++ [l[i].1] := by rw [List.take_add_one, hpi]; rfl
      have np : l[i].1 ∉ (l.map (·.1)).take i := fun z => by
        have hk := hks
        rw [← List.take_append_drop (i + 1) (l.map (·.1)), et] at hk
        have := (List.pairwise_append.mp (List.pairwise_append.mp hk).1).2.2 _ z _ (List.mem_singleton.mpr rfl)
        omega
      have dle := disc_take_le (l.map (·.1)) (i + 1)
      rw [hdk, eb, et, disc_snoc] at dle
      have R0 := disc_pos ((l.map (·.1)).take i)
      have dvp : l[i].1 ∣ b := by
        have : l[i].1 ∣ discOf (l.map (·.1)) := by
          obtain ⟨u, e, _⟩ := disc_split hp hks hok (List.mem_of_getElem? hpi)
          exact ⟨u, e⟩
        rw [hdk, eb] at this
        exact Int.dvd_natAbs.mp this
      have nR : ¬ l[i].1 ∣ discOf ((l.map (·.1)).take i) := disc_no hp (fun x hx => hok x (List.mem_of_mem_take hx)) np
      generalize hR : discOf ((l.map (·.1)).take i) = R at *
      have hq : ∀ q ∈ (l.map (·.1)).take i, q ∣ R := fun q hq => by
        have hq' := hok q (List.mem_of_mem_take hq)
        have qp : PrP q := hq'.resolve_left fun z => by
          obtain ⟨x, hx, e⟩ := List.mem_map.mp (List.mem_of_mem_take hq)
          have := (hf.2.2 x hx).1.1
          omega
        obtain ⟨u, e, _⟩ := disc_split qp (hks.sublist (List.take_sublist _ _)) (fun x hx => hok x (List.mem_of_mem_take hx)) hq
        exact ⟨u, hR ▸ e⟩
      generalize l[i].1 = p at *
      have p2' := hp.1
      rw [if_pos (by omega)] at dle
      have pR : p ≤ R * p := by
        have := Int.mul_le_mul_of_nonneg_right (show 1 ≤ R by omega) (show 0 ≤ p by omega)
        omega
      have RR : R ≤ R * p := by
        have := Int.mul_le_mul_of_nonneg_left (show 1 ≤ p by omega) (show 0 ≤ R by omega)
        omega
      refine ⟨_, rfl, _, rfl, n, p, rfl, hp, by omega, hn p hp dvp, fun s H3 s0' s1' hs2 e3 => ?_⟩
      refine ⟨_, rfl, _, _, rfl, rfl, ?_⟩
      refine ⟨_, rfl, _, rfl, _, rfl, _, rfl, _, rfl, _, _, rfl, rfl, _, rfl, R, p - 2, p, rfl, by omega, by omega, lt9 (by omega), ?_⟩
      have iv := inv_pow hp nR
      generalize hI : R ^ (p - 2).toNat % p = I at *
      have I0 : 0 ≤ I := hI ▸ Int.emod_nonneg _ (by omega)
      have I1 : I < p := hI ▸ Int.emod_lt_of_pos _ (by omega)
      have T0 := Int.emod_nonneg ((s - r) * I) (by omega : p ≠ 0)
      have T1 := Int.emod_lt_of_pos ((s - r) * I) (by omega : 0 < p)
      have cg : Cg p (R * ((s - r) * I % p)) (s - r) := by
        refine ((Cg.refl p R).mul (cg_mod p _)).trans ?_
        rw [Int.mul_left_comm]
        have := (Cg.refl p (s - r)).mul iv
        rwa [Int.mul_one] at this
      generalize hT : (s - r) * I % p = t at *
      have Rt0 := Int.mul_nonneg (show 0 ≤ R by omega) T0
      have Rt : R * t ≤ R * (p - 1) := Int.mul_le_mul_of_nonneg_left (by omega) (by omega)
      rw [Int.mul_sub, Int.mul_one] at Rt
      refine ⟨_, _, rfl, rfl, cmul9 (by omega) (by omega), _, rfl, _, _, rfl, rfl, (by omega), ?_⟩
      refine ⟨R, t, rfl, congrArg V.int hT, cmul9 (by omega) (by omega), r, R * t, rfl, rfl, ?_⟩
      refine ⟨_, rfl, _, rfl, _, _, rfl, rfl, cmul9 (by omega) (by omega), ?_⟩
      refine ⟨c - 1, by omega, r + R * t, some (.int p), some (.int (s - r)), ?_, by omega, hs'.trans e3, e3 _ _ hd', by omega, ?_, fun q hq' => ?_⟩
      · rw [et, disc_snoc, hR, if_pos (by omega)]
        rfl
      · rw [et, disc_snoc, hR, if_pos (by omega)]
        omega
      · rw [et] at hq'
        rcases List.mem_append.mp hq' with k | k
        · have e : (r + R * t) * (r + R * t) - n = (r * r - n) + R * (t * (2 * r + R * t)) := by grind
          rw [e]
          exact Int.dvd_add (hr' q k) (Int.dvd_trans (hq q k) (Int.dvd_mul_right ..))
        · have eq : q = p := by simpa using k
          rw [eq]
          have c2 := cg_dvd.mp cg
          have e : (r + R * t) * (r + R * t) - n = (s * s - n) + (R * t - (s - r)) * (r + R * t + s) := by grind
          rw [e]
          exact Int.dvd_add hs2 (Int.dvd_trans c2 (Int.dvd_mul_right ..))
    · refine .inl ⟨⟨hd', by rw [kvsF_len]; omega⟩, ?_⟩
      have ei : (l.map (·.1)).take i = l.map (·.1) := List.take_of_length_le (by rw [List.length_map]; omega)
      rw [ei] at r1 hr'
      rw [hdk, eb] at r1
      refine ⟨_, rfl, q r H' r0 r1 ?_ hs'⟩
      have dv := disc_dvd (M := r * r - n) hks hok fun x hx _ => hr' x hx
      rw [hdk, eb] at dv
      exact Int.natAbs_dvd.mp dv
end
end Sf

namespace Sf
open PySem PySem.Spec PyProof.Rows L2
/-! the reduction of two pairs (Lagrange, Gauss) -/
def nL (A z x : Int) : Int := z * z + A * x * x
def ipL (A z x u v : Int) : Int := z * u + A * x * v
theorem nL_pos {A z x : Int} (hA : 1 ≤ A) (h : ¬ (z = 0 ∧ x = 0)) : 0 < nL A z x := by
  unfold nL
  have h1 : 0 ≤ z * z := by rw [← Int.natAbs_mul_self]; omega
  have h2 : 0 ≤ x * x := by rw [← Int.natAbs_mul_self]; omega
  have h3 : x * x ≤ A * (x * x) := by
    have := Int.mul_le_mul_of_nonneg_right hA h2
    omega
  rw [Int.mul_assoc]
  by_cases c : z = 0
  · have x0 : x ≠ 0 := fun e => h ⟨c, e⟩
    have : 0 < x * x := by
      rcases Int.lt_or_gt_of_ne x0 with k | k
      · exact Int.mul_pos_of_neg_of_neg k k
      · exact Int.mul_pos k k
    omega
  · have : 0 < z * z := by
      rcases Int.lt_or_gt_of_ne c with k | k
      · exact Int.mul_pos_of_neg_of_neg k k
      · exact Int.mul_pos k k
    omega
theorem abs_le_sq (z : Int) : (z.natAbs : Int) ≤ z * z := by
  have e : z * z = ((z.natAbs * z.natAbs : Nat) : Int) := (Int.natAbs_mul_self (a := z)).symm
  rw [e]
  have : z.natAbs ≤ z.natAbs * z.natAbs := Nat.le_mul_self _
  omega
theorem nL_bd {A z x M : Int} (hA : 1 ≤ A) (h : nL A z x ≤ M) : (z.natAbs : Int) ≤ M ∧ (x.natAbs : Int) ≤ M := by
  unfold nL at h
  have h1 := abs_le_sq z
  have h2 := abs_le_sq x
  have h3 : x * x ≤ A * (x * x) := by
    have := Int.mul_le_mul_of_nonneg_right hA (show 0 ≤ x * x by omega)
    omega
  rw [Int.mul_assoc] at h
  omega
theorem lagrange (A z x u v : Int) : nL A z x * nL A u v = ipL A z x u v * ipL A z x u v + A * ((z * v - u * x) * (z * v - u * x)) := by
  unfold nL ipL
  grind
/-- what the nearest multiple does -/
theorem near_mult {N2 ip N m : Int} (hN : 0 < N) (hm : m = (2 * ip + N) / (2 * N)) : (- N ≤ 2 * (ip - m * N) ∧ 2 * (ip - m * N) < N) ∧
    (m ≠ 0 → 2 * (N2 - 2 * m * ip + m * m * N) + (if 0 < ip - m * N then 1 else 0) < 2 * N2 + (if 0 < ip then 1 else 0)) ∧ N2 - 2 * m * ip + m * m * N ≤ N2 := by
  have e := Int.mul_ediv_add_emod (2 * ip + N) (2 * N)
  have r0 := Int.emod_nonneg (2 * ip + N) (by omega : 2 * N ≠ 0)
  have r1 := Int.emod_lt_of_pos (2 * ip + N) (by omega : 0 < 2 * N)
  rw [← hm] at e
  have e2 : 2 * N * m = 2 * (m * N) := by grind
  rw [e2] at e
  have k1 : - N ≤ 2 * (ip - m * N) := by omega
  have k2 : 2 * (ip - m * N) < N := by omega
  have ex : N2 - 2 * m * ip + m * m * N = N2 - m * (2 * (ip - m * N) + m * N) := by grind
  rw [ex]
  generalize hj : ip - m * N = j at *
  refine ⟨⟨k1, k2⟩, ?_⟩
  rcases Int.lt_trichotomy m 0 with c | c | c
  · have h1 : m * N ≤ -1 * N := Int.mul_le_mul_of_nonneg_right (by omega) (by omega)
    have h2 : 2 * j + m * N < 0 := by omega
    have h3 : 0 < m * (2 * j + m * N) := Int.mul_pos_of_neg_of_neg c h2
    refine ⟨fun _ => ?_, by omega⟩
    split <;> split <;> omega
  · subst c
    refine ⟨fun h => absurd rfl h, by omega⟩
  · have h1 : 1 * N ≤ m * N := Int.mul_le_mul_of_nonneg_right (by omega) (by omega)
    have h2 : 0 ≤ 2 * j + m * N := by omega
    have h3 : 0 ≤ m * (2 * j + m * N) := Int.mul_nonneg (by omega) h2
    refine ⟨fun _ => ?_, by omega⟩
    by_cases z : 2 * j + m * N = 0
    · have j0 : ¬ 0 < j := by omega
      have i0 : 0 < ip := by omega
      rw [if_neg j0, if_pos i0, z, Int.mul_zero]
      omega
    · have : 0 < m * (2 * j + m * N) := Int.mul_pos c (by omega)
      split <;> split <;> omega
/-- the bound of the first pair at the end -/
theorem least_bound {A z x u v b : Int} (hA : 1 ≤ A) (h0 : 0 ≤ nL A z x) (h1 : nL A z x ≤ nL A u v) (h2 : - nL A z x ≤ 2 * ipL A z x u v) (h3 : 2 * ipL A z x u v < nL A z x) (d : (z * v - u * x) * (z * v - u * x) = b * b) :
    3 * (nL A z x * nL A z x) ≤ 4 * (A * (b * b)) := by
  have l := lagrange A z x u v
  rw [d] at l
  generalize nL A z x = N at *
  generalize nL A u v = M at *
  generalize ipL A z x u v = i at *
  generalize A * (b * b) = W at *
  have k1 : N * N ≤ N * M := Int.mul_le_mul_of_nonneg_left h1 h0
  have k2 : 0 ≤ (N - 2 * i) * (N + 2 * i) := Int.mul_nonneg (by omega) (by omega)
  have k3 : (N - 2 * i) * (N + 2 * i) = N * N - 4 * (i * i) := by grind
  omega
end Sf

namespace Sf
open PySem PySem.Spec PyProof.Rows L2
section
variable {P : Program} {w : World} {K : PySem.W.Frag} {mg : Str → Option Value} {base : Heap} {f : Addr} {fd : FuncData}
theorem cmulB {i j : Int} {m n : Nat} (h1 : (i.natAbs : Int) ≤ 2 ^ m) (h2 : (j.natAbs : Int) ≤ 2 ^ n) (hm : m ≤ 1000) (hn : n ≤ 1000) : CMulW i j := by
  have key : ∀ {i : Int} {m : Nat}, (i.natAbs : Int) ≤ 2 ^ m → m ≤ 1000 → i.natAbs < 2 ^ 3000 := fun {i m} h hm => by
    have e : ((2 ^ m : Nat) : Int) = 2 ^ m := by rw [Int.natCast_pow]; rfl
    have h' : i.natAbs ≤ 2 ^ m := by omega
    exact Nat.lt_of_le_of_lt h' (Nat.pow_lt_pow_right (by decide) (by omega))
  exact CMulW.of (key h1 hm) (key h2 hn)
theorem natAbs_mul_le {i j a b : Int} (h1 : (i.natAbs : Int) ≤ a) (h2 : (j.natAbs : Int) ≤ b) : ((i * j).natAbs : Int) ≤ a * b := by
  rw [Int.natAbs_mul, Int.natCast_mul]
  exact Int.mul_le_mul h1 h2 (by omega) (by omega)
def spPairL : Sp := fun vs H Q _ => ∃ (a z x : Int) (t : Addr), vs = [.int a, .ref t] ∧ H t = some (.tup [.int z, .int x]) ∧ (a.natAbs : Int) ≤ 2 ^ 40 ∧ (z.natAbs : Int) ≤ 2 ^ 90 ∧ (x.natAbs : Int) ≤ 2 ^ 90 ∧ Q (.int (nL (absI a) z x)) H
theorem ok_pair_length (F : FnD K "pair_length" "pair_length" s_P_pair_length f fd) (T : Glob mg) : FnOk P w K mg base CX0 1 f fd ["a", "pair"] spPairL := by
  refine F.ok sc_P_pair_length (fun vs H Q E h => ?_) (fun cdv A outer s H vs Q E hr h => ?_)
  · obtain ⟨a, z, x, t, rfl, _⟩ := h; rfl
  · obtain ⟨a, z, x, t, rfl, ht, ha, hz, hx, q⟩ := h
    refine ⟨_, PSs.nox (pss_one (ps_ret (pe_op op_add (pe_op op_mulW (pe_ix ix_tup (pv 1) pe_int (fun _ _ => rfl)) (pe_ix ix_tup (pv 1) pe_int (fun _ _ => rfl))) (pe_op op_mulW (pe_op op_mulW (pe_callB call_abs (by rfl) T.m_abs (by decide +kernel) (pa_cons (pv 0) pa_nil)) (pe_ix ix_tup (pv 1) pe_int (fun _ _ => rfl))) (pe_ix ix_tup (pv 1) pe_int (fun _ _ => rfl)))))), ?_⟩
    have hA : ((if a < 0 then -a else a).natAbs : Int) ≤ 2 ^ 40 := by split <;> omega
    have hAx := natAbs_mul_le hA hx
    refine ⟨_, rfl, t, _, 0, .int z, rfl, rfl, SqT.of ht, rfl, _, rfl, t, _, 0, .int z, rfl, rfl, SqT.of ht, rfl, _, _, rfl, rfl, cmulB hz hz (by decide) (by decide), ?_⟩
    refine ⟨_, rfl, a, rfl, _, rfl, t, _, 1, .int x, rfl, rfl, SqT.of ht, rfl, _, _, rfl, rfl, cmulB hA hx (by decide) (by decide), _, rfl, t, _, 1, .int x, rfl, rfl, SqT.of ht, rfl, _, _, rfl, rfl, cmulB (m := 130) (Int.le_trans hAx (by decide)) hx (by decide) (by decide), _, _, rfl, rfl, ?_⟩
    exact q
/-- what is told of a pair: the first number is r times the second one modulo b -/
structure PrAt (H : Hp) (t : Addr) (r b M A z x : Int) : Prop where
  at_ : H t = some (.tup [.int z, .int x])
  dv : b ∣ z - r * x
  le : nL A z x ≤ M
def spLeastP : Sp := fun vs H Q _ => ∃ a b : Int, vs = [.int a, .int b] ∧ a ≠ 0 ∧ b ≠ 0 ∧ a.natAbs ≤ 1000000000 ∧ b.natAbs ≤ 1000000000 ∧ SqF b ∧ (∀ p, PrP p → p ∣ b → p = 2 ∨ a % p = 0 ∨ restSign a p = 1) ∧
  ∀ (z x : Int) (t : Addr) (H' : Hp), b ∣ z * z - a * x * x → ¬ (z = 0 ∧ x = 0) → 3 * (nL (absI a) z x * nL (absI a) z x) ≤ 4 * (absI a * (b * b)) → Same H H' → H' t = some (.tup [.int z, .int x]) → Q (.ref t) H'
set_option maxHeartbeats 8000000 in
theorem ok_least_pair (F : FnD K "least_pair" "least_pair" s_P_least_pair f fd) (T : Glob mg) (C_P_root_by : Cal P w K mg base 5 "root_by" ["number", "modulus"] spRootBy) (C_P_pair_length : Cal P w K mg base 1 "pair_length" ["a", "pair"] spPairL) : FnOk P w K mg base CX0 6 f fd ["a", "b"] spLeastP := by
  refine F.ok sc_P_least_pair (fun vs H Q E h => ?_) (fun cdv A outer s H vs Q E hr h => ?_)
  · obtain ⟨a, b, rfl, _⟩ := h; rfl
  · obtain ⟨a, b, rfl, a0, b0, a9, b9, hS, hc, q⟩ := h
    refine ⟨_, PSs.nox (pss_cons (ps_par (i := 2) (j := 3) (by rfl) sc_P_least_pair.nd rfl rfl (by decide) rfl rfl (pa_cons (pe_tup (pa_cons (pe_callB call_abs (by rfl) T.m_abs (by decide +kernel) (pa_cons (pv 1) pa_nil)) (pa_cons pe_int pa_nil))) (pa_cons (pe_tup (pa_cons (pe_cal C_P_root_by (hr.mono (by decide)) (pa_cons (pv 0) (pa_cons (pv 1) pa_nil))) (pa_cons pe_int pa_nil))) pa_nil)) (by rfl))
      (pss_cons (ps_set (i := 4) sc_P_least_pair.nd rfl (Or.inl rfl) pe_int)
      (pss_cons (ps_while PassesOwn.never (pt_cmp (pc_neI (pv 4) pe_int)) (Evl.pss_cut (ps_if (pt_cmp (pc_lt (pe_cal C_P_pair_length (hr.mono (by decide)) (pa_cons (pv 0) (pa_cons (pv 3) pa_nil))) (pe_cal C_P_pair_length (hr.mono (by decide)) (pa_cons (pv 0) (pa_cons (pv 2) pa_nil))))) (pss_one (ps_par (i := 2) (j := 3) (by rfl) sc_P_least_pair.nd rfl rfl (by decide) rfl rfl (pa_cons (pv 3) (pa_cons (pv 2) pa_nil)) (by rfl))) pss_nil)
      (pss_cons (ps_set (i := 5) sc_P_least_pair.nd rfl (Or.inl rfl) (pe_cal C_P_pair_length (hr.mono (by decide)) (pa_cons (pv 0) (pa_cons (pv 2) pa_nil))))
      (pss_cons (ps_set (i := 4) sc_P_least_pair.nd rfl (Or.inl rfl) (pe_op op_fdivW (pe_op op_add (pe_op op_mulW pe_int (pe_op op_add (pe_op op_mulW (pe_ix ix_tup (pv 2) pe_int (fun _ _ => rfl)) (pe_ix ix_tup (pv 3) pe_int (fun _ _ => rfl))) (pe_op op_mulW (pe_op op_mulW (pe_callB call_abs (by rfl) T.m_abs (by decide +kernel) (pa_cons (pv 0) pa_nil)) (pe_ix ix_tup (pv 2) pe_int (fun _ _ => rfl))) (pe_ix ix_tup (pv 3) pe_int (fun _ _ => rfl))))) (pv 5)) (pe_op op_mulW pe_int (pv 5))))
      (pss_one (ps_set (i := 3) sc_P_least_pair.nd rfl (Or.inl rfl) (pe_tup (pa_cons (pe_op op_sub (pe_ix ix_tup (pv 3) pe_int (fun _ _ => rfl)) (pe_op op_mulW (pv 4) (pe_ix ix_tup (pv 2) pe_int (fun _ _ => rfl)))) (pa_cons (pe_op op_sub (pe_ix ix_tup (pv 3) pe_int (fun _ _ => rfl)) (pe_op op_mulW (pv 4) (pe_ix ix_tup (pv 2) pe_int (fun _ _ => rfl)))) pa_nil)))))))))
      (pss_one (ps_ret (pv 2)))))), ?_⟩
    have eA : (if b < 0 then -b else b) = absI b := rfl
    refine ⟨_, rfl, b, rfl, (by show 2 ≤ sizeLine; decide), fun t1 h1 => ?_⟩
    have s1 := same_upd (o := .tup [.int (absI b), .int 0]) h1
    have g1 : upd H t1 (.tup [.int (absI b), .int 0]) t1 = some (.tup [.int (absI b), .int 0]) := upd_same
    generalize hH1 : upd H t1 _ = H1
    rw [show upd H t1 (.tup [.int (absI b), .int 0]) = H1 from hH1] at s1 g1
    refine ⟨_, rfl, _, rfl, a, b, rfl, b0, b9, a9, hS, hc, fun r H2 r0 r1 hrr e2 => ?_⟩
    refine ⟨(by show 2 ≤ sizeLine; decide), fun t2 h2 => ⟨_, _, rfl, ?_⟩⟩
    have s2 := same_upd (o := .tup [.int r, .int 1]) h2
    have g2 : upd H2 t2 (.tup [.int r, .int 1]) t2 = some (.tup [.int r, .int 1]) := upd_same
    generalize upd H2 t2 (.tup [.int r, .int 1]) = H3 at *
    have s123 := (s1.trans e2).trans s2
    replace g1 := s2 _ _ (e2 _ _ g1)
    have hA : 1 ≤ absI a := by unfold absI; split <;> omega
    have hA9 : absI a ≤ 1000000000 := by unfold absI; split <;> omega
    have hB9 : absI b ≤ 1000000000 := by unfold absI; split <;> omega
    have hBb : absI b * absI b = b * b := by unfold absI; split <;> grind
    have bb : b * b ≤ 1000000000 * 1000000000 := by
      rw [← hBb]
      exact Int.mul_le_mul hB9 hB9 (by unfold absI; split <;> omega) (by decide)
    have rr : r * r ≤ 1000000000 * 1000000000 := Int.mul_le_mul (by omega) (by omega) r0 (by decide)
    have M9 : ∀ {x : Int}, x ≤ 2000000000000000000 → x ≤ 2 ^ 62 := fun h => Int.le_trans h (by decide)
    refine ⟨fun c σ H' => Same H H' ∧ ∃ (o1 o2 : Addr) (z x u v : Int) (m : Int) (v5 : Option V), σ = [some (.int a), some (.int b), some (.ref o1), some (.ref o2), some (.int m), v5] ∧ PrAt H' o1 r b 2000000000000000000 (absI a) z x ∧ PrAt H' o2 r b 2000000000000000000 (absI a) u v ∧ (z * v - u * x) * (z * v - u * x) = b * b ∧
      (m = 0 → nL (absI a) z x ≤ nL (absI a) u v ∧ - nL (absI a) z x ≤ 2 * ipL (absI a) z x u v ∧ 2 * ipL (absI a) z x u v < nL (absI a) z x) ∧
      c = (if m = 0 then 0 else (1 + 2 * (nL (absI a) z x + nL (absI a) u v) + if 0 < ipL (absI a) z x u v then 1 else 0)).toNat,
      ⟨_, s123, t1, t2, absI b, 0, r, 1, 1, none, rfl, ⟨g1, ?_, ?_⟩, ⟨g2, by rw [Int.mul_one, Int.sub_self]; exact Int.dvd_zero b, ?_⟩, ?_, fun z => absurd z (by decide), rfl⟩, ?_⟩
    · rw [Int.mul_zero, Int.sub_zero]
      unfold absI
      split
      · exact Int.dvd_neg.mpr (Int.dvd_refl b)
      · exact Int.dvd_refl b
    · unfold nL
      rw [hBb, Int.mul_zero, Int.add_zero]
      omega
    · unfold nL
      rw [Int.mul_one, Int.mul_one]
      omega
    · rw [Int.mul_one, Int.mul_zero, Int.sub_zero]
      exact hBb
    rintro c σ H4 ⟨e4, o1, o2, z, x, u, v, m, v5, rfl, P1, P2, hd, hm, rfl⟩
    refine ⟨_, rfl, _, _, rfl, rfl, _, rfl, ifn (fun h => ⟨_, fun _ _ z => z, ?_⟩) (fun h => ?_)⟩
    · have h : m ≠ 0 := h
      have a40 : (a.natAbs : Int) ≤ 2 ^ 40 := Int.le_trans (by omega : _ ≤ (1000000000 : Int)) (by decide)
      have pb : ∀ {t : Addr} {z x : Int}, PrAt H4 t r b 2000000000000000000 (absI a) z x → (z.natAbs : Int) ≤ 2 ^ 62 ∧ (x.natAbs : Int) ≤ 2 ^ 62 := fun h => by
        have := nL_bd hA h.le
        exact ⟨M9 this.1, M9 this.2⟩
      have up : ∀ {i : Int} {m : Nat}, i ≤ 2 ^ 62 → i ≤ 2 ^ 90 := fun h => Int.le_trans h (by decide)
      have ips : ipL (absI a) u v z x = ipL (absI a) z x u v := by unfold ipL; grind
      refine ⟨fun σ H' => H4 = H' ∧ ∃ (o1 o2 : Addr) (z' x' u' v' : Int), σ = [some (.int a), some (.int b), some (.ref o1), some (.ref o2), some (.int m), v5] ∧ PrAt H4 o1 r b 2000000000000000000 (absI a) z' x' ∧ PrAt H4 o2 r b 2000000000000000000 (absI a) u' v' ∧ (z' * v' - u' * x') * (z' * v' - u' * x') = b * b ∧ nL (absI a) z' x' ≤ nL (absI a) u' v' ∧
        nL (absI a) z' x' + nL (absI a) u' v' = nL (absI a) z x + nL (absI a) u v ∧ ipL (absI a) z' x' u' v' = ipL (absI a) z x u v, ?_, ?_⟩
      · have b1 := pb P1
        have b2 := pb P2
        refine ⟨_, rfl, _, rfl, a, u, v, o2, rfl, P2.at_, a40, up b2.1 (m := 0), up b2.2 (m := 0), ?_⟩
        refine ⟨_, rfl, _, rfl, a, z, x, o1, rfl, P1.at_, a40, up b1.1 (m := 0), up b1.2 (m := 0), ?_⟩
        refine ⟨_, _, rfl, rfl, _, rfl, ifd (fun k => ?_) (fun k => ?_)⟩
        · have k : nL (absI a) u v < nL (absI a) z x := k
          refine ⟨_, rfl, _, rfl, _, _, rfl, rfl, o2, o1, u, v, z, x, rfl, P2, P1, ?_, by omega, by omega, ips⟩
          rw [← hd]
          grind
        · have k : ¬ nL (absI a) u v < nL (absI a) z x := k
          exact ⟨rfl, o1, o2, z, x, u, v, rfl, P1, P2, hd, by omega, rfl, rfl⟩
      rintro σ _ ⟨rfl, o1, o2, z', x', u', v', rfl, P1, P2, hd', hle, hsum, hip⟩
      have b1 := pb P1
      have b2 := pb P2
      refine ⟨_, rfl, _, rfl, a, z', x', o1, rfl, P1.at_, a40, up b1.1 (m := 0), up b1.2 (m := 0), ?_⟩
      have S1 := SqT.of (K := K) P1.at_
      have S2 := SqT.of (K := K) P2.at_
      have hA40 : ((if a < 0 then -a else a).natAbs : Int) ≤ 2 ^ 40 := by split <;> omega
      have hAx := Int.le_trans (natAbs_mul_le hA40 b1.2) (show (2 : Int) ^ 40 * 2 ^ 62 ≤ 2 ^ 110 by decide)
      have hAxv := Int.le_trans (natAbs_mul_le hAx b2.2) (show (2 : Int) ^ 110 * 2 ^ 62 ≤ 2 ^ 180 by decide)
      have hzu := Int.le_trans (natAbs_mul_le b1.1 b2.1) (show (2 : Int) ^ 62 * 2 ^ 62 ≤ 2 ^ 180 by decide)
      refine ⟨_, rfl, o1, _, 0, .int z', rfl, rfl, S1, rfl, _, rfl, o2, _, 0, .int u', rfl, rfl, S2, rfl, _, _, rfl, rfl, cmulB b1.1 b2.1 (by decide) (by decide), ?_⟩
      refine ⟨_, rfl, a, rfl, _, rfl, o1, _, 1, .int x', rfl, rfl, S1, rfl, _, _, rfl, rfl, cmulB hA40 b1.2 (by decide) (by decide), _, rfl, o2, _, 1, .int v', rfl, rfl, S2, rfl, _, _, rfl, rfl, cmulB hAx b2.2 (by decide) (by decide), _, _, rfl, rfl, ?_⟩
      have nz : ¬ (z' = 0 ∧ x' = 0) := fun ⟨e1, e2⟩ => by
        rw [e1, e2, Int.zero_mul, Int.mul_zero, Int.sub_zero] at hd'
        have : b * b ≠ 0 := Int.mul_ne_zero b0 b0
        omega
      have L0 := nL_pos hA nz
      have L1 := P1.le
      have hL : ((nL (absI a) z' x').natAbs : Int) ≤ 2 ^ 180 := by
        rw [Int.natAbs_of_nonneg (Int.le_of_lt L0)]
        exact Int.le_trans L1 (by decide)
      have hipb : ((ipL (absI a) z' x' u' v').natAbs : Int) ≤ 2 ^ 182 := by
        have e : ipL (absI a) z' x' u' v' = z' * u' + (if a < 0 then -a else a) * x' * v' := rfl
        have p180 : (2 : Int) ^ 180 + 2 ^ 180 ≤ 2 ^ 182 := by decide
        rw [e]
        generalize (2 : Int) ^ 180 = W at *
        generalize (2 : Int) ^ 182 = W2 at *
        omega
      refine ⟨2, ipL (absI a) z' x' u' v', rfl, rfl, cmulB (m := 2) (by decide) hipb (by decide) (by decide), _, rfl, 2 * ipL (absI a) z' x' u' v', nL (absI a) z' x', rfl, rfl, _, rfl, 2, nL (absI a) z' x', rfl, rfl, cmulB (m := 2) (by decide) hL (by decide) (by decide), _, _, rfl, rfl, CDivW.of (by omega) ?_, ?_⟩
      · have : (2 * nL (absI a) z' x').natAbs ≤ 2 ^ 182 := by
          have p180 : (2 : Int) ^ 180 + 2 ^ 180 ≤ 2 ^ 182 := by decide
          have e : ((2 ^ 182 : Nat) : Int) = 2 ^ 182 := by rw [Int.natCast_pow]; rfl
          generalize (2 : Int) ^ 180 = W at *
          generalize (2 : Int) ^ 182 = W2 at *
          omega
        exact Nat.lt_of_le_of_lt this (Nat.pow_lt_pow_right (by decide) (by decide))
      have nm := fun N2 => near_mult (N2 := N2) L0 (m := (2 * ipL (absI a) z' x' u' v' + nL (absI a) z' x') / (2 * nL (absI a) z' x')) rfl
      have hmb : (((2 * ipL (absI a) z' x' u' v' + nL (absI a) z' x') / (2 * nL (absI a) z' x')).natAbs : Int) ≤ 2 ^ 184 := by
        have h1 := Int.natAbs_ediv_le_natAbs (2 * ipL (absI a) z' x' u' v' + nL (absI a) z' x') (2 * nL (absI a) z' x')
        have p : 2 * (2 : Int) ^ 182 + 2 ^ 180 ≤ 2 ^ 184 := by decide
        generalize (2 : Int) ^ 180 = W at *
        generalize (2 : Int) ^ 182 = W2 at *
        generalize (2 : Int) ^ 184 = W4 at *
        omega
      show gName 4 (V.int ((2 * ipL (absI a) z' x' u' v' + nL (absI a) z' x') / (2 * nL (absI a) z' x'))) _ _ _
      generalize (2 * ipL (absI a) z' x' u' v' + nL (absI a) z' x') / (2 * nL (absI a) z' x') = m' at *
      obtain ⟨⟨k1, k2⟩, k3, k4⟩ := nm (nL (absI a) u' v')
      have eN : nL (absI a) (u' - m' * z') (v' - m' * x') = nL (absI a) u' v' - 2 * m' * ipL (absI a) z' x' u' v' + m' * m' * nL (absI a) z' x' := by unfold nL ipL; grind
      have ei : ipL (absI a) z' x' (u' - m' * z') (v' - m' * x') = ipL (absI a) z' x' u' v' - m' * nL (absI a) z' x' := by unfold nL ipL; grind
      rw [← eN] at k3 k4
      rw [← ei] at k1 k2 k3
      refine ⟨_, rfl, o2, _, 0, .int u', rfl, rfl, S2, rfl, _, rfl, _, rfl, o1, _, 0, .int z', rfl, rfl, S1, rfl, _, _, rfl, rfl, cmulB hmb b1.1 (by decide) (by decide), _, _, rfl, rfl, ?_⟩
      refine ⟨_, rfl, o2, _, 1, .int v', rfl, rfl, S2, rfl, _, rfl, _, rfl, o1, _, 1, .int x', rfl, rfl, S1, rfl, _, _, rfl, rfl, cmulB hmb b1.2 (by decide) (by decide), _, _, rfl, rfl, (by show 2 ≤ sizeLine; decide), fun t ht => ?_⟩
      have st := same_upd (o := .tup [.int (u' - m' * z'), .int (v' - m' * x')]) ht
      refine ⟨_, ?_, e4.trans st, o1, t, z', x', u' - m' * z', v' - m' * x', m', _, rfl, ⟨st _ _ P1.at_, P1.dv, P1.le⟩, ⟨upd_same, ?_, ?_⟩, ?_, fun e0 => ?_, rfl⟩
      · rw [if_neg h]
        by_cases c : m' = 0
        · rw [if_pos c]
          have := P1.le
          have := nL_pos hA nz
          split <;> omega
        · have := k3 c
          rw [if_neg c, ← hsum, ← hip]
          generalize nL (absI a) z' x' = N1 at *
          generalize nL (absI a) u' v' = N2 at *
          generalize nL (absI a) (u' - m' * z') (v' - m' * x') = N3 at *
          generalize ipL (absI a) z' x' (u' - m' * z') (v' - m' * x') = i3 at *
          generalize ipL (absI a) z' x' u' v' = i2 at *
          have f2 : 0 ≤ (if 0 < i2 then (1 : Int) else 0) := by split <;> decide
          generalize (if 0 < i2 then (1 : Int) else 0) = g2 at *
          generalize (if 0 < i3 then (1 : Int) else 0) = g3 at *
          omega
      · have e : u' - m' * z' - r * (v' - m' * x') = (u' - r * v') - m' * (z' - r * x') := by grind
        rw [e]
        exact Int.dvd_sub P2.dv (Int.dvd_trans P1.dv (Int.dvd_mul_left ..))
      · exact Int.le_trans k4 P2.le
      · rw [← hd']
        grind
      · refine ⟨?_, by omega, by omega⟩
        rw [e0, Int.zero_mul, Int.zero_mul, Int.sub_zero, Int.sub_zero]
        exact hle
    · have h : m = 0 := h
      obtain ⟨k1, k2, k3⟩ := hm h
      have nz : ¬ (z = 0 ∧ x = 0) := fun ⟨e1, e2⟩ => by
        rw [e1, e2, Int.zero_mul, Int.mul_zero, Int.sub_zero] at hd
        have : b * b ≠ 0 := Int.mul_ne_zero b0 b0
        omega
      refine ⟨_, rfl, q z x o1 H4 ?_ nz (least_bound hA (Int.le_of_lt (nL_pos hA nz)) k1 k2 k3 hd) e4 P1.at_⟩
      have e : z * z - a * x * x = (z - r * x) * (z + r * x) + (r * r - a) * (x * x) := by grind
      rw [e]
      exact Int.dvd_add (Int.dvd_trans P1.dv (Int.dvd_mul_right ..)) (Int.dvd_trans hrr (Int.dvd_mul_right ..))
end
end Sf

namespace Sf
open PySem PySem.Spec PyProof.Rows L2
/-! Lagrange's descent -/
/-- all signs are 1 -/
def Open (a b : Int) : Prop := ∀ p, (p = 0 ∨ PrP p) → HSign a b p 1
theorem Open.comm {a b : Int} (h : Open a b) : Open b a := fun p hp => hsign_comm (h p hp)
theorem open_of {a b : Int} (a0 : a ≠ 0) (b0 : b ≠ 0) (h : PlacesOf a b []) : Open a b := fun p hp => by
  obtain ⟨r, hr⟩ := hsign_some a0 b0 hp
  rcases hsign_sq hp hr with e | e
  · exact e ▸ hr
  · exact absurd ((h.2 p).mpr ⟨hp, e ▸ hr⟩) (by simp)
theorem open_none {a b : Int} (a0 : a ≠ 0) (b0 : b ≠ 0) (h : Open a b) : PlacesOf a b [] := ⟨.nil, fun p => ⟨fun z => (by cases z), fun ⟨hp, s⟩ => absurd (hsign_unique hp s (h p hp)) (by decide)⟩⟩
/-- a is a square at each prime of b -/
theorem open_roots {a b : Int} (hS : SqF b) (h : Open a b) : ∀ p, PrP p → p ∣ b → p = 2 ∨ a % p = 0 ∨ restSign a p = 1 := fun p hp d => by
  by_cases c : p = 2
  · exact .inl c
  by_cases c2 : a % p = 0
  · exact .inr (.inl c2)
  refine .inr (.inr ?_)
  obtain ⟨v, rfl⟩ := d
  have nv : ¬ p ∣ v := fun ⟨k, hk⟩ => hS p hp ⟨k, by rw [hk, Int.mul_assoc]⟩
  have p2 := hp.1
  have s : HSign a (p * v) p (sgnAt p 0 1 a v) := .inr ⟨by omega, 0, 1, a, v, ⟨by rw [Int.pow_zero, Int.one_mul], c2⟩, ⟨by rw [Int.pow_succ, Int.pow_zero, Int.one_mul], fun z => nv (Int.dvd_of_emod_eq_zero z)⟩, rfl⟩
  have e := hsign_unique (.inr hp) s (h p (.inr hp))
  unfold sgnAt at e
  rw [if_neg c] at e
  have e2 : (if 0 * 1 % 2 = 1 then restSign (-1) p else 1) * (if 1 % 2 = 1 then restSign a p else 1) * (if 0 % 2 = 1 then restSign v p else 1) = restSign a p := by
    rw [if_neg (by decide), if_pos (by decide), if_neg (by decide), Int.one_mul, Int.mul_one]
  rw [e2] at e
  exact e
theorem prime_of {k : Int} (h : 2 ≤ k) : ∃ p, PrP p ∧ p ∣ k := by
  obtain ⟨m, hm, e⟩ := prime_list (n := k) (by omega)
  cases m with
  | nil =>
    have : k = 1 := e
    omega
  | cons p m => exact ⟨p, hm p (by simp), by rw [e]; exact Int.dvd_mul_right ..⟩
/-- a number without squares is a square of an integer only if it is 1 -/
theorem sqf_square {a k : Int} (hS : SqF a) (h : a = k * k) : a = 1 := by
  by_cases c : 2 ≤ (k.natAbs : Int)
  · obtain ⟨p, hp, d⟩ := prime_of c
    have d' : p ∣ k := Int.dvd_natAbs.mp d
    exact absurd (by rw [h]; exact Int.mul_dvd_mul d' d') (hS p hp)
  · have c2 : k = 0 ∨ k = 1 ∨ k = -1 := by omega
    rcases c2 with e | e | e
    · exfalso
      refine hS 2 (prp_of_trial (d := 2) (by decide) (by decide) (fun k a b => by omega) (by decide)) ?_
      rw [h, e]
      exact Int.dvd_zero _
    · rw [h, e]; rfl
    · rw [h, e]; rfl
theorem sqf_norm {a z x : Int} (hS : SqF a) (a1 : a ≠ 1) (h : z * z = a * x * x) : z = 0 ∧ x = 0 := by
  by_cases x0 : x = 0
  · rw [x0, Int.mul_zero] at h
    rcases Int.mul_eq_zero.mp h with c | c <;> exact ⟨c, x0⟩
  · exfalso
    have d : x * x ∣ z * z := ⟨a, by rw [h]; grind⟩
    have d2 : x.natAbs ^ 2 ∣ z.natAbs ^ 2 := by
      have := Int.natAbs_dvd_natAbs.mpr d
      rw [Int.natAbs_mul, Int.natAbs_mul] at this
      rwa [Nat.pow_two, Nat.pow_two]
    have d3 : x ∣ z := Int.natAbs_dvd_natAbs.mp ((Nat.pow_dvd_pow_iff (by decide)).mp d2)
    obtain ⟨k, rfl⟩ := d3
    have xx : x * x ≠ 0 := Int.mul_ne_zero x0 x0
    have e : x * x * (k * k) = x * x * a := by grind
    exact a1 (sqf_square hS (Int.eq_of_mul_eq_mul_left xx e).symm)
/-- the descent keeps all signs -/
theorem open_desc {a b z x left free part : Int} (a0 : a ≠ 0) (b0 : b ≠ 0) (h : Open a b) (e : z * z - a * x * x = b * left) (l0 : left ≠ 0) (f0 : free ≠ 0) (p0 : part ≠ 0) (hl : left = free * (part * part)) : Open a free := fun p hp => by
  obtain ⟨r, hr⟩ := hsign_some a0 l0 hp
  have m := hsign_mulA hp b0 l0 (h p hp) hr
  have one := iso_sign (w := z) (x := x) (y := 1) (z := 0) hp a0 (Int.mul_ne_zero b0 l0) (by rw [← e]; grind) (by simp) m
  rw [Int.one_mul] at one
  rw [one] at hr
  exact hsign_bare_all hp ⟨1, by decide, by rw [show (1 : Int) * 1 = 1 from rfl, Int.mul_one]⟩ ⟨part, p0, hl⟩ a0 f0 hr
/-- the part without squares, and its root -/
theorem free_of {n : Int} (n0 : n ≠ 0) {l : List (Int × Nat)} (f : FactOf (absI n) l) : let fr := (if 0 < n then oddF l else -oddF l)
    n = fr * (rootF l * rootF l) ∧ SqF fr ∧ fr ≠ 0 ∧ 1 ≤ rootF l ∧ fr.natAbs ≤ n.natAbs ∧ rootF l ≤ n.natAbs := by
  have o := odd_root l
  rw [f.1] at o
  have ob := oddF_bound f.2.2
  have rb := rootF_bound f.2.2
  rw [f.1] at ob rb
  have ab : absI n = n.natAbs := by unfold absI; split <;> omega
  have sq : SqF (oddF l) := fun p hp d => by
    have dp : p ∣ prodF l := by
      rw [← odd_root l, Int.mul_assoc]
      exact Int.dvd_trans (Int.dvd_trans (Int.dvd_mul_right p p) d) (Int.dvd_mul_right ..)
    obtain ⟨e, he⟩ := prime_prodF hp f.2.2 dp
    exact sq_not_dvd f.2.2 (distinct_of_sorted f.2.1) he d
  intro fr
  show n = fr * (rootF l * rootF l) ∧ _
  have hfr : fr = (if 0 < n then oddF l else -oddF l) := rfl
  rw [hfr]
  split
  · refine ⟨?_, sq, by omega, rb.1, by omega, by omega⟩
    rw [← Int.mul_assoc, o]
    omega
  · refine ⟨?_, fun p hp d => sq p hp (Int.dvd_neg.mp d), by omega, rb.1, by omega, by omega⟩
    rw [← Int.mul_assoc, Int.neg_mul, Int.neg_mul, o]
    omega
/-- how great the numbers are, step by step -/
def Bt : Nat → Int
  | 0 => 1
  | 1 => 2
  | 2 => 3
  | 3 => 7
  | 4 => 40
  | 5 => 1200
  | _ => 1050000
theorem bt_step {c m : Int} (hc : 0 ≤ c) (h : 3 * (c * c) ≤ 4 * m) : ∀ i, m ≤ Bt (i + 1) → c ≤ Bt i := fun i hm => by
  have key : ∀ B M : Int, 0 ≤ B → M ≤ B → 4 * M < 3 * ((B + 1) * (B + 1)) → True := fun _ _ _ _ _ => trivial
  have sq : ∀ B : Int, 0 ≤ B → B < c → (B + 1) * (B + 1) ≤ c * c := fun B b0 bc => Int.mul_le_mul (by omega) (by omega) (by omega) hc
  rcases i with _ | _ | _ | _ | _ | _ | i
  · have hm : m ≤ 2 := hm
    show c ≤ 1
    rcases Int.lt_or_le 1 c with k | k
    · have := sq 1 (by decide) k; omega
    · exact k
  · have hm : m ≤ 3 := hm
    show c ≤ 2
    rcases Int.lt_or_le 2 c with k | k
    · have := sq 2 (by decide) k; omega
    · exact k
  · have hm : m ≤ 7 := hm
    show c ≤ 3
    rcases Int.lt_or_le 3 c with k | k
    · have := sq 3 (by decide) k; omega
    · exact k
  · have hm : m ≤ 40 := hm
    show c ≤ 7
    rcases Int.lt_or_le 7 c with k | k
    · have := sq 7 (by decide) k; omega
    · exact k
  · have hm : m ≤ 1200 := hm
    show c ≤ 40
    rcases Int.lt_or_le 40 c with k | k
    · have := sq 40 (by decide) k; omega
    · exact k
  · have hm : m ≤ 1050000 := hm
    show c ≤ 1200
    rcases Int.lt_or_le 1200 c with k | k
    · have := sq 1200 (by decide) k; omega
    · exact k
  · have hm : m ≤ 1050000 := hm
    show c ≤ 1050000
    rcases Int.lt_or_le 1050000 c with k | k
    · have := sq 1050000 (by decide) k; omega
    · exact k
theorem bt_mono : ∀ i, Bt i ≤ Bt (i + 1) := fun i => by
  rcases i with _ | _ | _ | _ | _ | _ | i <;> first | decide | exact Int.le_refl _
theorem bt_pos (i : Nat) : 1 ≤ Bt i := by
  rcases i with _ | _ | _ | _ | _ | _ | i <;> first | decide | (show (1 : Int) ≤ 1050000; decide)
theorem bt_top (i : Nat) : Bt i ≤ 1050000 := by
  rcases i with _ | _ | _ | _ | _ | _ | i <;> first | decide | exact Int.le_refl _
/-- bounds of points -/
def Tt : Nat → Int
  | 0 => 1
  | i + 1 => 4 * (Bt i * Bt (i + 1)) * Tt i
theorem tt_pos : ∀ i, 1 ≤ Tt i
  | 0 => by decide
  | i + 1 => by
    show 1 ≤ 4 * (Bt i * Bt (i + 1)) * Tt i
    have h1 := Int.mul_le_mul_of_nonneg_right (bt_pos i) (show 0 ≤ Bt (i + 1) by have := bt_pos (i + 1); omega)
    have h2 := bt_pos (i + 1)
    have h3 := Int.mul_le_mul_of_nonneg_left (tt_pos i) (show 0 ≤ 4 * (Bt i * Bt (i + 1)) by omega)
    omega
/-- the steps: 0 at the end; 2 i + 1: the first number is the lesser one; 2 i + 2: in any sequence -/
inductive Lev : Nat → Nat → Int → Int → Prop
  | one_a (j i : Nat) (b : Int) : Lev j i 1 b
  | one_b (j i : Nat) (a : Int) : Lev j i a 1
  | low {j i : Nat} {a b : Int} (h : a.natAbs ≤ b.natAbs) (h1 : a.natAbs ≤ Bt i) (h2 : b.natAbs ≤ Bt (i + 1)) : Lev (2 * i + 1 + j) (i + 1) a b
  | any {j i : Nat} {a b : Int} (h : (a.natAbs ≤ Bt i ∧ b.natAbs ≤ Bt (i + 1)) ∨ (b.natAbs ≤ Bt i ∧ a.natAbs ≤ Bt (i + 1))) : Lev (2 * i + 2 + j) (i + 1) a b
/-- the product of two norms -/
theorem desc_sol {a b far near left free part x y z : Int} (e : far * far - a * near * near = b * left) (hl : left = free * (part * part)) (s : a * x * x + free * y * y = 1 * z * z) :
    a * (z * near + x * far) * (z * near + x * far) + b * (free * part * y) * (free * part * y) = 1 * (z * far + a * x * near) * (z * far + a * x * near) := by
  have h1 : (z * far + a * x * near) * (z * far + a * x * near) - a * (z * near + x * far) * (z * near + x * far) = (z * z - a * x * x) * (far * far - a * near * near) := by grind
  have h2 : z * z - a * x * x = free * y * y := by rw [Int.one_mul] at s; omega
  rw [h2, e, hl] at h1
  have h3 : free * y * y * (b * (free * (part * part))) = b * (free * part * y) * (free * part * y) := by grind
  rw [h3] at h1
  rw [Int.one_mul]
  omega
end Sf

namespace Sf
open PySem PySem.Spec PyProof.Rows L2
section
variable {P : Program} {w : World} {K : PySem.W.Frag} {mg : Str → Option Value} {base : Heap} {f : Addr} {fd : FuncData}
def spSquareFree : Sp := fun vs H Q _ => ∃ n : Int, vs = [.int n] ∧ n ≠ 0 ∧ -1000000000 ≤ n ∧ n ≤ 1000000000 ∧
  ∀ (l : List (Int × Nat)) (H' : Hp), FactOf (absI n) l → Same H H' → Q (.int (if 0 < n then oddF l else -oddF l)) H'
theorem ok_free_part (F : FnD K "free_part" "free_part" s_P_free_part f fd) (C_P_prime_powers : Cal P w K mg base 2 "prime_powers" ["number"] spFactors) : FnOk P w K mg base CX0 3 f fd ["number"] spSquareFree := by
  refine F.ok sc_P_free_part (fun vs H Q E h => ?_) (fun cdv A outer s H vs Q E hr h => ?_)
  · obtain ⟨n, rfl, _⟩ := h; rfl
  · obtain ⟨n, rfl, hn, h1, h2, q⟩ := h
    have hN2 : absI n ≤ 1000000000 := by unfold absI; split <;> omega
    refine ⟨_, PSs.nox (pss_cons (ps_set (i := 1) sc_P_free_part.nd rfl (Or.inl rfl) pe_int)
      (pss_cons (ps_for PassesOwn.never rfl (pi_items (pe_frz (pe_cal C_P_prime_powers (hr.mono (by decide)) (pa_cons (pv 0) pa_nil)))) (pg_tup (by rfl) (pgs_cons (pg_name (i := 2) sc_P_free_part.nd rfl (Or.inl rfl)) (pgs_cons (pg_name (i := 3) sc_P_free_part.nd rfl (Or.inl rfl)) pgs_nil))) (pss_one (ps_if (pt_cmp (pc_eqI (pe_op op_mod (pv 3) pe_int) pe_int)) (pss_one (ps_set (i := 1) sc_P_free_part.nd rfl (Or.inl rfl) (pe_op op_mulW (pv 1) (pv 2)))) pss_nil)))
      (pss_one (ps_ret (pe_ifExp (pt_cmp (pc_gt (pv 0) pe_int)) (pv 1) (pe_un un_neg (pv 1))))))), ?_⟩
    refine ⟨_, rfl, n, rfl, hn, h1, h2, fun l d H1 hf hs hd hdd => ⟨d, _, rfl, hdd, True.intro, fun od => ?_⟩⟩
    have hs1 : Same H (upd H1 d (.frz od (.dK (kvsF l)))) := fun b o e => by
      rw [upd_ne (ne_of_none e hd)]
      exact hs b o e
    refine ⟨d, od, kvsF l, rfl, upd_same, fun i c σ H' => ∃ v1 v2, σ = [some (.int n), some (.int (oddF (l.take i))), v1, v2] ∧ i + c = l.length ∧ Same H H' ∧ H' d = some (.frz od (.dK (kvsF l))), ⟨l.length, none, none, rfl, by omega, hs1, upd_same⟩, ?_⟩
    rintro i c σ H' ⟨v1, v2, rfl, hc, hs', hd'⟩
    by_cases hi : i < l.length
    · refine .inr ⟨⟨hd', by rw [kvsF_len]; exact hi⟩, _, fun _ _ z => z, fun x H2 hy => ?_⟩
      obtain ⟨T, k, v, e1, rfl, hT, rfl⟩ := hy
      have ek : ((Sum.inl l[i].1 : Key), V.int l[i].2) = (k, v) := by
        unfold kvsF at e1
        rw [List.getElem?_map, List.getElem?_eq_getElem hi] at e1
        exact Option.some.inj e1
      cases ek
      refine ⟨T, _, rfl, .inl (.inl upd_same), rfl, _, _, rfl, _, _, rfl, rfl, ?_⟩
      have hsT : Same H (upd H' T (.tup [kV (Sum.inl l[i].1), .int l[i].2])) := hs'.trans (same_upd hT)
      have hdT : (upd H' T (.tup [kV (Sum.inl l[i].1), .int l[i].2])) d = some (.frz od (.dK (kvsF l))) := by
        rw [upd_ne (ne_of_none hd' hT)]
        exact hd'
      have et : oddF (l.take (i + 1)) = oddF (l.take i) * (if l[i].2 % 2 = 1 then l[i].1 else 1) := by
        rw [List.take_add_one, List.getElem?_eq_getElem hi, oddF_append]
        show _ = _
        congr 1
        show (if l[i].2 % 2 = 1 then l[i].1 else 1) * 1 = _
        rw [Int.mul_one]
      refine ⟨_, rfl, _, _, rfl, rfl, (by show (0 : Int) < 2; decide), _, _, rfl, rfl, _, rfl, ifd (fun h3 => ?_) (fun h3 => ?_)⟩
      · have h4 : l[i].2 % 2 = 1 := by omega
        rw [if_pos h4] at et
        have hp : Primes (l.take i) := fun r hr => hf.2.2 r (List.mem_of_mem_take hr)
        have k1 := oddF_bound hp
        have k2 := prodF_take hf.2.2 i
        have k3 := prodF_mem hf.2.2 l[i] (List.getElem_mem hi)
        have k4 := (hf.2.2 l[i] (List.getElem_mem hi)).1.1
        have k5 := hf.1
        refine ⟨_, rfl, _, rfl, _, _, rfl, rfl, CMulW.of (lt3000s (by omega) (by omega)) (lt3000s (by omega) (by omega)), ?_⟩
        exact ⟨c - 1, by omega, some (.int l[i].1), some (.int l[i].2), (by rw [et]; rfl), by omega, hsT, hdT⟩
      · have h4 : ¬ l[i].2 % 2 = 1 := by omega
        rw [if_neg h4, Int.mul_one] at et
        exact ⟨c - 1, by omega, some (.int l[i].1), some (.int l[i].2), (by rw [et]; rfl), by omega, hsT, hdT⟩
    · refine .inl ⟨⟨hd', by rw [kvsF_len]; omega⟩, ?_⟩
      have ei : l.take i = l := List.take_of_length_le (by omega)
      rw [ei]
      refine ⟨_, rfl, _, _, rfl, rfl, _, rfl, ifd (fun h3 => ?_) (fun h3 => ?_)⟩
      · have z := q l H' hf hs'
        rw [if_pos h3] at z
        exact ⟨_, rfl, z⟩
      · have z := q l H' hf hs'
        rw [if_neg h3] at z
        exact ⟨_, rfl, _, rfl, z⟩
end
end Sf

namespace Sf
open PySem PySem.Spec PyProof.Rows L2
theorem isqrt_sq (k : Nat) : PySem.Float64.isqrt (k * k) = k := by
  obtain ⟨s1, s2⟩ := PySem.Float64.isqrt_spec (k * k)
  generalize PySem.Float64.isqrt (k * k) = r at s1 s2 ⊢
  rcases Nat.lt_trichotomy r k with c | c | c
  · have := Nat.mul_le_mul (show r + 1 ≤ k by omega) (show r + 1 ≤ k by omega)
    omega
  · exact c
  · have : k * k < r * r := Nat.mul_lt_mul'' c c
    omega
section
variable {P : Program} {w : World} {K : PySem.W.Frag} {mg : Str → Option Value} {base : Heap} {f : Addr} {fd : FuncData}
def spLow3 : Sp := fun vs H Q _ => ∃ x y z : Int, vs = [.int x, .int y, .int z] ∧ ¬ (x = 0 ∧ y = 0 ∧ z = 0) ∧ (x.natAbs : Int) ≤ 2 ^ 300 ∧ (y.natAbs : Int) ≤ 2 ^ 300 ∧ (z.natAbs : Int) ≤ 2 ^ 300 ∧
  ∀ (g x' y' z' : Int) (t : Addr) (H' : Hp), 0 < g → x = g * x' → y = g * y' → z = g * z' → Same H H' → H' t = some (.tup [.int x', .int y', .int z']) → Q (.ref t) H'
theorem ok_lowest_point (F : FnD K "lowest_point" "lowest_point" s_P_lowest_point f fd) (T : Glob mg) : FnOk P w K mg base CX0 1 f fd ["x", "y", "z"] spLow3 := by
  refine F.ok sc_P_lowest_point (fun vs H Q E h => ?_) (fun cdv A outer s H vs Q E hr h => ?_)
  · obtain ⟨x, y, z, rfl, _⟩ := h; rfl
  · obtain ⟨x, y, z, rfl, nz, bx, b_y, bz, q⟩ := h
    refine ⟨_, PSs.nox (pss_cons (ps_set (i := 3) sc_P_lowest_point.nd rfl (Or.inl rfl) (pe_callGB cr_gcd3 (by rfl) T.m_gcd (pa_cons (pv 0) (pa_cons (pv 1) (pa_cons (pv 2) pa_nil)))))
      (pss_one (ps_ret (pe_tup (pa_cons (pe_op op_fdivW (pv 0) (pv 3)) (pa_cons (pe_op op_fdivW (pv 1) (pv 3)) (pa_cons (pe_op op_fdivW (pv 2) (pv 3)) pa_nil))))))), ?_⟩
    refine ⟨_, rfl, _, rfl, _, rfl, x, y, z, rfl, ?_⟩
    generalize hG : (x.natAbs.gcd y.natAbs).gcd z.natAbs = G
    have G0 : 0 < G := by
      rw [← hG]
      rcases Nat.eq_zero_or_pos ((x.natAbs.gcd y.natAbs).gcd z.natAbs) with e | e
      · exfalso
        have e1 := (Nat.gcd_eq_zero_iff.mp e)
        have e2 := (Nat.gcd_eq_zero_iff.mp e1.1)
        exact nz ⟨Int.natAbs_eq_zero.mp e2.1, Int.natAbs_eq_zero.mp e2.2, Int.natAbs_eq_zero.mp e1.2⟩
      · exact e
    have dx : (G : Int) ∣ x := Int.ofNat_dvd_left.mpr (hG ▸ Nat.dvd_trans (Nat.gcd_dvd_left _ _) (Nat.gcd_dvd_left _ _))
    have dy : (G : Int) ∣ y := Int.ofNat_dvd_left.mpr (hG ▸ Nat.dvd_trans (Nat.gcd_dvd_left _ _) (Nat.gcd_dvd_right _ _))
    have dz : (G : Int) ∣ z := Int.ofNat_dvd_left.mpr (hG ▸ Nat.gcd_dvd_right _ _)
    have Gb : ((G : Int)).natAbs < 2 ^ 3000 := by
      have k : ∀ {x : Int}, (G : Int) ∣ x → x ≠ 0 → (x.natAbs : Int) ≤ 2 ^ 300 → ((G : Int)).natAbs < 2 ^ 3000 := fun {x} d x0 bx => by
        have h1 := Int.le_of_dvd (by omega) (Int.dvd_natAbs.mpr d)
        have e : ((2 ^ 300 : Nat) : Int) = 2 ^ 300 := by rw [Int.natCast_pow]; rfl
        have h2 : ((G : Int)).natAbs ≤ 2 ^ 300 := by omega
        exact Nat.lt_of_le_of_lt h2 (Nat.pow_lt_pow_right (by decide) (by decide))
      by_cases x0 : x = 0
      · by_cases y0 : y = 0
        · exact k dz (fun z0 => nz ⟨x0, y0, z0⟩) bz
        · exact k dy y0 b_y
      · exact k dx x0 bx
    have dv : ∀ {x : Int}, (G : Int) ∣ x → x = (G : Int) * (x / (G : Int)) := fun h => (Int.mul_ediv_cancel' h).symm
    refine ⟨_, rfl, _, rfl, _, _, rfl, rfl, CDivW.of (by omega) Gb, _, rfl, _, rfl, _, _, rfl, rfl, CDivW.of (by omega) Gb, _, rfl, _, rfl, _, _, rfl, rfl, CDivW.of (by omega) Gb, (by show 3 ≤ sizeLine; decide), fun t ht => ?_⟩
    exact q G _ _ _ t _ (by omega) (dv dx) (dv dy) (dv dz) (same_upd ht) upd_same
end
end Sf

namespace Sf
open PySem PySem.Spec PyProof.Rows L2
theorem tt_le (i : Nat) (h : i ≤ 7) : Tt i ≤ 2 ^ 120 := by
  have c : i = 0 ∨ i = 1 ∨ i = 2 ∨ i = 3 ∨ i = 4 ∨ i = 5 ∨ i = 6 ∨ i = 7 := by omega
  rcases c with rfl | rfl | rfl | rfl | rfl | rfl | rfl | rfl <;> decide +kernel
/-- the pair's norm is not great -/
theorem norm_le {A N b : Int} (hA : 1 ≤ A) (hb : b ≠ 0) (h0 : 0 ≤ N) (h : 3 * (N * N) ≤ 4 * (A * (b * b))) : N ≤ 2 * (A * b.natAbs) := by
  rcases Int.lt_or_le (2 * (A * b.natAbs)) N with c | c
  · exfalso
    have B0 : 1 ≤ (b.natAbs : Int) := by omega
    have e : b * b = (b.natAbs : Int) * b.natAbs := (Int.natAbs_mul_self' b).symm
    rw [e] at h
    generalize (b.natAbs : Int) = B at *
    have AB : 1 ≤ A * B := by
      have := Int.mul_le_mul_of_nonneg_right hA (show 0 ≤ B by omega)
      omega
    have h1 : (2 * (A * B)) * (2 * (A * B)) ≤ N * N := Int.mul_le_mul (by omega) (by omega) (by omega) h0
    have h2 : A * (B * B) ≤ A * B * (A * B) := by
      have e2 : A * B * (A * B) = A * (A * (B * B)) := by grind
      rw [e2]
      have : 0 ≤ A * (B * B) := Int.mul_nonneg (by omega) (Int.mul_nonneg (by omega) (by omega))
      have := Int.mul_le_mul_of_nonneg_right hA this
      omega
    have e3 : (2 * (A * B)) * (2 * (A * B)) = 4 * (A * B * (A * B)) := by grind
    rw [e3] at h1
    have h4 : 0 < A * B * (A * B) := Int.mul_pos (by omega) (by omega)
    omega
  · exact c
theorem norm_abs (a z x : Int) : ((z * z - a * x * x).natAbs : Int) ≤ nL (absI a) z x := by
  have s1 : 0 ≤ z * z := by have := abs_le_sq z; omega
  have s2 : 0 ≤ x * x := by have := abs_le_sq x; omega
  unfold nL absI
  split
  · have h : 0 ≤ -a * (x * x) := Int.mul_nonneg (by omega) s2
    rw [Int.mul_assoc, Int.mul_assoc]
    rw [Int.neg_mul] at h ⊢
    omega
  · have h : 0 ≤ a * (x * x) := Int.mul_nonneg (by omega) s2
    rw [Int.mul_assoc]
    omega
/-- what is left of the norm is small -/
theorem desc_left {a b z x left : Int} (b0 : b ≠ 0) (N0 : 0 ≤ nL (absI a) z x) (hN : 3 * (nL (absI a) z x * nL (absI a) z x) ≤ 4 * (absI a * (b * b))) (hl : z * z - a * x * x = b * left) : 3 * (left * left) ≤ 4 * absI a := by
  have h := norm_abs a z x
  rw [hl] at h
  have h2 : b * left * (b * left) ≤ nL (absI a) z x * nL (absI a) z x := by
    have e : b * left * (b * left) = ((b * left).natAbs : Int) * (b * left).natAbs := (Int.natAbs_mul_self' _).symm
    rw [e]
    exact Int.mul_le_mul h h (by omega) N0
  have e : b * left * (b * left) = left * left * (b * b) := by grind
  rw [e] at h2
  have bb : 0 < b * b := by
    rcases Int.lt_or_gt_of_ne b0 with k | k
    · exact Int.mul_pos_of_neg_of_neg k k
    · exact Int.mul_pos k k
  have h3 : 3 * (left * left) * (b * b) ≤ 4 * absI a * (b * b) := by
    have e1 : 3 * (left * left) * (b * b) = 3 * (left * left * (b * b)) := by grind
    have e2 : 4 * absI a * (b * b) = 4 * (absI a * (b * b)) := by grind
    omega
  exact Int.le_of_mul_le_mul_right h3 bb
theorem fine_bd {A z x : Int} (hA : 1 ≤ A) : (z.natAbs : Int) + x.natAbs ≤ nL A z x ∧ (z.natAbs : Int) + A * x.natAbs ≤ nL A z x := by
  have h1 := abs_le_sq z
  have h2 := abs_le_sq x
  have h3 : A * (x.natAbs : Int) ≤ A * (x * x) := Int.mul_le_mul_of_nonneg_left h2 (by omega)
  have h4 : (x.natAbs : Int) ≤ A * x.natAbs := by
    have := Int.mul_le_mul_of_nonneg_right hA (show 0 ≤ (x.natAbs : Int) by omega)
    omega
  unfold nL
  rw [Int.mul_assoc A x x]
  omega
/-- a sum of two products -/
theorem two_bd {u v s t T N : Int} (hu : (u.natAbs : Int) ≤ T) (hv : (v.natAbs : Int) ≤ T) (h : (s.natAbs : Int) + t.natAbs ≤ N) (T0 : 0 ≤ T) : ((u * s + v * t).natAbs : Int) ≤ T * N := by
  have h1 := natAbs_mul_le hu (Int.le_refl (s.natAbs : Int))
  have h2 := natAbs_mul_le hv (Int.le_refl (t.natAbs : Int))
  have h3 := Int.mul_le_mul_of_nonneg_left h T0
  rw [Int.mul_add] at h3
  omega
theorem sol_div {a b g x y z : Int} (g0 : 0 < g) (nz : ¬ (g * x = 0 ∧ g * y = 0 ∧ g * z = 0)) (h : a * (g * x) * (g * x) + b * (g * y) * (g * y) = 1 * (g * z) * (g * z)) : Sol a b 1 x y z := by
  refine ⟨fun ⟨e1, e2, e3⟩ => nz ⟨by rw [e1, Int.mul_zero], by rw [e2, Int.mul_zero], by rw [e3, Int.mul_zero]⟩, ?_⟩
  have e : (g * g) * (a * x * x + b * y * y) = (g * g) * (1 * z * z) := by grind
  exact Int.eq_of_mul_eq_mul_left (Int.mul_ne_zero (by omega) (by omega)) e
theorem div_bd {g x X B : Int} (g0 : 0 < g) (e : X = g * x) (h : (X.natAbs : Int) ≤ B) : (x.natAbs : Int) ≤ B := by
  have : (x.natAbs : Int) ≤ X.natAbs := by
    rw [e, Int.natAbs_mul, Int.natCast_mul]
    have := Int.mul_le_mul_of_nonneg_right (show 1 ≤ (g.natAbs : Int) by omega) (show 0 ≤ (x.natAbs : Int) by omega)
    omega
  omega
section
variable {P : Program} {w : World} {K : PySem.W.Frag} {mg : Str → Option Value} {base : Heap} {f : Addr} {fd : FuncData}
structure FreeP (j : Nat) (vs : List V) (H : Hp) (Q : VK) : Prop where
  ex : ∃ (a b : Int) (i : Nat), vs = [.int a, .int b] ∧ Lev j i a b ∧ i ≤ 7 ∧ a ≠ 0 ∧ b ≠ 0 ∧ a.natAbs ≤ 1050000 ∧ b.natAbs ≤ 1050000 ∧ SqF a ∧ SqF b ∧ Open a b ∧
    ∀ (x y z : Int) (t : Addr) (H' : Hp), Sol a b 1 x y z → (x.natAbs : Int) ≤ Tt i → (y.natAbs : Int) ≤ Tt i → (z.natAbs : Int) ≤ Tt i → Same H H' → H' t = some (.tup [.int x, .int y, .int z]) → Q (.ref t) H'
def spFree (j : Nat) : Sp := fun vs H Q _ => FreeP j vs H Q
def spNone : Sp := fun _ _ _ _ => False
set_option maxHeartbeats 16000000 in
theorem free_step (j k : Nat) (inner : Sp) (F : FnD K "free_point" "free_point" s_P_free_point f fd) (T : Glob mg) (C_P_least_pair : Cal P w K mg base 6 "least_pair" ["a", "b"] spLeastP) (C_P_free_part : Cal P w K mg base 3 "free_part" ["number"] spSquareFree) (C_P_lowest_point : Cal P w K mg base 1 "lowest_point" ["x", "y", "z"] spLow3)
    (C_P_free_point : Cal P w K mg base k "free_point" ["a", "b"] inner) (hk : 6 ≤ k) (hin : ∀ vs H Q E, (∃ j', j = j' + 1 ∧ FreeP j' vs H Q) → inner vs H Q E) : FnOk P w K mg base CX0 (k + 1) f fd ["a", "b"] (spFree j) := by
  refine F.ok sc_P_free_point (fun vs H Q E h => ?_) (fun cdv A outer s H vs Q E hr h => ?_)
  · obtain ⟨a, b, i, rfl, _⟩ := h.ex; rfl
  · obtain ⟨a, b, i, rfl, hL, i7, a0, b0, a9, b9, sa, sb, op, q⟩ := h.ex
    refine ⟨_, PSs.nox (pss_cons (ps_if (pt_cmp (pc_eqI (pv 0) pe_int)) (pss_one (ps_ret (pe_tup (pa_cons pe_int (pa_cons pe_int (pa_cons pe_int pa_nil)))))) pss_nil)
      (pss_cons (ps_if (pt_cmp (pc_eqI (pv 1) pe_int)) (pss_one (ps_ret (pe_tup (pa_cons pe_int (pa_cons pe_int (pa_cons pe_int pa_nil)))))) pss_nil)
      (pss_cons (ps_if (pt_cmp (pc_gt (pe_callB call_abs (by rfl) T.m_abs (by decide +kernel) (pa_cons (pv 0) pa_nil)) (pe_callB call_abs (by rfl) T.m_abs (by decide +kernel) (pa_cons (pv 1) pa_nil)))) (pss_cons (ps_asg (pe_cal C_P_free_point (hr.mono (by omega)) (pa_cons (pv 1) (pa_cons (pv 0) pa_nil))) (pg_tup (by rfl) (pgs_cons (pg_name (i := 2) sc_P_free_point.nd rfl (Or.inl rfl)) (pgs_cons (pg_name (i := 3) sc_P_free_point.nd rfl (Or.inl rfl)) (pgs_cons (pg_name (i := 4) sc_P_free_point.nd rfl (Or.inl rfl)) pgs_nil)))))
      (pss_one (ps_ret (pe_tup (pa_cons (pv 3) (pa_cons (pv 2) (pa_cons (pv 4) pa_nil))))))) pss_nil)
      (pss_cons (ps_asg (pe_cal C_P_least_pair (hr.mono (by omega)) (pa_cons (pv 0) (pa_cons (pv 1) pa_nil))) (pg_tup (by rfl) (pgs_cons (pg_name (i := 5) sc_P_free_point.nd rfl (Or.inl rfl)) (pgs_cons (pg_name (i := 6) sc_P_free_point.nd rfl (Or.inl rfl)) pgs_nil))))
      (pss_cons (ps_set (i := 7) sc_P_free_point.nd rfl (Or.inl rfl) (pe_op op_fdivZ (pe_op op_sub (pe_op op_mulW (pv 5) (pv 5)) (pe_op op_mulW (pe_op op_mulW (pv 0) (pv 6)) (pv 6))) (pv 1)))
      (pss_cons (ps_set (i := 8) sc_P_free_point.nd rfl (Or.inl rfl) (pe_cal C_P_free_part (hr.mono (by omega)) (pa_cons (pv 7) pa_nil)))
      (pss_cons (ps_set (i := 9) sc_P_free_point.nd rfl (Or.inl rfl) (pe_callGB cr_isqrt (by rfl) T.m_isqrt (pa_cons (pe_op op_fdivZ (pv 7) (pv 8)) pa_nil)))
      (pss_cons (ps_asg (pe_cal C_P_free_point (hr.mono (by omega)) (pa_cons (pv 0) (pa_cons (pv 8) pa_nil))) (pg_tup (by rfl) (pgs_cons (pg_name (i := 3) sc_P_free_point.nd rfl (Or.inl rfl)) (pgs_cons (pg_name (i := 2) sc_P_free_point.nd rfl (Or.inl rfl)) (pgs_cons (pg_name (i := 4) sc_P_free_point.nd rfl (Or.inl rfl)) pgs_nil)))))
      (pss_one (ps_ret (pe_cal C_P_lowest_point (hr.mono (by omega)) (pa_cons (pe_op op_add (pe_op op_mulW (pv 4) (pv 6)) (pe_op op_mulW (pv 3) (pv 5))) (pa_cons (pe_op op_mulW (pe_op op_mulW (pv 8) (pv 9)) (pv 2)) (pa_cons (pe_op op_add (pe_op op_mulW (pv 4) (pv 5)) (pe_op op_mulW (pe_op op_mulW (pv 0) (pv 3)) (pv 6))) pa_nil)))))))))))))), ?_⟩
    have T1 := tt_pos i
    refine ⟨_, rfl, _, _, rfl, rfl, _, rfl, ifd (fun h => ?_) (fun a1 => ?_)⟩
    · have h : a = 1 := h
      subst h
      exact ⟨(by show 3 ≤ sizeLine; decide), fun t ht => q 1 0 1 t _ ⟨by decide, by rw [Int.mul_zero]; rfl⟩ T1 (by show (0 : Int) ≤ _; omega) T1 (same_upd ht) upd_same⟩
    refine ⟨_, rfl, _, _, rfl, rfl, _, rfl, ifd (fun h => ?_) (fun b1 => ?_)⟩
    · have h : b = 1 := h
      subst h
      exact ⟨(by show 3 ≤ sizeLine; decide), fun t ht => q 0 1 1 t _ ⟨by decide, by rw [Int.mul_zero]; rfl⟩ (by show (0 : Int) ≤ _; omega) T1 T1 (same_upd ht) upd_same⟩
    have a1 : a ≠ 1 := a1
    have b1 : b ≠ 1 := b1
    refine ⟨_, rfl, a, rfl, _, rfl, b, rfl, _, _, rfl, rfl, _, rfl, ifd (fun h => ?_) (fun h => ?_)⟩
    · have h : (if a < 0 then -a else a) > (if b < 0 then -b else b) := h
      have hab : b.natAbs < a.natAbs := by
        revert h
        split <;> split <;> omega
      obtain ⟨j0, i', rfl, rfl, ha⟩ : ∃ j0 i', j = 2 * i' + 2 + j0 ∧ i = i' + 1 ∧ ((a.natAbs ≤ Bt i' ∧ b.natAbs ≤ Bt (i' + 1)) ∨ (b.natAbs ≤ Bt i' ∧ a.natAbs ≤ Bt (i' + 1))) := by
        cases hL with
        | one_a => exact absurd rfl a1
        | one_b => exact absurd rfl b1
        | low k1 => exact absurd k1 (by omega)
        | any k1 => exact ⟨_, _, rfl, rfl, k1⟩
      have bm := bt_mono i'
      refine ⟨_, rfl, _, rfl, hin _ _ _ _ ⟨2 * i' + 1 + j0, by omega, ⟨b, a, i' + 1, rfl, .low (by omega) (by omega) (by omega), i7, b0, a0, b9, a9, sb, sa, op.comm, fun y x z t H1 s by_ bx bz e1 ht => ?_⟩⟩⟩
      refine ⟨t, _, rfl, SqT.of ht, rfl, _, _, rfl, _, _, rfl, _, _, rfl, rfl, ?_⟩
      refine ⟨_, rfl, _, rfl, _, rfl, (by show 3 ≤ sizeLine; decide), fun t' ht' => ?_⟩
      refine q x y z t' _ ⟨fun ⟨u1, u2, u3⟩ => s.1 ⟨u2, u1, u3⟩, ?_⟩ bx by_ bz (e1.trans (same_upd ht')) upd_same
      have := s.2
      omega
    have h : ¬ (if a < 0 then -a else a) > (if b < 0 then -b else b) := h
    have hab : a.natAbs ≤ b.natAbs := by
      revert h
      split <;> split <;> omega
    have hA : absI a = a.natAbs := by unfold absI; split <;> omega
    obtain ⟨i', rfl, hj, ha, hb⟩ : ∃ i', i = i' + 1 ∧ 2 * i' + 1 ≤ j ∧ a.natAbs ≤ Bt i' ∧ b.natAbs ≤ Bt (i' + 1) := by
      cases hL with
      | one_a => exact absurd rfl a1
      | one_b => exact absurd rfl b1
      | low k1 k2 k3 => exact ⟨_, rfl, by omega, k2, k3⟩
      | @any j0 i' _ _ k1 =>
        have bm := bt_mono i'
        refine ⟨i', rfl, by omega, ?_, ?_⟩ <;> omega
    refine ⟨_, rfl, _, rfl, a, b, rfl, a0, b0, by omega, by omega, sb, open_roots sb op, fun far near t H1 dv nz hN e1 ht => ?_⟩
    refine ⟨t, _, rfl, SqT.of ht, rfl, _, _, rfl, _, _, rfl, rfl, ?_⟩
    have A1 : 1 ≤ absI a := by omega
    have N0 := nL_pos A1 nz
    have Nle := norm_le A1 b0 (Int.le_of_lt N0) hN
    have nb := nL_bd A1 (Int.le_refl (nL (absI a) far near))
    obtain ⟨left, hl⟩ := dv
    have l0 : left ≠ 0 := fun z => by
      rw [z, Int.mul_zero] at hl
      exact nz (sqf_norm sa a1 (by omega))
    have W42 : nL (absI a) far near ≤ 2 ^ 42 := by
      have h1 : absI a * (b.natAbs : Int) ≤ 1050000 * 1050000 := Int.mul_le_mul (by omega) (by omega) (by omega) (by decide)
      exact Int.le_trans (show _ ≤ 2 * (1050000 * 1050000 : Int) by omega) (by decide)
    have b_far := Int.le_trans nb.1 W42
    have b_near := Int.le_trans nb.2 W42
    have ba21 : (a.natAbs : Int) ≤ 2 ^ 21 := Int.le_trans (show _ ≤ (1050000 : Int) by omega) (by decide)
    have b_an := Int.le_trans (natAbs_mul_le ba21 b_near) (show (2 : Int) ^ 21 * 2 ^ 42 ≤ 2 ^ 63 by decide)
    have bbZ : b.natAbs < 2 ^ 8000 := Nat.lt_of_le_of_lt (show b.natAbs ≤ 2 ^ 21 by omega) (Nat.pow_lt_pow_right (by decide) (by decide))
    have hfl : (far * far - a * near * near).fdiv b = left := by rw [hl]; exact Int.mul_fdiv_cancel_left left b0
    refine ⟨_, rfl, _, rfl, _, _, rfl, rfl, cmulB b_far b_far (by decide) (by decide), _, rfl, _, rfl, _, _, rfl, rfl, cmulB ba21 b_near (by decide) (by decide), _, rfl, _, _, rfl, rfl, cmulB b_an b_near (by decide) (by decide), _, _, rfl, rfl, _, rfl, _, b, rfl, rfl, CDivZ.of b0 bbZ, ?_⟩
    show gName 7 (V.int ((far * far - a * near * near).fdiv b)) _ _ _
    rw [hfl]
    have hleft := desc_left b0 (Int.le_of_lt N0) hN hl
    have lsq := abs_le_sq left
    have l2a : (left.natAbs : Int) ≤ 2 * absI a := by omega
    refine ⟨_, rfl, left, rfl, l0, by omega, by omega, fun l H2 hf e2 => ?_⟩
    obtain ⟨f1, f2, f3, f4, f5, f6⟩ := free_of l0 hf
    generalize (if 0 < left then oddF l else -oddF l) = free at *
    generalize rootF l = part at *
    have op2 := open_desc a0 b0 op hl l0 f3 (by omega) f1
    have hfree : 3 * ((free.natAbs : Int) * free.natAbs) ≤ 4 * a.natAbs := by
      have : (free.natAbs : Int) * free.natAbs ≤ (left.natAbs : Int) * left.natAbs := Int.mul_le_mul (by omega) (by omega) (by omega) (by omega)
      have e := Int.natAbs_mul_self' left
      omega
    have hfd : left.fdiv free = part * part := by rw [f1]; exact Int.mul_fdiv_cancel_left _ f3
    have fbZ : free.natAbs < 2 ^ 8000 := Nat.lt_of_le_of_lt (show free.natAbs ≤ 2 ^ 22 by omega) (Nat.pow_lt_pow_right (by decide) (by decide))
    have pN : ((part.toNat : Nat) : Int) = part := by omega
    refine ⟨_, rfl, _, rfl, _, free, rfl, rfl, CDivZ.of f3 fbZ, ⟨part.toNat * part.toNat, ?_, ?_, ?_⟩⟩
    · show [V.int (left.fdiv free)] = _
      rw [hfd, Int.natCast_mul, pN]
    · have : part.toNat * part.toNat ≤ 2200000 * 2200000 := Nat.mul_le_mul (by omega) (by omega)
      exact Nat.lt_of_le_of_lt this (by decide)
    rw [isqrt_sq, pN]
    have LEV : Lev (j - 1) i' a free := by
      cases i' with
      | zero =>
        have ha1 : (a.natAbs : Int) ≤ 1 := ha
        have am : a = -1 := by omega
        have fm : free = 1 ∨ free = -1 := by
          rcases Nat.lt_or_ge 1 free.natAbs with c | c
          · exfalso
            have : (2 : Int) * 2 ≤ (free.natAbs : Int) * free.natAbs := Int.mul_le_mul (by omega) (by omega) (by decide) (by omega)
            omega
          · omega
        rcases fm with e | e
        · rw [e]
          exact .one_b _ _ _
        · exfalso
          rw [am, e] at op2
          exact absurd (hsign_unique (.inl rfl) (op2 0 (.inl rfl)) (.inl ⟨rfl, rfl⟩)) (by decide)
      | succ i2 =>
        have bs := bt_step (show 0 ≤ (free.natAbs : Int) by omega) hfree i2 ha
        have e : j - 1 = 2 * i2 + 2 + (j - 1 - (2 * i2 + 2)) := by omega
        rw [e]
        exact .any (.inr ⟨bs, ha⟩)
    refine ⟨_, rfl, _, rfl, hin _ _ _ _ ⟨j - 1, by omega, ⟨a, free, i', rfl, LEV, by omega, a0, f3, a9, ?_, sa, f2, op2, fun x y z t3 H3 s bx b_y bz e3 ht3 => ?_⟩⟩⟩
    · rcases Nat.lt_or_ge 1050000 free.natAbs with c | c
      · exfalso
        have : (1050001 : Int) * 1050001 ≤ (free.natAbs : Int) * free.natAbs := Int.mul_le_mul (by omega) (by omega) (by decide) (by omega)
        omega
      · exact c
    refine ⟨t3, _, rfl, SqT.of ht3, rfl, _, _, rfl, _, _, rfl, _, _, rfl, rfl, ?_⟩
    have y0 : y ≠ 0 := fun e => by
      have s2 := s.2
      rw [e, Int.mul_zero, Int.add_zero, Int.one_mul] at s2
      obtain ⟨z0, x0⟩ := sqf_norm sa a1 s2.symm
      exact s.1 ⟨x0, e, z0⟩
    have T120 := tt_le i' (by omega)
    have T0 := tt_pos i'
    have cx := Int.le_trans bx T120
    have cy := Int.le_trans b_y T120
    have cz := Int.le_trans bz T120
    have cfr : (free.natAbs : Int) ≤ 2 ^ 22 := by omega
    have cpt : (part.natAbs : Int) ≤ 2 ^ 22 := by omega
    have cfp := Int.le_trans (natAbs_mul_le cfr cpt) (show (2 : Int) ^ 22 * 2 ^ 22 ≤ 2 ^ 44 by decide)
    have cax := Int.le_trans (natAbs_mul_le ba21 cx) (show (2 : Int) ^ 21 * 2 ^ 120 ≤ 2 ^ 141 by decide)
    have ds := desc_sol hl f1 s.2
    obtain ⟨fb1, fb2⟩ := fine_bd (z := far) (x := near) A1
    have X1 : ((z * near + x * far).natAbs : Int) ≤ Tt i' * nL (absI a) far near := two_bd bz bx (by omega) (by omega)
    have Z1 : ((z * far + a * x * near).natAbs : Int) ≤ Tt i' * nL (absI a) far near := by
      have e : z * far + a * x * near = z * far + x * (a * near) := by grind
      rw [e]
      refine two_bd bz bx ?_ (by omega)
      rw [Int.natAbs_mul, Int.natCast_mul, ← hA]
      exact fb2
    have hlf : (left.natAbs : Int) = free.natAbs * (part * part) := by
      rw [f1, Int.natAbs_mul, Int.natCast_mul]
      congr 1
      rw [Int.natAbs_mul, Int.natCast_mul, Int.natAbs_of_nonneg (by omega)]
    have Y1 : ((free * part * y).natAbs : Int) ≤ 2 * absI a * Tt i' := by
      refine natAbs_mul_le ?_ b_y
      rw [Int.natAbs_mul, Int.natCast_mul, Int.natAbs_of_nonneg (show 0 ≤ part by omega)]
      have : (free.natAbs : Int) * part ≤ free.natAbs * (part * part) := by
        refine Int.mul_le_mul_of_nonneg_left ?_ (by omega)
        have := Int.mul_le_mul_of_nonneg_right f4 (show 0 ≤ part by omega)
        omega
      omega
    have GB : ∀ u : Int, u ≤ Tt i' * nL (absI a) far near → u ≤ Tt (i' + 1) := fun u hu => by
      have h1 : absI a * (b.natAbs : Int) ≤ Bt i' * Bt (i' + 1) := Int.mul_le_mul (by omega) hb (by omega) (by have := bt_pos i'; omega)
      have h2 : Tt i' * nL (absI a) far near ≤ Tt i' * (4 * (Bt i' * Bt (i' + 1))) := Int.mul_le_mul_of_nonneg_left (by have := bt_pos i'; have := bt_pos (i' + 1); have := Int.mul_nonneg (show 0 ≤ Bt i' by omega) (show 0 ≤ Bt (i' + 1) by omega); omega) (by omega)
      have e : Tt (i' + 1) = Tt i' * (4 * (Bt i' * Bt (i' + 1))) := Int.mul_comm _ _
      omega
    have GY : 2 * absI a * Tt i' ≤ Tt (i' + 1) := by
      have h1 : absI a * 1 ≤ Bt i' * Bt (i' + 1) := Int.mul_le_mul (by omega) (bt_pos _) (by decide) (by have := bt_pos i'; omega)
      have h2 : 2 * absI a * Tt i' ≤ 4 * (Bt i' * Bt (i' + 1)) * Tt i' := Int.mul_le_mul_of_nonneg_right (by omega) (by omega)
      exact h2
    have TN : Tt i' * nL (absI a) far near ≤ 2 ^ 120 * 2 ^ 42 := Int.mul_le_mul T120 W42 (by omega) (by decide)
    have B300 : ∀ u : Int, u ≤ Tt i' * nL (absI a) far near → u ≤ 2 ^ 300 := fun u hu => Int.le_trans (Int.le_trans hu TN) (by decide)
    have Y300 : ((free * part * y).natAbs : Int) ≤ 2 ^ 300 := by
      have := natAbs_mul_le cfp cy
      exact Int.le_trans this (by decide)
    have XYZ : ¬ (z * near + x * far = 0 ∧ free * part * y = 0 ∧ z * far + a * x * near = 0) := fun ⟨_, e, _⟩ => (Int.mul_ne_zero (Int.mul_ne_zero f3 (by omega)) y0) e
    refine ⟨_, rfl, _, rfl, _, _, rfl, rfl, cmulB cz b_near (by decide) (by decide), _, rfl, _, rfl, _, _, rfl, rfl, cmulB cx b_far (by decide) (by decide), _, _, rfl, rfl, ?_⟩
    refine ⟨_, rfl, _, rfl, _, _, rfl, rfl, cmulB cfr cpt (by decide) (by decide), _, rfl, _, _, rfl, rfl, cmulB cfp cy (by decide) (by decide), ?_⟩
    refine ⟨_, rfl, _, rfl, _, _, rfl, rfl, cmulB cz b_far (by decide) (by decide), _, rfl, _, rfl, _, _, rfl, rfl, cmulB ba21 cx (by decide) (by decide), _, rfl, _, _, rfl, rfl, cmulB cax b_near (by decide) (by decide), _, _, rfl, rfl, ?_⟩
    refine ⟨z * near + x * far, free * part * y, z * far + a * x * near, rfl, XYZ, B300 _ X1, Y300, B300 _ Z1, fun g x' y' z' t4 H4 g0 ex ey ez e4 ht4 => ?_⟩
    rw [ex, ey, ez] at ds XYZ
    exact q x' y' z' t4 H4 (sol_div g0 XYZ ds) (div_bd g0 ex (GB _ X1)) (div_bd g0 ey (Int.le_trans Y1 GY)) (div_bd g0 ez (GB _ Z1)) (((e1.trans e2).trans e3).trans e4) ht4
/-- free_point at each step -/
theorem free_all (F : FnD K "free_point" "free_point" s_P_free_point f fd) (T : Glob mg) (GS : mg "free_point" = some (.ref f)) (C_P_least_pair : Cal P w K mg base 6 "least_pair" ["a", "b"] spLeastP) (C_P_free_part : Cal P w K mg base 3 "free_part" ["number"] spSquareFree) (C_P_lowest_point : Cal P w K mg base 1 "lowest_point" ["x", "y", "z"] spLow3) :
    ∀ j, FnOk P w K mg base CX0 (8 + j) f fd ["a", "b"] (spFree j)
  | 0 => by
    have N : FnOk P w K mg base CX0 7 f fd ["a", "b"] spNone := F.ok sc_P_free_point (fun vs H Q E h => h.elim) (fun cdv A outer s H vs Q E hr h => h.elim)
    exact free_step 0 7 spNone F T C_P_least_pair C_P_free_part C_P_lowest_point ⟨f, fd, N, GS, F.kp, F.bindsN fun _ _ _ _ _ _ us hl => match us, hl with | [_, _], _ => rfl⟩ (by decide) fun vs H Q E ⟨j', h, _⟩ => by omega
  | j + 1 => free_step (j + 1) (8 + j) (spFree j) F T C_P_least_pair C_P_free_part C_P_lowest_point ⟨f, fd, free_all F T GS C_P_least_pair C_P_free_part C_P_lowest_point j, GS, F.kp, F.bindsN fun _ _ _ _ _ _ us hl => match us, hl with | [_, _], _ => rfl⟩ (by omega) fun vs H Q E ⟨j', h, g⟩ => by
      have e : j = j' := by omega
      exact e ▸ g
theorem ok_free_point (F : FnD K "free_point" "free_point" s_P_free_point f fd) (T : Glob mg) (GS : mg "free_point" = some (.ref f)) (C_P_least_pair : Cal P w K mg base 6 "least_pair" ["a", "b"] spLeastP) (C_P_free_part : Cal P w K mg base 3 "free_part" ["number"] spSquareFree) (C_P_lowest_point : Cal P w K mg base 1 "lowest_point" ["x", "y", "z"] spLow3) : FnOk P w K mg base CX0 22 f fd ["a", "b"] (spFree 14) := by
  exact free_all F T GS C_P_least_pair C_P_free_part C_P_lowest_point 14
end
end Sf

namespace Sf
open PySem PySem.Spec PyProof.Rows L2
section
variable {P : Program} {w : World} {K : PySem.W.Frag} {mg : Str → Option Value} {base : Heap} {f : Addr} {fd : FuncData}
structure SolP (vs : List V) (H : Hp) (Q : VK) : Prop where
  ex : ∃ a b : Int, vs = [.int a, .int b] ∧ a ≠ 0 ∧ b ≠ 0 ∧ a.natAbs ≤ 1050000 ∧ b.natAbs ≤ 1050000 ∧ Open a b ∧
    ∀ (x y z : Int) (t : Addr) (H' : Hp), Sol a b 1 x y z → (x.natAbs : Int) ≤ 2 ^ 165 → (y.natAbs : Int) ≤ 2 ^ 165 → (z.natAbs : Int) ≤ 2 ^ 165 → Same H H' → H' t = some (.tup [.int x, .int y, .int z]) → Q (.ref t) H'
def spSol : Sp := fun vs H Q _ => SolP vs H Q
set_option maxHeartbeats 8000000 in
theorem ok_solution (F : FnD K "solution" "solution" s_P_solution f fd) (T : Glob mg) (C_P_free_part : Cal P w K mg base 3 "free_part" ["number"] spSquareFree) (C_P_free_point : Cal P w K mg base 22 "free_point" ["a", "b"] (spFree 14)) (C_P_lowest_point : Cal P w K mg base 1 "lowest_point" ["x", "y", "z"] spLow3) : FnOk P w K mg base CX0 23 f fd ["a", "b"] spSol := by
  refine F.ok sc_P_solution (fun vs H Q E h => ?_) (fun cdv A outer s H vs Q E hr h => ?_)
  · obtain ⟨a, b, rfl, _⟩ := h.ex; rfl
  · obtain ⟨a, b, rfl, a0, b0, a9, b9, op, q⟩ := h.ex
    refine ⟨_, PSs.nox (pss_cons (ps_par (i := 2) (j := 3) (by rfl) sc_P_solution.nd rfl rfl (by decide) rfl rfl (pa_cons (pe_cal C_P_free_part (hr.mono (by decide)) (pa_cons (pv 0) pa_nil)) (pa_cons (pe_cal C_P_free_part (hr.mono (by decide)) (pa_cons (pv 1) pa_nil)) pa_nil)) (by rfl))
      (pss_cons (ps_asg (pe_cal C_P_free_point (hr.mono (by decide)) (pa_cons (pv 2) (pa_cons (pv 3) pa_nil))) (pg_tup (by rfl) (pgs_cons (pg_name (i := 4) sc_P_solution.nd rfl (Or.inl rfl)) (pgs_cons (pg_name (i := 5) sc_P_solution.nd rfl (Or.inl rfl)) (pgs_cons (pg_name (i := 6) sc_P_solution.nd rfl (Or.inl rfl)) pgs_nil)))))
      (pss_cons (ps_par (i := 7) (j := 8) (by rfl) sc_P_solution.nd rfl rfl (by decide) rfl rfl (pa_cons (pe_callGB cr_isqrt (by rfl) T.m_isqrt (pa_cons (pe_op op_fdivZ (pv 0) (pv 2)) pa_nil)) (pa_cons (pe_callGB cr_isqrt (by rfl) T.m_isqrt (pa_cons (pe_op op_fdivZ (pv 1) (pv 3)) pa_nil)) pa_nil)) (by rfl))
      (pss_one (ps_ret (pe_cal C_P_lowest_point (hr.mono (by decide)) (pa_cons (pe_op op_mulW (pv 4) (pv 8)) (pa_cons (pe_op op_mulW (pv 5) (pv 7)) (pa_cons (pe_op op_mulW (pe_op op_mulW (pv 6) (pv 7)) (pv 8)) pa_nil))))))))), ?_⟩
    refine ⟨_, rfl, a, rfl, a0, by omega, by omega, fun la H1 fa e1 => ?_⟩
    obtain ⟨f1, f2, f3, f4, f5, f6⟩ := free_of a0 fa
    generalize (if 0 < a then oddF la else -oddF la) = free at *
    generalize rootF la = pa at *
    refine ⟨_, rfl, b, rfl, b0, by omega, by omega, fun lb H2 fb e2 => ?_⟩
    obtain ⟨g1, g2, g3, g4, g5, g6⟩ := free_of b0 fb
    generalize (if 0 < b then oddF lb else -oddF lb) = other at *
    generalize rootF lb = re at *
    have op2 : Open free other := fun p hp => hsign_bare_all hp ⟨pa, by omega, f1⟩ ⟨re, by omega, g1⟩ f3 g3 (op p hp)
    refine ⟨_, _, rfl, ?_⟩
    refine ⟨_, rfl, _, rfl, ⟨free, other, 7, rfl, .any (j := 0) (i := 6) (.inl ⟨by show (free.natAbs : Int) ≤ 1050000; omega, by show (other.natAbs : Int) ≤ 1050000; omega⟩), by decide, f3, g3, by omega, by omega, f2, g2, op2, fun x y z t H3 s bx b_y bz e3 ht => ?_⟩⟩
    refine ⟨t, _, rfl, SqT.of ht, rfl, _, _, rfl, _, _, rfl, _, _, rfl, rfl, ?_⟩
    have T120 := tt_le 7 (by decide)
    have cx := Int.le_trans bx T120
    have cy := Int.le_trans b_y T120
    have cz := Int.le_trans bz T120
    have fdA : a.fdiv free = pa * pa := by
      have := Int.mul_fdiv_cancel_left (pa * pa) f3
      rwa [← f1] at this
    have fdB : b.fdiv other = re * re := by
      have := Int.mul_fdiv_cancel_left (re * re) g3
      rwa [← g1] at this
    have sm : ∀ {u : Int} {m : Nat}, 1 ≤ u → u ≤ m → m ≤ 1050000 → ((u.toNat : Nat) : Int) = u ∧ u.toNat * u.toNat < 2 ^ 60 ∧ (u.natAbs : Int) ≤ 2 ^ 21 := fun {u m} h1 h2 h3 => by
      refine ⟨by omega, ?_, by omega⟩
      have : u.toNat * u.toNat ≤ 1050000 * 1050000 := Nat.mul_le_mul (by omega) (by omega)
      exact Nat.lt_of_le_of_lt this (by decide)
    obtain ⟨pA, lA, bA⟩ := sm f4 f6 a9
    obtain ⟨pB, lB, bB⟩ := sm g4 g6 b9
    have zf : free.natAbs < 2 ^ 8000 := Nat.lt_of_le_of_lt (show free.natAbs ≤ 2 ^ 22 by omega) (Nat.pow_lt_pow_right (by decide) (by decide))
    have zo : other.natAbs < 2 ^ 8000 := Nat.lt_of_le_of_lt (show other.natAbs ≤ 2 ^ 22 by omega) (Nat.pow_lt_pow_right (by decide) (by decide))
    refine ⟨_, rfl, _, rfl, _, free, rfl, rfl, CDivZ.of f3 zf, ⟨pa.toNat * pa.toNat, ?_, lA, ?_⟩⟩
    · show [V.int (a.fdiv free)] = _
      rw [fdA, Int.natCast_mul, pA]
    rw [isqrt_sq, pA]
    refine ⟨_, rfl, _, rfl, _, other, rfl, rfl, CDivZ.of g3 zo, ⟨re.toNat * re.toNat, ?_, lB, ?_⟩⟩
    · show [V.int (b.fdiv other)] = _
      rw [fdB, Int.natCast_mul, pB]
    rw [isqrt_sq, pB]
    refine ⟨_, _, rfl, ?_⟩
    have mx := natAbs_mul_le cx bB
    have my := natAbs_mul_le cy bA
    have mz := natAbs_mul_le cz bA
    have mzz := natAbs_mul_le mz bB
    have c141 : (2 : Int) ^ 120 * 2 ^ 21 ≤ 2 ^ 141 := by decide
    have up : ∀ {u : Int}, u ≤ 2 ^ 120 * 2 ^ 21 * 2 ^ 21 → u ≤ 2 ^ 165 := fun h => Int.le_trans h (by decide)
    have up1 : ∀ {u : Int}, u ≤ 2 ^ 120 * 2 ^ 21 → u ≤ 2 ^ 165 := fun h => Int.le_trans h (by decide)
    have to300 : ∀ {u : Int}, u ≤ 2 ^ 165 → u ≤ 2 ^ 300 := fun h => Int.le_trans h (by decide)
    refine ⟨_, rfl, _, rfl, _, _, rfl, rfl, cmulB cx bB (by decide) (by decide), _, rfl, _, rfl, _, _, rfl, rfl, cmulB cy bA (by decide) (by decide), _, rfl, _, rfl, _, _, rfl, rfl, cmulB cz bA (by decide) (by decide), _, rfl, _, _, rfl, rfl, cmulB (Int.le_trans mz c141) bB (by decide) (by decide), ?_⟩
    have s2 := s.2
    have ds : a * (x * re) * (x * re) + b * (y * pa) * (y * pa) = 1 * (z * pa * re) * (z * pa * re) := by
      have e : a * (x * re) * (x * re) + b * (y * pa) * (y * pa) = pa * pa * (re * re) * (free * x * x + other * y * y) := by
        rw [f1, g1]
        grind
      rw [e, s2]
      grind
    have nz : ¬ (x * re = 0 ∧ y * pa = 0 ∧ z * pa * re = 0) := fun ⟨u1, u2, u3⟩ => by
      have r0 : re ≠ 0 := by omega
      have p0 : pa ≠ 0 := by omega
      refine s.1 ⟨(Int.mul_eq_zero.mp u1).resolve_right r0, (Int.mul_eq_zero.mp u2).resolve_right p0, ?_⟩
      exact (Int.mul_eq_zero.mp ((Int.mul_eq_zero.mp u3).resolve_right r0)).resolve_right p0
    refine ⟨_, _, _, rfl, nz, to300 (up1 mx), to300 (up1 my), to300 (up mzz), fun g x' y' z' t4 H4 g0 ex ey ez e4 ht4 => ?_⟩
    rw [ex, ey, ez] at ds nz
    exact q x' y' z' t4 H4 (sol_div g0 nz ds) (div_bd g0 ex (up1 mx)) (div_bd g0 ey (up1 my)) (div_bd g0 ez (up mzz)) (((e1.trans e2).trans e3).trans e4) ht4
end
end Sf

namespace Sf
open PySem PySem.Spec PyProof.Rows L2
/-! the law's own places -/
theorem dvd_mod {a b : Int} : a % b = 0 ↔ b ∣ a := ⟨Int.dvd_of_emod_eq_zero, Int.emod_eq_zero_of_dvd⟩
/-- what stands while primes are taken out one by one -/
structure PrJ (N : Int) (ks : List Int) (left d : Int) (i : Nat) : Prop where
  d2 : 2 ≤ d
  odd : d = 2 ∨ d % 2 = 1
  nod : ∀ k : Int, 2 ≤ k → k < d → left % k ≠ 0
  pos : 1 ≤ left
  pr : ∀ k ∈ ks, PrP k ∧ N % k = 0
  dv : ∀ p, PrP p → N % p = 0 → p ∈ ks ∨ left % p = 0
  ld : ∀ p : Int, left % p = 0 → N % p = 0
  st : ∃ v : Nat, 2 ^ v * left ≤ N ∧ ks.length ≤ v ∧ 2 * (i : Int) + 1 ≤ d + 2 * v
  dl : d ≤ 2 * i + 2
theorem prj_start {N : Int} (h : 1 ≤ N) : PrJ N [] N 2 0 := ⟨by decide, .inl rfl, fun k a b => by omega, h, fun k hk => (by cases hk), fun p _ d => .inr d, fun _ d => d, ⟨0, by rw [Int.pow_zero, Int.one_mul]; exact Int.le_refl _, by decide, by decide⟩, by decide⟩
theorem two_mul_pow {v : Nat} {x : Int} (h : 0 ≤ x) : x ≤ 2 ^ v * x := by
  have : (1 : Int) ≤ 2 ^ v := Int.pow_pos (by decide)
  have := Int.mul_le_mul_of_nonneg_right this h
  omega
theorem PrJ.le {N left d : Int} {ks : List Int} {i : Nat} (h : PrJ N ks left d i) : left ≤ N := by
  obtain ⟨v, h1, _⟩ := h.st
  have := two_mul_pow (v := v) (Int.le_of_lt (Int.lt_of_lt_of_le Int.zero_lt_one h.pos))
  omega
theorem pow_few {v : Nat} {x N : Int} (hx : 1 ≤ x) (h : 2 ^ v * x ≤ N) (hN : N ≤ 1000000) : v ≤ 19 := by
  rcases Nat.lt_or_ge 19 v with c | c
  · exfalso
    have h2 : (2 : Int) ^ v * 1 ≤ 2 ^ v * x := Int.mul_le_mul_of_nonneg_left hx (Int.le_of_lt (Int.pow_pos (by decide)))
    have h3 : (2 : Int) ^ 20 ≤ 2 ^ v := by
      rw [show v = 20 + (v - 20) by omega, Int.pow_add]
      have h4 : (1 : Int) ≤ 2 ^ (v - 20) := Int.pow_pos (by decide)
      have : (2 : Int) ^ 20 * 1 ≤ 2 ^ 20 * 2 ^ (v - 20) := Int.mul_le_mul_of_nonneg_left h4 (by decide)
      omega
    have h5 : (2 : Int) ^ 20 = 1048576 := by decide
    omega
  · exact c
theorem PrJ.few {N left d : Int} {ks : List Int} {i : Nat} (h : PrJ N ks left d i) (hN : N ≤ 1000000) : ks.length ≤ 19 := by
  obtain ⟨v, h1, h2, _⟩ := h.st
  exact Nat.le_trans h2 (pow_few h.pos h1 hN)
theorem PrJ.big {N left d : Int} {ks : List Int} (h : PrJ N ks left d 1100) (hN : N ≤ 1000000) : left < d * d := by
  obtain ⟨v, h1, h2, h3⟩ := h.st
  have := pow_few h.pos h1 hN
  have l := h.le
  have d3 : (2000 : Int) ≤ d := by
    have : ((1100 : Nat) : Int) = 1100 := rfl
    omega
  have : (2000 : Int) * 2000 ≤ d * d := Int.mul_le_mul d3 d3 (by decide) (by omega)
  omega
theorem PrJ.up {N left d : Int} {ks : List Int} {i : Nat} (h : PrJ N ks left d i) (hm : left % d ≠ 0) : PrJ N ks left (d + 1 + (if d > 2 then 1 else 0)) (i + 1) := by
  have d2 := h.d2
  refine ⟨by split <;> omega, ?_, fun k k2 hk hz => ?_, h.pos, h.pr, h.dv, h.ld, ?_, ?_⟩
  · rcases h.odd with o | o
    · rw [o]; right; decide
    · right; rw [if_pos (by omega)]; omega
  · by_cases c : k < d
    · exact h.nod k k2 c hz
    by_cases c2 : k = d
    · rw [c2] at hz; exact hm hz
    split at hk
    · rename_i g
      have e : k = d + 1 := by omega
      have o := h.odd.resolve_left (by omega)
      refine h.nod 2 (by decide) (by omega) (dvd_mod.mpr (Int.dvd_trans ⟨(d + 1) / 2, by omega⟩ (dvd_mod.mp (e ▸ hz))))
    · omega
  · obtain ⟨v, a, b, c⟩ := h.st
    refine ⟨v, a, b, ?_⟩
    rcases h.odd with o | o
    · have : v ≠ 0 ∨ i = 0 := by omega
      subst o
      rw [if_neg (by decide)]
      omega
    · rw [if_pos (by omega)]; omega
  · have := h.dl
    split <;> omega
theorem PrJ.down {N left d : Int} {ks ks' : List Int} {i : Nat} (h : PrJ N ks left d i) (hm : left % d = 0) (hk : ks' = if d ∈ ks then ks else ks ++ [d]) : PrJ N ks' (left / d) d (i + 1) := by
  have d2 := h.d2
  have l1 := h.pos
  obtain ⟨u, hu⟩ := dvd_mod.mp hm
  have eu : left / d = u := by rw [hu]; exact Int.mul_ediv_cancel_left u (by omega)
  rw [eu]
  have u1 : 1 ≤ u := by
    rcases Int.lt_or_le u 1 with c | c
    · exfalso
      have : d * u ≤ 0 := Int.mul_nonpos_of_nonneg_of_nonpos (by omega) (by omega)
      omega
    · exact c
  have ud : ∀ k : Int, u % k = 0 → left % k = 0 := fun k z => dvd_mod.mpr (Int.dvd_trans (dvd_mod.mp z) ⟨d, by rw [hu, Int.mul_comm]⟩)
  have pd : PrP d := ⟨d2, fun k k2 kd z => h.nod k k2 kd (dvd_mod.mpr (Int.dvd_trans (dvd_mod.mp z) (dvd_mod.mp hm)))⟩
  have sub : ∀ k, k ∈ ks' ↔ k ∈ ks ∨ k = d := fun k => by
    rw [hk]
    split
    · rename_i c
      exact ⟨.inl, fun z => z.elim id fun e => e ▸ c⟩
    · rw [List.mem_append, List.mem_singleton]
  refine ⟨d2, h.odd, fun k k2 kd z => h.nod k k2 kd (ud k z), u1, fun k hk => ?_, fun p hp z => ?_, fun p z => h.ld p (ud p z), ?_, ?_⟩
  · rcases (sub k).mp hk with c | c
    · exact h.pr k c
    · rw [c]; exact ⟨pd, h.ld d hm⟩
  · rcases h.dv p hp z with c | c
    · exact .inl ((sub p).mpr (.inl c))
    · rw [dvd_mod, hu] at c
      rcases prime_mul hp c with c | c
      · exact .inl ((sub p).mpr (.inr (prime_dvd_prime hp pd c)))
      · exact .inr (dvd_mod.mpr c)
  · obtain ⟨v, a, b, c⟩ := h.st
    refine ⟨v + 1, ?_, ?_, by omega⟩
    · refine Int.le_trans ?_ a
      rw [Int.pow_succ, Int.mul_assoc, hu]
      exact Int.mul_le_mul_of_nonneg_left (Int.mul_le_mul_of_nonneg_right d2 (by omega)) (Int.le_of_lt (Int.pow_pos (by decide)))
    · rw [hk]
      split
      · omega
      · rw [List.length_append]
        show ks.length + 1 ≤ _
        omega
  · have := h.dl
    omega
/-- the primes of a number -/
structure PrimesOf (n : Int) (l : List Int) : Prop where
  pr : ∀ k ∈ l, PrP k ∧ n % k = 0
  all : ∀ p, PrP p → n % p = 0 → p ∈ l
theorem PrJ.fin {N left d : Int} {ks ks' : List Int} {i : Nat} (h : PrJ N ks left d i) (hb : left < d * d) (hk : ks' = if left > 1 ∧ left ∉ ks then ks ++ [left] else ks) : PrimesOf N ks' := by
  have pl : left > 1 → PrP left := fun g => prp_of_trial (by omega) h.d2 h.nod hb
  constructor
  · intro k m
    rw [hk] at m
    split at m
    · rename_i c
      rcases List.mem_append.mp m with m | m
      · exact h.pr k m
      · rw [List.mem_singleton.mp m]
        exact ⟨pl c.1, h.ld _ (by rw [Int.emod_self])⟩
    · exact h.pr k m
  · intro p hp z
    rw [hk]
    rcases h.dv p hp z with c | c
    · split
      · exact List.mem_append_left _ c
      · exact c
    · have l1 := h.pos
      by_cases g : left > 1
      · have e : p = left := prime_dvd_prime hp (pl g) (dvd_mod.mp c)
        subst e
        split
        · exact List.mem_append_right _ (List.mem_singleton.mpr rfl)
        · rename_i q
          by_cases m : p ∈ ks
          · exact m
          · exact absurd ⟨g, m⟩ q
      · exfalso
        have e : left = 1 := by omega
        rw [e] at c
        have := hp.1
        rw [Int.emod_eq_of_lt (by decide) (by omega)] at c
        omega
section
variable {P : Program} {w : World} {K : PySem.W.Frag} {mg : Str → Option Value} {base : Heap} {f : Addr} {fd : FuncData}
def spLPrimes : Sp := fun vs H Q _ => ∃ n : Int, vs = [.int n] ∧ n ≠ 0 ∧ n.natAbs ≤ 1000000 ∧ ∀ (L : Addr) (l : List Int) (H' : Hp), Same H H' → H' L = some (.lst (l.map V.int)) → l.length ≤ 20 → PrimesOf n l → Q (.ref L) H'
set_option maxHeartbeats 8000000 in
theorem ok_lprimes (F : FnD K "_law_primes" "_law_primes" s_L_primes f fd) (T : Glob mg) : FnOk P w K mg base CX0 1 f fd ["_law_number_here"] spLPrimes := by
  refine F.ok sc_L_primes (fun vs H Q E h => ?_) (fun cdv A outer s H vs Q E hr h => ?_)
  · obtain ⟨n, rfl, _⟩ := h; rfl
  · obtain ⟨n, rfl, n0, nb, q⟩ := h
    refine ⟨_, PSs.nox (pss_cons (ps_par3 (i := 1) (j := 2) (l := 3) (by rfl) sc_L_primes.nd rfl rfl rfl (by decide) (by decide) (by decide) rfl rfl rfl (pa_cons (pe_lst pa_nil) (pa_cons (pe_callB call_abs (by rfl) T.m_abs (by decide +kernel) (pa_cons (pv 0) pa_nil)) (pa_cons pe_int pa_nil))) (by rfl))
      (Evl.pss_cut (ps_for PassesOwn.never rfl (pi_range1 (by rfl) T.m_range (pa_cons pe_int pa_nil)) (pg_name (i := 4) sc_L_primes.nd rfl (Or.inl rfl)) (pss_cons (ps_if (pt_cmp (pc_gt (pe_op op_mulW (pv 3) (pv 3)) (pv 2))) (pss_one ps_break) pss_nil)
      (pss_one (ps_if (pt_cmp (pc_gt (pe_op op_mod (pe_callTy call_int1 (by rfl) T.m_int (by decide +kernel) (pa_cons (pv 2) pa_nil)) (pv 3)) pe_int)) (pss_one (ps_set (i := 3) sc_L_primes.nd rfl (Or.inl rfl) (pe_op op_add (pe_op op_add (pv 3) pe_int) (pe_callTy call_int1 (by rfl) T.m_int (by decide +kernel) (pa_cons (pe_cmp (pc_gt (pv 3) pe_int) rfl) pa_nil))))) (pss_cons (ps_set (i := 1) sc_L_primes.nd rfl (Or.inl rfl) (pe_ifExp (pt_cmpR op_notIn_seq (pv 3) (pv 1) (by rfl)) (pe_op op_cat (pv 1) (pe_lst (pa_cons (pv 3) pa_nil))) (pv 1)))
      (pss_one (ps_set (i := 2) sc_L_primes.nd rfl (Or.inl rfl) (pe_op op_fdivW (pv 2) (pv 3)))))))))
      (pss_one (ps_ret (pe_ifExp (PW.pt (pw_and (pt_cmp (pc_gt (pv 2) pe_int)) (pw_and1 (pt_cmpR op_notIn_seq (pv 2) (pv 1) (by rfl))))) (pe_op op_cat (pv 1) (pe_lst (pa_cons (pv 2) pa_nil))) (pv 1)))))), ?_⟩
    obtain ⟨N, eN, hN1, hN2⟩ : ∃ N : Int, (if n < 0 then -n else n) = N ∧ 1 ≤ N ∧ N ≤ 1000000 := ⟨_, rfl, by split <;> omega, by split <;> omega⟩
    have nN : ∀ p : Int, n % p = 0 ↔ N % p = 0 := fun p => by
      rw [dvd_mod, dvd_mod, ← eN]
      split
      · exact Int.dvd_neg.symm
      · exact Iff.rfl
    refine ⟨(by show 0 ≤ sizeLine; decide), fun D hD => ⟨_, rfl, n, rfl, ?_⟩⟩
    rw [eN]
    refine ⟨_, _, _, rfl, ⟨fun σ H' => ∃ (ks : List Int) (left d : Int) (L : Addr) (v4 : Option V) (i : Nat), σ = [some (.int n), some (.ref L), some (.int left), some (.int d), v4] ∧ Same H H' ∧ H' L = some (.lst (ks.map V.int)) ∧ PrJ N ks left d i ∧ i ≤ 1100 ∧ left < d * d, ?_, ?_⟩⟩
    · refine ⟨_, rfl, by decide, by decide, ?_⟩
      refine for_range (lo := 0) (n := 1100) (fun i σ H' => ∃ (ks : List Int) (left d : Int) (L : Addr) (v4 : Option V), σ = [some (.int n), some (.ref L), some (.int left), some (.int d), v4] ∧ Same H H' ∧ H' L = some (.lst (ks.map V.int)) ∧ PrJ N ks left d i) ⟨[], N, 2, D, none, rfl, same_upd hD, upd_same, prj_start hN1⟩ ?_ ?_
      · rintro i σ H1 hi ⟨ks, left, d, L, v4, rfl, e1, hL, hJ⟩
        have d2 := hJ.d2
        have dl := hJ.dl
        have l1 := hJ.pos
        have lN := hJ.le
        have few := hJ.few hN2
        refine ⟨_, rfl, _, rfl, _, _, rfl, rfl, CMulW.of (lt3000s (by omega) (by omega)) (lt3000s (by omega) (by omega)), _, rfl, _, _, rfl, rfl, _, rfl, ifd (fun c => ?_) (fun c => ?_)⟩
        · exact ⟨ks, left, d, L, _, i, rfl, e1, hL, hJ, by omega, by omega⟩
        have d0 : (0 : Int) < d := by omega
        refine ⟨_, rfl, .inl ⟨_, rfl, _, rfl, _, _, rfl, rfl, d0, _, _, rfl, rfl, _, rfl, ifd (fun h => ?_) (fun h => ?_)⟩⟩
        · have hm : left % d ≠ 0 := fun z => by
            rw [z] at h
            exact absurd h (by decide)
          have J2 := hJ.up hm
          have e : (if decide (2 < d) = true then (1 : Int) else 0) = if d > 2 then 1 else 0 := by
            by_cases g : 2 < d
            · rw [if_pos g, if_pos (decide_eq_true g)]
            · rw [if_neg g, if_neg (by rw [decide_eq_false g]; decide)]
          rw [← e] at J2
          refine ⟨_, rfl, _, _, rfl, rfl, _, rfl, _, _, rfl, rfl, .inr ⟨_, rfl, _, _, rfl, rfl, ?_⟩⟩
          exact ⟨ks, left, _, L, _, rfl, e1, hL, J2⟩
        · have hm : left % d = 0 := by
            have := Int.emod_nonneg left (show d ≠ 0 by omega)
            have h2 : ¬ (0 : Int) < left % d := h
            omega
          refine ⟨_, rfl, _, rfl, L, _, rfl, .inl (SqL.of hL), rfl, all_flat ks, ?_⟩
          rw [if_pos rfl, inV_ints]
          refine ⟨_, rfl, ?_⟩
          by_cases m : d ∈ ks
          · rw [decide_eq_true m]
            refine ⟨_, rfl, ?_⟩
            refine ⟨_, rfl, _, rfl, _, _, rfl, rfl, CDivW.of d0 (lt3000s (by omega) (by omega)), ?_⟩
            exact ⟨ks, _, d, L, _, rfl, e1, hL, hJ.down hm (by rw [if_pos m])⟩
          · rw [decide_eq_false m]
            refine (if_pos rfl).mpr ?_
            refine ⟨_, rfl, _, rfl, (by show 1 ≤ sizeLine; decide), fun g hg => ⟨L, g, _, _, rfl, rfl, same_upd hg _ _ hL, upd_same, ?_, fun p hp => ?_⟩⟩
            · rw [List.length_map]
              exact Nat.le_trans (show ks.length + 1 ≤ 20 by omega) (by decide)
            · refine ⟨_, rfl, _, rfl, _, _, rfl, rfl, CDivW.of d0 (lt3000s (by omega) (by omega)), ?_⟩
              refine ⟨ks ++ [d], _, d, p, _, rfl, (e1.trans (same_upd hg)).trans (same_upd hp), ?_, hJ.down hm (by rw [if_neg m])⟩
              rw [upd_same, List.map_append]
              rfl
      · rintro σ H1 ⟨ks, left, d, L, v4, rfl, e1, hL, hJ⟩
        exact ⟨ks, left, d, L, v4, 1100, rfl, e1, hL, hJ, Nat.le_refl _, hJ.big hN2⟩
    · rintro σ H1 ⟨ks, left, d, L, v4, i, rfl, e1, hL, hJ, hi, hb⟩
      have q0 : ∀ (ks' : List Int) (L' : Addr) (H' : Hp), ks' = (if left > 1 ∧ left ∉ ks then ks ++ [left] else ks) → Same H1 H' → H' L' = some (.lst (ks'.map V.int)) → Q (.ref L') H' := fun ks' L' H' e e2 hl => by
        have f := hJ.fin hb e
        refine q L' ks' H' (e1.trans e2) hl ?_ ⟨fun k m => ⟨(f.pr k m).1, (nN k).mpr (f.pr k m).2⟩, fun p hp z => f.all p hp ((nN p).mp z)⟩
        have := hJ.few hN2
        rw [e]
        split
        · rw [List.length_append]
          show ks.length + 1 ≤ 20
          omega
        · omega
      refine ⟨_, rfl, _, _, rfl, rfl, _, rfl, ifd (fun c => ?_) (fun c => ?_)⟩
      · refine ⟨_, rfl, _, rfl, L, _, rfl, .inl (SqL.of hL), rfl, all_flat ks, ?_⟩
        rw [if_pos rfl, inV_ints]
        refine ⟨_, rfl, ?_⟩
        by_cases m : left ∈ ks
        · rw [decide_eq_true m]
          exact ⟨_, rfl, q0 ks L H1 (by rw [if_neg (fun z => z.2 m)]) (Same.refl _) hL⟩
        · rw [decide_eq_false m]
          refine (if_pos rfl).mpr ?_
          refine ⟨_, rfl, _, rfl, (by show 1 ≤ sizeLine; decide), fun g hg => ⟨L, g, _, _, rfl, rfl, same_upd hg _ _ hL, upd_same, ?_, fun p hp => ?_⟩⟩
          · rw [List.length_map]
            have := hJ.few hN2
            exact Nat.le_trans (show ks.length + 1 ≤ 20 by omega) (by decide)
          · refine q0 (ks ++ [left]) p _ (by rw [if_pos ⟨c, m⟩]) ((same_upd hg).trans (same_upd hp)) ?_
            rw [upd_same, List.map_append]
            rfl
      · exact ⟨_, rfl, q0 ks L H1 (by rw [if_neg (fun z => c z.1)]) (Same.refl _) hL⟩
end
end Sf

namespace Sf
open PySem PySem.Spec PyProof.Rows L2
section
variable {P : Program} {w : World} {K : PySem.W.Frag} {mg : Str → Option Value} {base : Heap} {f : Addr} {fd : FuncData}
theorem strip_end {n p u : Int} {m : Nat} (h2 : 2 ≤ p) (u0 : u ≠ 0) (hb : n.natAbs ≤ 1000000) (e : n = p ^ m * u) : m < 20 := by
  rcases Nat.lt_or_ge m 20 with c | c
  · exact c
  · exfalso
    have h1 : n.natAbs = p.natAbs ^ m * u.natAbs := by rw [e, Int.natAbs_mul, Int.natAbs_pow]
    have h3 : 2 ^ 20 ≤ p.natAbs ^ m := Nat.le_trans (Nat.pow_le_pow_right (by decide) c) (Nat.pow_le_pow_left (by omega) m)
    have h4 : 2 ^ 20 * 1 ≤ p.natAbs ^ m * u.natAbs := Nat.mul_le_mul h3 (by omega)
    have h5 : 2 ^ 20 = 1048576 := by decide
    omega
def spLStrip : Sp := fun vs H Q _ => ∃ n p : Int, vs = [.int n, .int p] ∧ n ≠ 0 ∧ 2 ≤ p ∧ n.natAbs ≤ 1000000 ∧ p ≤ 1000000 ∧
  ∀ (m : Nat) (u : Int) (a : Addr) (H' : Hp), Strip n p m u → m < 20 → Same H H' → H' a = some (.tup [.int m, .int u]) → Q (.ref a) H'
theorem ok_lstrip (F : FnD K "_law_parts" "_law_parts" s_L_parts f fd) (T : Glob mg) : FnOk P w K mg base CX0 1 f fd ["_law_number_here", "_law_prime"] spLStrip := by
  refine F.ok sc_L_parts (fun vs H Q E h => ?_) (fun cdv A outer s H vs Q E hr h => ?_)
  · obtain ⟨n, p, rfl, _⟩ := h; rfl
  · obtain ⟨n, p, rfl, hn, hp, nb, pb, q⟩ := h
    refine ⟨_, PSs.nox (pss_cons (ps_par (i := 2) (j := 3) (by rfl) sc_L_parts.nd rfl rfl (by decide) rfl rfl (pa_cons pe_int (pa_cons (pv 0) pa_nil)) (by rfl))
      (Evl.pss_cut (ps_for PassesOwn.never rfl (pi_range1 (by rfl) T.m_range (pa_cons pe_int pa_nil)) (pg_name (i := 4) sc_L_parts.nd rfl (Or.inl rfl)) (pss_cons (ps_if (pt_cmp (pc_gt (pe_op op_mod (pe_callTy call_int1 (by rfl) T.m_int (by decide +kernel) (pa_cons (pv 3) pa_nil)) (pv 1)) pe_int)) (pss_one ps_break) pss_nil)
      (pss_one (ps_par (i := 2) (j := 3) (by rfl) sc_L_parts.nd rfl rfl (by decide) rfl rfl (pa_cons (pe_op op_add (pv 2) pe_int) (pa_cons (pe_op op_fdivW (pv 3) (pv 1)) pa_nil)) (by rfl)))))
      (pss_one (ps_ret (pe_tup (pa_cons (pv 2) (pa_cons (pv 3) pa_nil))))))), ?_⟩
    refine ⟨_, rfl, _, _, rfl, ⟨fun σ H' => H = H' ∧ ∃ (m : Nat) (u : Int) (v4 : Option V), σ = [some (.int n), some (.int p), some (.int m), some (.int u), v4] ∧ Strip n p m u ∧ m < 20, ?_, ?_⟩⟩
    · refine ⟨_, rfl, by decide, by decide, ?_⟩
      refine for_range (lo := 0) (n := 60) (fun i σ H' => H = H' ∧ ∃ (u : Int) (v4 : Option V), σ = [some (.int n), some (.int p), some (.int i), some (.int u), v4] ∧ n = p ^ i * u ∧ u ≠ 0) ⟨rfl, n, none, rfl, by simp, hn⟩ ?_ ?_
      · rintro i σ _ hi ⟨rfl, u, v4, rfl, e, u0⟩
        have i20 := strip_end hp u0 nb e
        have p0 : (0 : Int) < p := by omega
        refine ⟨_, rfl, .inl ⟨_, rfl, _, rfl, _, _, rfl, rfl, p0, _, _, rfl, rfl, _, rfl, ifd (fun h => ?_) (fun h => ?_)⟩⟩
        · refine ⟨rfl, i, u, _, rfl, ⟨e, fun z => ?_⟩, i20⟩
          rw [z] at h
          exact absurd h (by decide)
        · have hm : u % p = 0 := by
            have := Int.emod_nonneg u (show p ≠ 0 by omega)
            have h2 : ¬ (0 : Int) < u % p := h
            omega
          have hl := strip_less u0 hp hm
          refine ⟨_, rfl, _, _, rfl, rfl, _, rfl, _, rfl, _, _, rfl, rfl, CDivW.of p0 (lt3000s (by omega) (by omega)), _, _, rfl, ?_⟩
          refine ⟨rfl, u / p, _, rfl, ?_, hl.2.1⟩
          rw [e, Int.pow_succ, Int.mul_assoc, ← hl.2.2]
      · rintro σ _ ⟨rfl, u, v4, rfl, e, u0⟩
        exact absurd (strip_end hp u0 nb e) (by decide)
    · rintro σ _ ⟨rfl, m, u, v4, rfl, hS, hm⟩
      refine ⟨_, rfl, _, rfl, (by show 2 ≤ sizeLine; decide), fun a ha => ?_⟩
      exact q m u a _ hS hm (same_upd ha) upd_same
def spLRes : Sp := fun vs H Q _ => ∃ n p : Int, vs = [.int n, .int p] ∧ 3 ≤ p ∧ p % 2 = 1 ∧ p ≤ 1000000 ∧ n % p ≠ 0 ∧ Q (.int (restSign n p)) H
theorem ok_lres (F : FnD K "_law_residue" "_law_residue" s_L_residue f fd) (T : Glob mg) : FnOk P w K mg base CX0 1 f fd ["_law_number_here", "_law_prime"] spLRes := by
  refine F.ok sc_L_residue (fun vs H Q E h => ?_) (fun cdv A outer s H vs Q E hr h => ?_)
  · obtain ⟨n, p, rfl, _⟩ := h; rfl
  · obtain ⟨n, p, rfl, hp, odd, hb, nz, q⟩ := h
    have hm0 : (0 : Int) < p := by omega
    have hb3 : p.natAbs < 2 ^ 1000 := Nat.lt_of_le_of_lt (by omega : p.natAbs ≤ 1000000) (by decide +kernel)
    refine ⟨_, PSs.nox (pss_cons (ps_par3 (i := 2) (j := 3) (l := 4) (by rfl) sc_L_residue.nd rfl rfl rfl (by decide) (by decide) (by decide) rfl rfl rfl (pa_cons pe_int (pa_cons (pe_op op_mod (pe_callTy call_int1 (by rfl) T.m_int (by decide +kernel) (pa_cons (pv 0) pa_nil)) (pv 1)) (pa_cons (pe_op op_fdivW (pe_op op_sub (pv 1) pe_int) pe_int) pa_nil))) (by rfl))
      (Evl.pss_cut (ps_for PassesOwn.never rfl (pi_range1 (by rfl) T.m_range (pa_cons pe_int pa_nil)) (pg_name (i := 5) sc_L_residue.nd rfl (Or.inl rfl)) (pss_cons (ps_if (pt_cmp (pc_eqI (pv 4) pe_int)) (pss_one ps_break) pss_nil)
      (pss_cons (ps_if (pt_cmp (pc_neI (pe_op op_mulW (pe_op op_fdivW (pv 4) pe_int) pe_int) (pv 4))) (pss_one (ps_set (i := 2) sc_L_residue.nd rfl (Or.inl rfl) (pe_op op_mod (pe_callTy call_int1 (by rfl) T.m_int (by decide +kernel) (pa_cons (pe_op op_mulW (pv 2) (pv 3)) pa_nil)) (pv 1)))) pss_nil)
      (pss_one (ps_par (i := 3) (j := 4) (by rfl) sc_L_residue.nd rfl rfl (by decide) rfl rfl (pa_cons (pe_op op_mod (pe_callTy call_int1 (by rfl) T.m_int (by decide +kernel) (pa_cons (pe_op op_mulW (pv 3) (pv 3)) pa_nil)) (pv 1)) (pa_cons (pe_op op_fdivW (pv 4) pe_int) pa_nil)) (by rfl))))))
      (pss_one (ps_ret (pe_ifExp (pt_cmp (pc_eqI (pv 2) pe_int)) pe_int (pe_un un_neg pe_int)))))), ?_⟩
    have hrs : restSign n p = if n ^ ((p - 1) / 2).toNat % p = 1 then 1 else -1 := by
      unfold restSign
      rw [if_neg nz, if_neg (by omega)]
    rw [hrs] at q
    refine ⟨_, rfl, .inl ⟨_, rfl, _, rfl, _, _, rfl, rfl, hm0, _, rfl, _, _, rfl, rfl, _, _, rfl, rfl, CDivW.of (by decide) (by decide +kernel), _, _, _, rfl, ?_⟩⟩
    refine ⟨fun σ H' => H = H' ∧ ∃ (sq : Int) (v5 : Option V), σ = [some (.int n), some (.int p), some (.int (n ^ ((p - 1) / 2).toNat % p)), some (.int sq), some (.int 0), v5], ?_, ?_⟩
    · refine ⟨_, rfl, by decide, by decide, ?_⟩
      refine for_range (lo := 0) (n := 40) (fun i σ H' => H = H' ∧ ∃ (k' made sq : Int) (v5 : Option V), σ = [some (.int n), some (.int p), some (.int made), some (.int sq), some (.int k'), v5] ∧ 0 ≤ k' ∧ k' * 2 ^ i ≤ 1000000 ∧ (made * sq ^ k'.toNat) % p = n ^ ((p - 1) / 2).toNat % p ∧ made % p = made ∧ made.natAbs < 2 ^ 3000 ∧ sq.natAbs < 2 ^ 3000) ⟨rfl, (p - 1) / 2, 1, n % p, none, rfl, by omega, by rw [Int.pow_zero]; omega, ?_, Int.emod_eq_of_lt (by decide) (by omega), by decide +kernel, mod_lt3000 (by omega) hb3⟩ ?_ ?_
      · rw [Int.one_mul]
        exact pow_mod _ _ _
      · rintro i σ _ hi ⟨rfl, k', made, sq, v5, rfl, hk', kb, e, em, b1, b2⟩
        have sq2 : ∀ made' : Int, (made' * (sq * sq % p) ^ (k' / 2).toNat) % p = (made' * (sq * sq) ^ (k' / 2).toNat) % p := fun made' => by
          rw [Int.mul_emod, pow_mod, ← Int.mul_emod]
        have kk : k' ≤ 1000000 := by
          have : (1 : Int) ≤ 2 ^ i := Int.pow_pos (by decide)
          have := Int.mul_le_mul_of_nonneg_left this hk'
          omega
        have kb2 : k' / 2 * 2 ^ (i + 1) ≤ 1000000 := by
          refine Int.le_trans ?_ kb
          rw [Int.pow_succ, Int.mul_comm (2 ^ i) 2, ← Int.mul_assoc]
          exact Int.mul_le_mul_of_nonneg_right (by omega) (Int.le_of_lt (Int.pow_pos (by decide)))
        refine ⟨_, rfl, _, _, rfl, rfl, _, rfl, ifd (fun h1 => ?_) (fun h1 => ?_)⟩
        · have h1 : k' = 0 := h1
          subst h1
          refine ⟨rfl, sq, some (.int (0 + i)), ?_⟩
          have em2 : made = n ^ ((p - 1) / 2).toNat % p := by
            rw [← e, ← em]
            simp
          rw [← em2]
          rfl
        · have hh := pow_half sq k' (by have h1 : ¬ k' = 0 := h1; omega)
          refine ⟨_, rfl, _, _, rfl, rfl, CDivW.of (by decide) (lt3000s (by omega) (by omega)), _, _, rfl, rfl, CMulW.of (lt3000s (by omega) (by omega)) (by decide +kernel), _, rfl, _, _, rfl, rfl, _, rfl, ifn (fun c2 => ?_) (fun c2 => ?_)⟩
          · have c2 : ¬ k' / 2 * 2 = k' := c2
            refine ⟨_, rfl, _, rfl, _, _, rfl, rfl, CMulW.of b1 b2, .inl ⟨_, rfl, _, rfl, _, _, rfl, rfl, hm0, ?_⟩⟩
            refine ⟨_, rfl, _, rfl, _, _, rfl, rfl, CMulW.of b2 b2, .inl ⟨_, rfl, _, rfl, _, _, rfl, rfl, hm0, _, rfl, _, _, rfl, rfl, CDivW.of (by decide) (by decide +kernel), _, _, rfl, ?_⟩⟩
            refine ⟨rfl, k' / 2, _, _, some (.int (0 + i)), rfl, by omega, kb2, ?_, Int.emod_emod_of_dvd _ (Int.dvd_refl _), mod_lt3000 (by omega) hb3, mod_lt3000 (by omega) hb3⟩
            rw [sq2, ← e, hh, show k' % 2 = 1 by omega, Int.mul_emod, Int.emod_emod_of_dvd _ (Int.dvd_refl _), ← Int.mul_emod]
            congr 1
            simp
            grind
          · have c2 : k' / 2 * 2 = k' := c2
            refine ⟨_, rfl, _, rfl, _, _, rfl, rfl, CMulW.of b2 b2, .inl ⟨_, rfl, _, rfl, _, _, rfl, rfl, hm0, _, rfl, _, _, rfl, rfl, CDivW.of (by decide) (by decide +kernel), _, _, rfl, ?_⟩⟩
            refine ⟨rfl, k' / 2, _, _, some (.int (0 + i)), rfl, by omega, kb2, ?_, em, b1, mod_lt3000 (by omega) hb3⟩
            rw [sq2, ← e, hh, show k' % 2 = 0 by omega]
            simp
      · rintro σ _ ⟨rfl, k', made, sq, v5, rfl, hk', kb, e, em, b1, b2⟩
        have z : k' = 0 := by
          have : (2 : Int) ^ 40 = 1099511627776 := by decide
          omega
        subst z
        have em2 : made = n ^ ((p - 1) / 2).toNat % p := by
          rw [← e, ← em]
          simp
        exact ⟨rfl, sq, v5, by rw [← em2]⟩
    · rintro σ _ ⟨rfl, sq, v5, rfl⟩
      refine ⟨_, rfl, _, _, rfl, rfl, _, rfl, ifd (fun h2 => ?_) (fun h2 => ?_)⟩
      · rw [if_pos h2] at q
        exact q
      · rw [if_neg h2] at q
        exact ⟨_, rfl, q⟩
end
end Sf

namespace Sf
open PySem PySem.Spec PyProof.Rows L2
section
variable {P : Program} {w : World} {K : PySem.W.Frag} {mg : Str → Option Value} {base : Heap} {f : Addr} {fd : FuncData}
theorem minus_one_mod {p : Int} (h : 3 ≤ p) : (-1 : Int) % p ≠ 0 := fun z => by
  obtain ⟨k, hk⟩ := Int.dvd_of_emod_eq_zero z
  have : p ∣ 1 := ⟨-k, by rw [Int.mul_neg, ← hk]; rfl⟩
  have := Int.le_of_dvd (by decide) this
  omega
def spLSig : Sp := fun vs H Q _ => ∃ a b p : Int, vs = [.int a, .int b, .int p] ∧ a ≠ 0 ∧ b ≠ 0 ∧ a.natAbs ≤ 1000000 ∧ b.natAbs ≤ 1000000 ∧ PrP p ∧ p ≤ 1000000 ∧ ∀ (r : Int) (H' : Hp), HSign a b p r → Same H H' → Q (.int r) H'
set_option maxHeartbeats 8000000 in
theorem ok_lsig (F : FnD K "_law_sign" "_law_sign" s_L_sign f fd) (T : Glob mg) (C_L_parts : Cal P w K mg base 1 "_law_parts" ["_law_number_here", "_law_prime"] spLStrip) (C_L_residue : Cal P w K mg base 1 "_law_residue" ["_law_number_here", "_law_prime"] spLRes) : FnOk P w K mg base CX0 2 f fd ["_law_a", "_law_b", "_law_prime"] spLSig := by
  refine F.ok sc_L_sign (fun vs H Q E h => ?_) (fun cdv A outer s H vs Q E hr h => ?_)
  · obtain ⟨a, b, p, rfl, _⟩ := h; rfl
  · obtain ⟨a, b, p, rfl, a0, b0, ab, bb, hP, hp9, q⟩ := h
    refine ⟨_, PSs.nox (pss_cons (ps_asg (pe_cal C_L_parts (hr.mono (by decide)) (pa_cons (pv 0) (pa_cons (pv 2) pa_nil))) (pg_tup (by rfl) (pgs_cons (pg_name (i := 3) sc_L_sign.nd rfl (Or.inl rfl)) (pgs_cons (pg_name (i := 4) sc_L_sign.nd rfl (Or.inl rfl)) pgs_nil))))
      (pss_cons (ps_asg (pe_cal C_L_parts (hr.mono (by decide)) (pa_cons (pv 1) (pa_cons (pv 2) pa_nil))) (pg_tup (by rfl) (pgs_cons (pg_name (i := 5) sc_L_sign.nd rfl (Or.inl rfl)) (pgs_cons (pg_name (i := 6) sc_L_sign.nd rfl (Or.inl rfl)) pgs_nil))))
      (pss_cons (ps_if (pt_cmp (pc_eqI (pv 2) pe_int)) (pss_cons (ps_set (i := 7) sc_L_sign.nd rfl (Or.inl rfl) (pe_op op_add (pe_op op_add (pe_op op_mulW (pe_op op_fdivW (pe_op op_sub (pv 4) pe_int) pe_int) (pe_op op_fdivW (pe_op op_sub (pv 6) pe_int) pe_int)) (pe_op op_mulW (pv 3) (pe_op op_fdivW (pe_op op_sub (pe_op op_mulW (pv 6) (pv 6)) pe_int) pe_int))) (pe_op op_mulW (pv 5) (pe_op op_fdivW (pe_op op_sub (pe_op op_mulW (pv 4) (pv 4)) pe_int) pe_int))))
      (pss_one (ps_ret (pe_op op_sub pe_int (pe_op op_mulW pe_int (pe_op op_mod (pe_callTy call_int1 (by rfl) T.m_int (by decide +kernel) (pa_cons (pv 7) pa_nil)) pe_int)))))) pss_nil)
      (pss_cons (ps_set (i := 8) sc_L_sign.nd rfl (Or.inl rfl) (pe_cut (pe_ifExp (PW.pt (pw_and (pt_cmp (pc_neI (pe_op op_mulW (pe_op op_fdivW (pv 3) pe_int) pe_int) (pv 3))) (pw_and1 (pt_cmp (pc_neI (pe_op op_mulW (pe_op op_fdivW (pv 5) pe_int) pe_int) (pv 5)))))) (pe_cal C_L_residue (hr.mono (by decide)) (pa_cons (pe_un un_neg pe_int) (pa_cons (pv 2) pa_nil))) pe_int)))
      (pss_cons (ps_set (i := 8) sc_L_sign.nd rfl (Or.inl rfl) (pe_op op_mulW (pv 8) (pe_cut (pe_ifExp (pt_cmp (pc_neI (pe_op op_mulW (pe_op op_fdivW (pv 5) pe_int) pe_int) (pv 5))) (pe_cal C_L_residue (hr.mono (by decide)) (pa_cons (pv 4) (pa_cons (pv 2) pa_nil))) pe_int))))
      (pss_one (ps_ret (pe_op op_mulW (pv 8) (pe_cut (pe_ifExp (pt_cmp (pc_neI (pe_op op_mulW (pe_op op_fdivW (pv 3) pe_int) pe_int) (pv 3))) (pe_cal C_L_residue (hr.mono (by decide)) (pa_cons (pv 6) (pa_cons (pv 2) pa_nil))) pe_int)))))))))), ?_⟩
    have p2 := hP.1
    refine ⟨_, rfl, _, rfl, a, p, rfl, a0, p2, ab, hp9, fun m u x1 H1 hS m20 e1 hx1 => ?_⟩
    refine ⟨x1, _, rfl, .inl (.inl hx1), rfl, _, _, rfl, _, _, rfl, rfl, ?_⟩
    refine ⟨_, rfl, _, rfl, b, p, rfl, b0, p2, bb, hp9, fun n v x2 H2 hS2 n20 e2' hx2 => ?_⟩
    refine ⟨x2, _, rfl, .inl (.inl hx2), rfl, _, _, rfl, _, _, rfl, rfl, ?_⟩
    have e2 := e1.trans e2'
    have z0 : Q (.int (sgnAt p m n u v)) H2 := q _ H2 (.inr ⟨by omega, m, n, u, v, hS, hS2, rfl⟩) e2
    obtain ⟨s1, s2⟩ := strip_le p2 hS
    obtain ⟨s3, s4⟩ := strip_le p2 hS2
    clear q e1 e2 e2' hx1 hx2
    have ub : u.natAbs ≤ 1000000 := by omega
    have vb : v.natAbs ≤ 1000000 := by omega
    have wm : (m : Int).natAbs < 2 ^ 3000 := lt3000s (by omega) (by omega)
    have wn : (n : Int).natAbs < 2 ^ 3000 := lt3000s (by omega) (by omega)
    have r1 := rest_small (-1) p
    have r2 := rest_small u p
    have r3 := rest_small v p
    refine ⟨_, rfl, _, _, rfl, rfl, _, rfl, ifd (fun h2 => ?_) (fun h2 => ?_)⟩
    · have h2 : p = 2 := h2
      subst h2
      have sq : ∀ k : Int, k.natAbs ≤ 1000000 → 0 ≤ k * k ∧ k * k ≤ 1000000000000 := fun k h => by
        have := Nat.mul_le_mul h h
        rw [← Int.natAbs_mul] at this
        have : 0 ≤ k * k := by
          rcases Int.le_total 0 k with c | c
          · exact Int.mul_nonneg c c
          · exact Int.mul_nonneg_of_nonpos_of_nonpos c c
        omega
      obtain ⟨u1, u2⟩ := sq u ub
      obtain ⟨v1, v2⟩ := sq v vb
      have wu : u.natAbs < 2 ^ 3000 := lt3000s (by omega) (by omega)
      have wv : v.natAbs < 2 ^ 3000 := lt3000s (by omega) (by omega)
      refine ⟨_, rfl, _, _, rfl, rfl, _, _, rfl, rfl, CDivW.of (by decide) (lt3000s (by omega) (by omega)), _, rfl, _, _, rfl, rfl, _, _, rfl, rfl, CDivW.of (by decide) (lt3000s (by omega) (by omega)), _, _, rfl, rfl, CMulW.of (lt3000s (by omega) (by omega)) (lt3000s (by omega) (by omega)), ?_⟩
      refine ⟨_, rfl, _, rfl, _, rfl, _, _, rfl, rfl, CMulW.of wv wv, _, _, rfl, rfl, _, _, rfl, rfl, CDivW.of (by decide) (lt3000s (by omega) (by omega)), _, _, rfl, rfl, CMulW.of wm (lt3000s (by omega) (by omega)), _, _, rfl, rfl, ?_⟩
      refine ⟨_, rfl, _, rfl, _, rfl, _, _, rfl, rfl, CMulW.of wu wu, _, _, rfl, rfl, _, _, rfl, rfl, CDivW.of (by decide) (lt3000s (by omega) (by omega)), _, _, rfl, rfl, CMulW.of wn (lt3000s (by omega) (by omega)), _, _, rfl, rfl, ?_⟩
      rw [sgn2] at z0
      unfold par2 at z0
      have e : ∀ X : Int, (if X % 2 = 1 then (-1 : Int) else 1) = 1 - 2 * (X % 2) := fun X => by split <;> omega
      rw [e] at z0
      have lo : ∀ X : Int, -1000000000000000000000000000000 < X % 2 := fun X => by omega
      have hi : ∀ X : Int, X % 2 < 1000000000000000000000000000000 := fun X => by omega
      refine ⟨_, rfl, .inl ⟨_, rfl, _, _, rfl, rfl, (by show (0 : Int) < 2; decide), _, _, rfl, rfl, CMulW.of (by decide +kernel) (lt3000s (lo _) (hi _)), _, _, rfl, rfl, z0⟩⟩
    · have h2 : ¬ p = 2 := h2
      have p3 : 3 ≤ p := by omega
      have po : p % 2 = 1 := by
        have := hP.2 2 (by decide) (by omega)
        omega
      have F1 : (if m * n % 2 = 1 then restSign (-1) p else 1).natAbs ≤ 1 := by split <;> omega
      have F2 : (if n % 2 = 1 then restSign u p else 1).natAbs ≤ 1 := by split <;> omega
      have F3 : (if m % 2 = 1 then restSign v p else 1).natAbs ≤ 1 := by split <;> omega
      have eS : sgnAt p m n u v = (if m * n % 2 = 1 then restSign (-1) p else 1) * (if n % 2 = 1 then restSign u p else 1) * (if m % 2 = 1 then restSign v p else 1) := by
        unfold sgnAt
        rw [if_neg h2]
      rw [eS] at z0
      have mn : m * n % 2 = 1 ↔ m % 2 = 1 ∧ n % 2 = 1 := by
        rw [Nat.mul_mod]
        rcases Nat.mod_two_eq_zero_or_one m with c | c <;> rcases Nat.mod_two_eq_zero_or_one n with d | d <;> rw [c, d] <;> decide
      have dv2 : ∀ k : Nat, k < 20 → CDivW (k : Int) 2 := fun k h => CDivW.of (by decide) (lt3000s (by omega) (by omega))
      have mu2 : ∀ k : Nat, k < 20 → CMulW ((k : Int) / 2) 2 := fun k h => CMulW.of (lt3000s (by omega) (by omega)) (by decide +kernel)
      refine ⟨fun x H' => x = .int (if m * n % 2 = 1 then restSign (-1) p else 1) ∧ H2 = H', ?_, fun x H' hx => ?_⟩
      · refine ⟨_, rfl, _, _, rfl, rfl, dv2 m m20, _, _, rfl, rfl, mu2 m m20, _, rfl, _, _, rfl, rfl, _, rfl, ifn (fun c => ?_) (fun c => ?_)⟩
        · refine ⟨_, rfl, _, _, rfl, rfl, dv2 n n20, _, _, rfl, rfl, mu2 n n20, _, rfl, _, _, rfl, rfl, _, rfl, ifn (fun d => ?_) (fun d => ?_)⟩
          · have c : ¬ (m : Int) / 2 * 2 = m := c
            have d : ¬ (n : Int) / 2 * 2 = n := d
            refine ⟨_, rfl, _, rfl, -1, p, rfl, p3, po, hp9, minus_one_mod p3, ?_, rfl⟩
            rw [if_pos (mn.mpr ⟨by omega, by omega⟩)]
          · have d : (n : Int) / 2 * 2 = n := d
            refine ⟨?_, rfl⟩
            rw [if_neg (fun z => by have := (mn.mp z).2; omega)]
        · have c : (m : Int) / 2 * 2 = m := c
          refine ⟨?_, rfl⟩
          rw [if_neg (fun z => by have := (mn.mp z).1; omega)]
      obtain ⟨rfl, rfl⟩ := hx
      generalize (if m * n % 2 = 1 then restSign (-1) p else 1) = f1 at F1 z0 ⊢
      refine ⟨_, rfl, fun x H' => x = .int (if n % 2 = 1 then restSign u p else 1) ∧ H2 = H', ?_, fun x H' hx => ?_⟩
      · refine ⟨_, rfl, _, _, rfl, rfl, dv2 n n20, _, _, rfl, rfl, mu2 n n20, _, rfl, _, _, rfl, rfl, _, rfl, ifn (fun d => ?_) (fun d => ?_)⟩
        · have d : ¬ (n : Int) / 2 * 2 = n := d
          refine ⟨_, rfl, _, rfl, u, p, rfl, p3, po, hp9, hS.2, ?_, rfl⟩
          rw [if_pos (by omega)]
        · have d : (n : Int) / 2 * 2 = n := d
          refine ⟨?_, rfl⟩
          rw [if_neg (by omega)]
      obtain ⟨rfl, rfl⟩ := hx
      generalize (if n % 2 = 1 then restSign u p else 1) = f2 at F2 z0 ⊢
      have F12 : (f1 * f2).natAbs ≤ 1 := by
        rw [Int.natAbs_mul]
        exact Nat.mul_le_mul F1 F2
      refine ⟨_, _, rfl, rfl, CMulW.of (lt3000s (by omega) (by omega)) (lt3000s (by omega) (by omega)), ?_⟩
      refine ⟨_, rfl, fun x H' => x = .int (if m % 2 = 1 then restSign v p else 1) ∧ H2 = H', ?_, fun x H' hx => ?_⟩
      · refine ⟨_, rfl, _, _, rfl, rfl, dv2 m m20, _, _, rfl, rfl, mu2 m m20, _, rfl, _, _, rfl, rfl, _, rfl, ifn (fun d => ?_) (fun d => ?_)⟩
        · have d : ¬ (m : Int) / 2 * 2 = m := d
          refine ⟨_, rfl, _, rfl, v, p, rfl, p3, po, hp9, hS2.2, ?_, rfl⟩
          rw [if_pos (by omega)]
        · have d : (m : Int) / 2 * 2 = m := d
          refine ⟨?_, rfl⟩
          rw [if_neg (by omega)]
      obtain ⟨rfl, rfl⟩ := hx
      exact ⟨_, _, rfl, rfl, CMulW.of (lt3000s (by omega) (by omega)) (lt3000s (by omega) (by omega)), z0⟩
end
end Sf

namespace Sf
open PySem PySem.Spec PyProof.Rows L2
def kvT (k : Int) : Key × V := (Sum.inl k, .bl true)
theorem merge_keys : ∀ (xs ks : List Int) (acc : List (Key × V)), acc.map (·.1) = ks.map Sum.inl → ks.Nodup → ∃ ms : List Int, (mergeK acc (xs.map kvT)).map (·.1) = ms.map Sum.inl ∧ ms.Nodup ∧ ∀ x, x ∈ ms ↔ x ∈ ks ∨ x ∈ xs
  | [], ks, acc, h, hn => ⟨ks, h, hn, fun x => by simp⟩
  | y :: xs, ks, acc, h, hn => by
    show ∃ ms : List Int, (mergeK (putK acc (Sum.inl y) (.bl true)) (xs.map kvT)).map (·.1) = ms.map Sum.inl ∧ _
    have hk : (acc.any fun kv => decide (kv.1 = (Sum.inl y : Key))) = decide (y ∈ ks) := by
      have e : (acc.any fun kv => decide (kv.1 = (Sum.inl y : Key))) = (acc.map (·.1)).any fun k => decide (k = (Sum.inl y : Key)) := by rw [List.any_map]; rfl
      rw [e, h, List.any_map]
      rw [Bool.eq_iff_iff, List.any_eq_true, decide_eq_true_iff]
      constructor
      · rintro ⟨z, hz, e⟩
        have e2 : (Sum.inl z : Key) = Sum.inl y := of_decide_eq_true e
        cases e2
        exact hz
      · exact fun hy => ⟨y, hy, decide_eq_true (p := (Sum.inl y : Key) = Sum.inl y) rfl⟩
    by_cases c : y ∈ ks
    · have e : (putK acc (Sum.inl y) (.bl true)).map (·.1) = ks.map Sum.inl := by
        unfold putK
        rw [hk, if_pos (decide_eq_true c), List.map_map, ← h]
        refine List.map_congr_left fun kv _ => ?_
        show (if kv.1 = Sum.inl y then (kv.1, V.bl true) else kv).1 = kv.1
        split <;> rfl
      obtain ⟨ms, h1, h2, h3⟩ := merge_keys xs ks _ e hn
      refine ⟨ms, h1, h2, fun x => ?_⟩
      rw [h3, List.mem_cons]
      constructor
      · exact fun z => z.elim .inl fun z => .inr (.inr z)
      · rintro (z | z | z)
        · exact .inl z
        · exact .inl (z ▸ c)
        · exact .inr z
    · have e : (putK acc (Sum.inl y) (.bl true)).map (·.1) = (ks ++ [y]).map Sum.inl := by
        unfold putK
        rw [hk, if_neg (by simpa using c), List.map_append, List.map_append, h]
        rfl
      have hn2 : (ks ++ [y]).Nodup := by
        rw [List.nodup_append]
        refine ⟨hn, by simp, fun a ha b hb e => ?_⟩
        rw [List.mem_singleton] at hb
        exact c (hb ▸ e ▸ ha)
      obtain ⟨ms, h1, h2, h3⟩ := merge_keys xs (ks ++ [y]) _ e hn2
      refine ⟨ms, h1, h2, fun x => ?_⟩
      rw [h3, List.mem_append, List.mem_singleton, List.mem_cons, or_assoc]
theorem strict_of {l : List Int} (h : l.Pairwise (· ≤ ·)) (n : l.Nodup) : l.Pairwise (· < ·) := by
  have := h.and n
  exact this.imp fun {a b} z => Int.lt_iff_le_and_ne.mpr z
theorem int_atP {l : List Int} {i : Nat} {v : V} (h : (l.map V.int)[i]? = some v) : ∃ k, l[i]? = some k ∧ v = V.int k := by
  rw [List.getElem?_map] at h
  cases e : l[i]? with
  | none => rw [e] at h; cases h
  | some z => rw [e] at h; exact ⟨z, rfl, (Option.some.inj h).symm⟩
/-- the place 0 of a pair -/
def zeroP (a b : Int) : List Int := if a < 0 ∧ b < 0 then [0] else []
theorem zeroP_mem {a b k : Int} : k ∈ zeroP a b ↔ k = 0 ∧ HSign a b k (-1) := by
  unfold zeroP
  constructor
  · intro h
    split at h
    · rename_i c
      have e := List.mem_singleton.mp h
      exact ⟨e, .inl ⟨e, by rw [if_pos c]⟩⟩
    · cases h
  · rintro ⟨e, h⟩
    rcases h with ⟨_, h⟩ | ⟨h, _⟩
    · split at h
      · rename_i c
        rw [if_pos c, e]
        exact List.mem_singleton.mpr rfl
      · exact absurd h (by decide)
    · exact absurd e h
theorem PrimesOf.le {n : Int} {l : List Int} (h : PrimesOf n l) (n0 : n ≠ 0) (nb : n.natAbs ≤ 1000000) : ∀ k ∈ l, PrP k ∧ k ≤ 1000000 := fun k hk => by
  obtain ⟨h1, h2⟩ := h.pr k hk
  refine ⟨h1, ?_⟩
  obtain ⟨u, hu⟩ := dvd_mod.mp h2
  have u0 : u ≠ 0 := fun z => n0 (by rw [hu, z, Int.mul_zero])
  have e : n.natAbs = k.natAbs * u.natAbs := by rw [hu]; exact Int.natAbs_mul _ _
  have : k.natAbs * 1 ≤ k.natAbs * u.natAbs := Nat.mul_le_mul_left _ (by omega)
  have := h1.1
  omega
/-- the places by the law's list -/
theorem law_places {a b : Int} {la lb ys m : List Int} (a0 : a ≠ 0) (b0 : b ≠ 0) (ab : a.natAbs ≤ 1000000) (bb : b.natAbs ≤ 1000000) (ha : PrimesOf a la) (hb : PrimesOf b lb) (hy : ys.Pairwise (· < ·)) (my : ∀ x, x ∈ ys ↔ x ∈ 2 :: (la ++ lb)) (hs : m.Sublist ys) (hm : ∀ k, k ∈ m ↔ k ∈ ys ∧ HSign a b k (-1)) : PlacesOf a b (zeroP a b ++ m) := by
  have two : ∀ k ∈ ys, PrP k := fun k hk => by
    rcases List.mem_cons.mp ((my k).mp hk) with e | e
    · rw [e]; exact prime2
    · rcases List.mem_append.mp e with e | e
      · exact (ha.pr k e).1
      · exact (hb.pr k e).1
  constructor
  · refine List.pairwise_append.mpr ⟨by unfold zeroP; split <;> simp, hy.sublist hs, fun x hx y h => ?_⟩
    rw [(zeroP_mem.mp hx).1]
    have := (two y (hs.subset h)).1
    omega
  · intro k
    rw [List.mem_append, zeroP_mem, hm]
    constructor
    · rintro (⟨h1, h2⟩ | ⟨h1, h2⟩)
      · exact ⟨.inl h1, h2⟩
      · exact ⟨.inr (two k h1), h2⟩
    · rintro ⟨h1, h2⟩
      rcases neg_placeA h1 h2 with e | e | ⟨e1, e | e⟩
      · exact .inl ⟨e, h2⟩
      · exact .inr ⟨(my k).mpr (by rw [e]; exact List.mem_cons_self), h2⟩
      · exact .inr ⟨(my k).mpr (List.mem_cons_of_mem _ (List.mem_append_left _ (ha.all k e1 e))), h2⟩
      · exact .inr ⟨(my k).mpr (List.mem_cons_of_mem _ (List.mem_append_right _ (hb.all k e1 e))), h2⟩
section
variable {P : Program} {w : World} {K : PySem.W.Frag} {mg : Str → Option Value} {base : Heap} {f : Addr} {fd : FuncData}
def spLPlc : Sp := fun vs H Q _ => ∃ a b : Int, vs = [.int a, .int b] ∧ a ≠ 0 ∧ b ≠ 0 ∧ a.natAbs ≤ 1000000 ∧ b.natAbs ≤ 1000000 ∧
  ∀ (m : List Int) (t : Addr) (H' : Hp), PlacesOf a b m → m.length ≤ 50 → Same H H' → H' t = some (.tup (m.map V.int)) → Q (.ref t) H'
set_option maxHeartbeats 8000000 in
theorem ok_lplc (F : FnD K "_law_places" "_law_places" s_L_places f fd) (T : Glob mg) (C_L_primes : Cal P w K mg base 1 "_law_primes" ["_law_number_here"] spLPrimes) (C_L_sign : Cal P w K mg base 2 "_law_sign" ["_law_a", "_law_b", "_law_prime"] spLSig) : FnOk P w K mg base CX0 3 f fd ["_law_a", "_law_b"] spLPlc := by
  refine F.ok sc_L_places (fun vs H Q E h => ?_) (fun cdv A outer s H vs Q E hr h => ?_)
  · obtain ⟨a, b, rfl, _⟩ := h; rfl
  · obtain ⟨a, b, rfl, a0, b0, ab, bb, q⟩ := h
    have hu := hu_of hr
    refine ⟨_, PSs.nox (pss_cons (ps_set (i := 2) sc_L_places.nd rfl (Or.inl rfl) (pe_cut (pe_ifExp (PW.pt (pw_and (pt_cmp (pc_lt (pv 0) pe_int)) (pw_and1 (pt_cmp (pc_lt (pv 1) pe_int))))) (pe_lst (pa_cons pe_int pa_nil)) (pe_lst pa_nil))))
      (pss_cons (ps_for PassesOwn.never rfl (pi_list (pe_callB (call_sortedDI rfl) (by rfl) T.m_sorted (by decide +kernel) (pa_cons (pe_callTy (call_dictP rfl) (by rfl) T.m_dict (by decide +kernel) (pa_cons (pe_lc rfl sc_L_places.nd (own := [("_law_one", 4)]) (pi_list (pe_op op_cat (pe_op op_cat (pe_lst (pa_cons pe_int pa_nil)) (pe_cal C_L_primes (hr.mono (by decide)) (pa_cons (pv 0) pa_nil))) (pe_cal C_L_primes (hr.mono (by decide)) (pa_cons (pv 1) pa_nil)))) (blkOk_by (N := ["_law_a", "_law_b", "_law_found", "_law_prime", "_law_one"]) (sc := defScope s_L_places) (by decide +kernel)) (fun _ _ _ _ _ => pg_name (i := 4) sc_L_places.nd rfl (Or.inl rfl)) (fun _ _ _ _ _ => pts_nil) (fun _ _ _ _ _ => (pe_tup (pa_cons (pv 4) (pa_cons pe_bl pa_nil))))) pa_nil)) pa_nil))) (pg_name (i := 3) sc_L_places.nd rfl (Or.inl rfl)) (pss_one (ps_if (pt_cmp (pc_lt (pe_cal C_L_sign (hr.mono (by decide)) (pa_cons (pv 0) (pa_cons (pv 1) (pa_cons (pv 3) pa_nil)))) pe_int)) (pss_one (ps_expr (pe_bm PySem.F.plainAttrs_list PySem.F.slot_list_append PySem.F.type_list_append mt_append (pv 2) (pa_cons (pv 3) pa_nil)))) pss_nil)))
      (pss_one (ps_ret (pe_callTy call_tuple_of (by rfl) T.m_tuple (by decide +kernel) (pa_cons (pv 2) pa_nil)))))), ?_⟩
    refine ⟨fun x H' => ∃ D : Addr, x = .ref D ∧ Same H H' ∧ H' D = some (.lst ((zeroP a b).map V.int)) ∧ H D = none, ?_, fun x H0 hx => ?_⟩
    · refine ⟨_, rfl, _, _, rfl, rfl, _, rfl, ifd (fun c => ?_) (fun c => ?_)⟩
      · refine ⟨_, rfl, _, _, rfl, rfl, _, rfl, ifd (fun d => ?_) (fun d => ?_)⟩
        · refine ⟨(by show 1 ≤ sizeLine; decide), fun D hD => ⟨D, rfl, same_upd hD, ?_, hD⟩⟩
          rw [upd_same]
          unfold zeroP
          rw [if_pos ⟨c, d⟩]
          rfl
        · refine ⟨(by show 0 ≤ sizeLine; decide), fun D hD => ⟨D, rfl, same_upd hD, ?_, hD⟩⟩
          rw [upd_same]
          unfold zeroP
          rw [if_neg (fun z => d z.2)]
          rfl
      · refine ⟨(by show 0 ≤ sizeLine; decide), fun D hD => ⟨D, rfl, same_upd hD, ?_, hD⟩⟩
        rw [upd_same]
        unfold zeroP
        rw [if_neg (fun z => c z.1)]
        rfl
    obtain ⟨D0, rfl, e0, h0, hD0⟩ := hx
    refine ⟨(by show 1 ≤ sizeLine; decide), fun c1 hc1 => ⟨_, rfl, ⟨a, rfl, a0, ab, fun L1 la H1 e1 hL1 hla hpa => ?_⟩⟩⟩
    refine ⟨c1, L1, _, _, rfl, rfl, e1 _ _ upd_same, hL1, ?_, fun c2 hc2 => ⟨_, rfl, ⟨b, rfl, b0, bb, fun Lb lb H2 e2 hL2 hlb hpb => ?_⟩⟩⟩
    · rw [List.length_map]
      exact Nat.le_trans (show 1 + la.length ≤ 50 by omega) (by decide)
    refine ⟨c2, Lb, _, _, rfl, rfl, e2 _ _ upd_same, hL2, ?_, fun c3 hc3 => ?_⟩
    · rw [List.length_append, List.length_map, List.length_map]
      exact Nat.le_trans (show 1 + la.length + lb.length ≤ 50 by omega) (by decide)
    have eX : [V.int 2] ++ la.map V.int ++ lb.map V.int = (2 :: (la ++ lb)).map V.int := by rw [List.map_cons, List.map_append]; rfl
    rw [eX]
    have lns : (2 :: (la ++ lb)).length ≤ 41 := by
      rw [List.length_cons, List.length_append]
      omega
    generalize hns : 2 :: (la ++ lb) = ns at lns
    have k1 : Same H0 (upd H2 c3 (.lst (ns.map V.int))) := ((((same_upd hc1).trans e1).trans (same_upd hc2)).trans e2).trans (same_upd hc3)
    refine ⟨c3, rfl, ⟨_, SqL.of upd_same⟩, fun D hD => ?_⟩
    have hDH : H0 D = none := k1.free hD
    have ncd : c3 ≠ D := fun z => by
      rw [← z, upd_same] at hD
      cases hD
    refine lc_list (K := K) (a := c3) (xs := ns.map V.int) (fun i H' => Same H0 H' ∧ SqL K H' c3 (ns.map V.int) ∧ ∃ ps : List Addr, H' D = some (.lst (ps.map V.ref)) ∧ Paired (fun p kv => H' p = some (.tup [kV kv.1, kv.2])) ps ((ns.take i).map kvT)) ⟨k1.trans (same_upd hD), sq_upd (SqL.of upd_same) ncd, [], upd_same, .nil⟩ (fun i H' _ hp => hp.2.1) (fun i v H' hv hp => ?_) (fun H' hp => ?_)
    · obtain ⟨e5, hL, ps, hDp, hps⟩ := hp
      obtain ⟨k, hk, rfl⟩ := int_atP hv
      refine ⟨rfl, ?_⟩
      refine ⟨_, rfl, (by show 2 ≤ sizeLine; decide), fun t ht => ?_⟩
      have nDt : D ≠ t := ne_of_none hDp ht
      refine ⟨ps.map V.ref, by rw [upd_ne nDt]; exact hDp, ?_, ?_, ?_, ps ++ [t], ?_, ?_⟩
      · rw [List.length_map, Paired.length hps, List.length_map]
        have : (ns.take i).length ≤ ns.length := List.length_take_le' _ _
        exact Nat.lt_of_le_of_lt (by omega : _ ≤ 50) (by decide)
      · intro b' o e
        rw [upd_ne (ne_of_none e hDH)]
        exact same_upd ht _ _ (e5 _ _ e)
      · exact sq_upd ((same_upd ht).seq hL) ncd
      · rw [upd_same, List.map_append]; rfl
      · rw [List.take_add_one, hk, List.map_append]
        refine Paired.snoc (Paired.mono (fun p kv e => ?_) hps) ?_
        · rw [upd_ne (fun z => by rw [z, hDp] at e; cases e)]
          exact same_upd ht _ _ e
        · rw [upd_ne nDt.symm, upd_same]; rfl
    · obtain ⟨e5, hL, ps, hDp, hps⟩ := hp
      rw [List.length_map, List.take_length] at hps
      refine ⟨D, ps, ns.map kvT, rfl, SqL.of hDp, Paired.mono (fun p kv e => SqT.of e) hps, fun d hd => ?_⟩
      obtain ⟨ms, m1, m2, m3⟩ := merge_keys ns [] [] rfl List.nodup_nil
      have mlen : ms.length ≤ 41 := by
        have e := congrArg List.length m1
        rw [List.length_map, List.length_map] at e
        have := length_mergeK (ns.map kvT) []
        rw [List.length_map] at this
        simp only [List.length_nil] at this
        omega
      refine ⟨d, _, ms, rfl, .inl upd_same, m1, by omega, fun ys z hp hpw hz => ?_⟩
      have e6 : Same H0 (upd (upd H' d (.dK (mergeK [] (ns.map kvT)))) z (.lst (ys.map V.int))) := (e5.trans (same_upd hd)).trans (same_upd hz)
      have nz : z ≠ D0 := fun e => by
        have := (e5.trans (same_upd (o := .dK (mergeK [] (ns.map kvT))) hd)) _ _ h0
        rw [← e, hz] at this
        cases this
      have ysS := strict_of hpw (hp.nodup_iff.mpr m2)
      have ysm : ∀ x, x ∈ ys ↔ x ∈ 2 :: (la ++ lb) := fun x => by rw [hp.mem_iff, m3, hns]; simp
      have ysP : ∀ x ∈ ys, PrP x ∧ x ≤ 1000000 := fun x hx => by
        rcases List.mem_cons.mp ((ysm x).mp hx) with e | e
        · rw [e]; exact ⟨prime2, by decide⟩
        · rcases List.mem_append.mp e with e | e
          · exact hpa.le a0 ab x e
          · exact hpb.le b0 bb x e
      have yl : ys.length ≤ 41 := by
        have := hp.length_eq
        omega
      have kz : upd (upd H' d (.dK (mergeK [] (ns.map kvT)))) z (.lst (ys.map V.int)) z = some (.lst (ys.map V.int)) := upd_same
      generalize upd (upd H' d (.dK (mergeK [] (ns.map kvT)))) z (.lst (ys.map V.int)) = H3 at e6 kz ⊢
      have hD3 := e6 _ _ h0
      have zl : (zeroP a b).length ≤ 1 := by unfold zeroP; split <;> decide
      refine ⟨z, rfl, ⟨_, SqL.of kz⟩, for_list (K := K) (a := z) (xs := ys.map V.int) (fun i σ H' => ∃ (v3 : Option V) (m : List Int), σ = [some (.int a), some (.int b), some (.ref D0), v3, none] ∧ Same H H' ∧ SqL K H' z (ys.map V.int) ∧ H' D0 = some (.lst ((zeroP a b ++ m).map V.int)) ∧ m.Sublist (ys.take i) ∧ ∀ k, k ∈ m ↔ k ∈ ys.take i ∧ HSign a b k (-1)) ⟨none, [], rfl, e0.trans e6, SqL.of kz, by rw [List.append_nil]; exact hD3, List.Sublist.refl _, fun k => ⟨fun z => (by cases z), fun z => absurd z.1 (by simp)⟩⟩ (fun i σ H' _ ⟨_, _, _, _, e, _⟩ => e) ?_ ?_⟩
      · rintro i v σ H4 hv ⟨v3, m, rfl, e7, hz4, hd4, msub, hmm⟩
        obtain ⟨k, hk, rfl⟩ := int_atP hv
        have kP := ysP k (List.mem_of_getElem? hk)
        have et : ys.take (i + 1) = ys.take i ++ [k] := by rw [List.take_add_one, hk]; rfl
        refine ⟨_, rfl, _, rfl, _, rfl, a, b, k, rfl, a0, b0, ab, bb, kP.1, kP.2, fun r H6 hr e8 => ?_⟩
        refine ⟨_, _, rfl, rfl, _, rfl, ifd (fun h => ?_) (fun h => ?_)⟩
        · have h : r < 0 := h
          have r1 : r = -1 := by
            rcases hsign_sq (.inr kP.1) hr with e | e
            · omega
            · exact e
          subst r1
          refine ⟨_, rfl, .inl ⟨rfl, _, SqL.of (e8 _ _ hd4)⟩, _, rfl, D0, _, _, rfl, rfl, e8 _ _ hd4, ?_, some (.int k), m ++ [k], rfl, ?_, sq_upd (e8.seq hz4) nz, ?_, ?_, fun j => ?_⟩
          · rw [List.length_map, List.length_append]
            have h1 := msub.length_le
            have h2 : (ys.take i).length ≤ ys.length := List.length_take_le' _ _
            exact Nat.lt_of_le_of_lt (by omega : _ ≤ 70) (by decide)
          · intro b' o e
            rw [upd_ne (ne_of_none e hD0)]
            exact e8 _ _ (e7 _ _ e)
          · rw [upd_same, ← List.append_assoc, List.map_append (l₂ := [k])]; rfl
          · rw [et]
            exact msub.append (List.Sublist.refl _)
          · rw [et, List.mem_append, List.mem_append, hmm, List.mem_singleton]
            constructor
            · rintro (h | h)
              · exact ⟨.inl h.1, h.2⟩
              · exact ⟨.inr h, h ▸ hr⟩
            · rintro ⟨h | h, h2⟩
              · exact .inl ⟨h, h2⟩
              · exact .inr h
        · have h : ¬ r < 0 := h
          refine ⟨some (.int k), m, rfl, e7.trans e8, e8.seq hz4, e8 _ _ hd4, ?_, fun j => ?_⟩
          · rw [et]
            exact msub.trans (List.sublist_append_left _ _)
          · rw [et, List.mem_append, hmm, List.mem_singleton]
            constructor
            · rintro h
              exact ⟨.inl h.1, h.2⟩
            · rintro ⟨h1 | h1, h2⟩
              · exact ⟨h1, h2⟩
              · subst h1
                have := hsign_unique (.inr kP.1) hr h2
                omega
      · rintro σ H4 ⟨v3, m, rfl, e7, hz4, hd4, msub, hmm⟩
        rw [List.length_map, List.take_length] at msub hmm
        refine ⟨_, rfl, D0, _, rfl, .inl ⟨SqL.of hd4, fun t ht => ?_⟩⟩
        have ml := msub.length_le
        refine q (zeroP a b ++ m) t _ (law_places a0 b0 ab bb hpa hpb ysS ysm msub hmm) ?_ (e7.trans (same_upd ht)) upd_same
        rw [List.length_append]
        omega
end
end Sf

namespace Sf
open PySem PySem.Spec PyProof.Rows L2
/-- a point of bounded size -/
structure PtQ (a b x y z : Int) : Prop where
  sol : Sol a b 1 x y z
  bx : (x.natAbs : Int) ≤ 2 ^ 165
  b_y : (y.natAbs : Int) ≤ 2 ^ 165
  bz : (z.natAbs : Int) ≤ 2 ^ 165
section
variable {P : Program} {w : World} {K : PySem.W.Frag} {mg : Str → Option Value} {base : Heap} {f : Addr} {fd : FuncData} {CR CA CF : Addr}
def spPointOn : Sp := fun vs H Q _ => ∃ a b : Int, vs = [.int a, .int b] ∧ a ≠ 0 ∧ b ≠ 0 ∧ a.natAbs ≤ 1000000 ∧ b.natAbs ≤ 1000000 ∧
  (∀ H', ¬ Open a b → Same H H' → Q .non H') ∧ ∀ (x y z : Int) (t : Addr) (H' : Hp), Open a b → PtQ a b x y z → Same H H' → H' t = some (.tup [.int x, .int y, .int z]) → Q (.ref t) H'
theorem max_abs {a b : Int} (ab : a.natAbs ≤ 1000000) (bb : b.natAbs ≤ 1000000) : ¬ (if (if b < 0 then -b else b) > (if a < 0 then -a else a) then (if b < 0 then -b else b) else (if a < 0 then -a else a)) > 1000000 := by
  split <;> split <;> omega
theorem ok_point_on (F : FnD K "point_on" "point_on" s_P_point_on f fd) (T : Glob mg) (C_P_check_number : Cal P w K mg base 2 "check_number" ["value"] spCheckNumber) (C_P_signed_places : Cal P w K mg base 5 "signed_places" ["a", "b"] spPlaces) (C_P_solution : Cal P w K mg base 23 "solution" ["a", "b"] spSol) : FnOk P w K mg base CX0 24 f fd ["a", "b"] spPointOn := by
  refine F.ok sc_P_point_on (fun vs H Q E h => ?_) (fun cdv A outer s H vs Q E hr h => ?_)
  · obtain ⟨a, b, rfl, _⟩ := h; rfl
  · obtain ⟨a, b, rfl, a0, b0, ab, bb, q1, q2⟩ := h
    obtain ⟨tM, hc_MAX_NUMBER_points⟩ := T.m_MAX_NUMBER_points
    refine ⟨_, PSs.nox (pss_cons (ps_expr (pe_cal C_P_check_number (hr.mono (by decide)) (pa_cons (pv 0) pa_nil)))
      (pss_cons (ps_expr (pe_cal C_P_check_number (hr.mono (by decide)) (pa_cons (pv 1) pa_nil)))
      (pss_cons (ps_if (pt_cmp (pc_gt (pe_callB (call_max2 rfl) (by rfl) T.m_max (by decide +kernel) (pa_cons (pe_callB call_abs (by rfl) T.m_abs (by decide +kernel) (pa_cons (pv 0) pa_nil)) (pa_cons (pe_callB call_abs (by rfl) T.m_abs (by decide +kernel) (pa_cons (pv 1) pa_nil)) pa_nil))) (pe_glob (v := .int 1000000) rfl hc_MAX_NUMBER_points ⟨_, rfl⟩))) (pss_one ps_never) pss_nil)
      (pss_one (ps_ret (pe_ifExp (pt_truth (pe_cal C_P_signed_places (hr.mono (by decide)) (pa_cons (pv 0) (pa_cons (pv 1) pa_nil))) (by intro _; rfl)) pe_non (pe_cal C_P_solution (hr.mono (by decide)) (pa_cons (pv 0) (pa_cons (pv 1) pa_nil))))))))), ?_⟩
    refine ⟨_, rfl, a, rfl, a0, by omega, by omega, _, rfl, b, rfl, b0, by omega, by omega, ?_⟩
    refine ⟨_, rfl, a, rfl, _, rfl, b, rfl, _, _, rfl, _, _, rfl, rfl, _, rfl, ifd (fun h => absurd h (max_abs ab bb)) (fun h => ?_)⟩
    refine ⟨_, rfl, _, rfl, ⟨a, b, rfl, a0, b0, by omega, by omega, fun l p H1 hl ll e1 hp0 hp => ?_⟩⟩
    refine ⟨!(l.map V.int).isEmpty, .inr (.inl ⟨_, SqT.of hp, rfl⟩), ?_⟩
    cases l with
    | nil =>
      have op : Open a b := open_of a0 b0 hl
      refine ⟨_, rfl, _, rfl, ⟨a, b, rfl, a0, b0, by omega, by omega, op, fun x y z t H2 s bx b_y bz e2 ht => ?_⟩⟩
      exact q2 x y z t H2 op ⟨s, bx, b_y, bz⟩ (e1.trans e2) ht
    | cons k l =>
      refine q1 _ (fun op => ?_) e1
      have := (hl.2 k).mp List.mem_cons_self
      have := hsign_unique this.1 this.2 (op k this.1)
      exact absurd this (by decide)
def spSmallAlg (CA : Addr) : Sp := fun vs H Q _ => ∃ (x : Addr) (a b : Int), vs = [.ref x] ∧ AlgAt CA H x a b ∧ a.natAbs ≤ 1000000 ∧ b.natAbs ≤ 1000000 ∧ Q .non H
theorem ok_check_small_algebra (F : FnD K "check_small_algebra" "check_small_algebra" s_P_check_small_algebra f fd) (T : Glob mg) (R : AlgK K CA) (C_P_check_algebra : Cal P w K mg base 1 "check_algebra" ["value"] (spIsAlg CA)) : FnOk P w K mg base CX0 2 f fd ["algebra"] (spSmallAlg CA) := by
  refine F.ok sc_P_check_small_algebra (fun vs H Q E h => ?_) (fun cdv A outer s H vs Q E hr h => ?_)
  · obtain ⟨x, a, b, rfl, _⟩ := h; rfl
  · obtain ⟨x, a, b, rfl, hx, ab, bb, q⟩ := h
    obtain ⟨tM, hc_MAX_NUMBER_tables⟩ := T.m_MAX_NUMBER_tables
    refine ⟨_, PSs.nox (pss_cons (ps_expr (pe_cal C_P_check_algebra (hr.mono (by decide)) (pa_cons (pv 0) pa_nil)))
      (pss_one (ps_if (pt_cmp (pc_gt (pe_callB (call_max2 rfl) (by rfl) T.m_max (by decide +kernel) (pa_cons (pe_callB call_abs (by rfl) T.m_abs (by decide +kernel) (pa_cons (pe_fld (pv 0) rfl) pa_nil)) (pa_cons (pe_callB call_abs (by rfl) T.m_abs (by decide +kernel) (pa_cons (pe_fld (pv 0) rfl) pa_nil)) pa_nil))) (pe_glob (v := .int 1000000) rfl hc_MAX_NUMBER_tables ⟨_, rfl⟩))) (pss_one ps_never) pss_nil))), ?_⟩
    obtain ⟨dx, p1, l1, h1, _⟩ := id hx.ex
    refine ⟨_, rfl, x, a, b, rfl, hx, ?_⟩
    refine ⟨_, rfl, x, CA, dx, _, .int a, rfl, h1, R.own.cls, R.n2, rfl, a, rfl, _, rfl, x, CA, dx, _, .int b, rfl, h1, R.own.cls, R.n3, rfl, b, rfl, _, _, rfl, _, _, rfl, rfl, _, rfl, ifd (fun h => absurd h (max_abs ab bb)) (fun h => ?_)⟩
    exact q
end
end Sf

namespace Sf
open PySem PySem.Spec PyProof.Rows L2
section
variable {P : Program} {w : World} {K : PySem.W.Frag} {mg : Str → Option Value} {base : Heap} {f : Addr} {fd : FuncData} {CR CA CF : Addr}
theorem places_nil {a b : Int} {l : List Int} (a0 : a ≠ 0) (b0 : b ≠ 0) (h : PlacesOf a b l) : l = [] ↔ Open a b := by
  constructor
  · intro e
    rw [e] at h
    exact open_of a0 b0 h
  · intro op
    cases l with
    | nil => rfl
    | cons k l =>
      have := (h.2 k).mp List.mem_cons_self
      exact absurd (hsign_unique this.1 this.2 (op k this.1)) (by decide)
theorem p165 : (2 : Int) ^ 165 < 10 ^ 60 := by decide
theorem pt_bd {n : Int} (h : (n.natAbs : Int) ≤ 2 ^ 165) : n.natAbs < 10 ^ 60 ∧ n.natAbs < 2 ^ 3000 ∧ n.natAbs < 2 ^ 300 := by
  have h2 : n.natAbs ≤ 2 ^ 165 := by
    have e : ((2 ^ 165 : Nat) : Int) = 2 ^ 165 := by decide
    omega
  exact ⟨Nat.lt_of_le_of_lt h2 (by decide), Nat.lt_of_le_of_lt h2 (Nat.pow_lt_pow_right (by decide) (by decide)), Nat.lt_of_le_of_lt h2 (Nat.pow_lt_pow_right (by decide) (by decide))⟩
theorem pt_four {a b x y z : Int} (p : PtQ a b x y z) : Pass60 ⟨z, x, y, 0, 1⟩ ∧ Bd 3000 ⟨z, x, y, 0, 1⟩ ∧ ∀ r, Low5 ⟨z, x, y, 0, 1⟩ r → Bd 3000 r := by
  obtain ⟨x1, x2, _⟩ := pt_bd p.bx
  obtain ⟨y1, y2, _⟩ := pt_bd p.b_y
  obtain ⟨z1, z2, _⟩ := pt_bd p.bz
  have B : Bd 3000 ⟨z, x, y, 0, 1⟩ := ⟨z2, x2, y2, by show (0 : Int).natAbs < 2 ^ 3000; decide +kernel, by show (1 : Int).natAbs < 2 ^ 3000; decide +kernel⟩
  exact ⟨⟨z1, x1, y1, by show (0 : Int).natAbs < 10 ^ 60; decide, by show (1 : Int).natAbs < 10 ^ 60; decide⟩, B, fun r h => by rw [low_one_q h]; exact B⟩
def spZero (CF CR CA : Addr) : Sp := fun vs H Q _ => ∃ (x : Addr) (a b : Int), vs = [.ref x] ∧ AlgAt CA H x a b ∧ a.natAbs ≤ 1000000 ∧ b.natAbs ≤ 1000000 ∧
  (∀ H', ¬ Open a b → Same H H' → Q .non H') ∧ ∀ (X Y Z : Int) (v : Addr) (H' : Hp), Open a b → PtQ a b X Y Z → Same H H' → FourAt CF CR H' v x a b ⟨Z, X, Y, 0, 1⟩ → Q (.ref v) H'
theorem ok_zero_norm (F : FnD K "zero_norm" "zero_norm" s_P_zero_norm f fd) (R : AlgK K CA) (C_P_check_small_algebra : Cal P w K mg base 2 "check_small_algebra" ["algebra"] (spSmallAlg CA)) (C_P_solution : Cal P w K mg base 23 "solution" ["a", "b"] spSol) (C_P_made_four : Cal P w K mg base 9 "made_four" ["algebra", "entries", "bottom"] (spMadeFour CF CR CA)) : FnOk P w K mg base CX0 24 f fd ["algebra"] (spZero CF CR CA) := by
  refine F.ok sc_P_zero_norm (fun vs H Q E h => ?_) (fun cdv A outer s H vs Q E hr h => ?_)
  · obtain ⟨x, a, b, rfl, _⟩ := h; rfl
  · obtain ⟨x, a, b, rfl, hx, ab, bb, q1, q2⟩ := h
    refine ⟨_, PSs.nox (pss_cons (ps_expr (pe_cal C_P_check_small_algebra (hr.mono (by decide)) (pa_cons (pv 0) pa_nil)))
      (pss_cons (ps_if (pt_not (pt_val (pe_fld (pv 0) rfl))) (pss_one (ps_ret pe_non)) pss_nil)
      (pss_cons (ps_asg (pe_cal C_P_solution (hr.mono (by decide)) (pa_cons (pe_fld (pv 0) rfl) (pa_cons (pe_fld (pv 0) rfl) pa_nil))) (pg_tup (by rfl) (pgs_cons (pg_name (i := 1) sc_P_zero_norm.nd rfl (Or.inl rfl)) (pgs_cons (pg_name (i := 2) sc_P_zero_norm.nd rfl (Or.inl rfl)) (pgs_cons (pg_name (i := 3) sc_P_zero_norm.nd rfl (Or.inl rfl)) pgs_nil)))))
      (pss_one (ps_ret (pe_cal C_P_made_four (hr.mono (by decide)) (pa_cons (pv 0) (pa_cons (pe_tup (pa_cons (pv 3) (pa_cons (pv 1) (pa_cons (pv 2) (pa_cons pe_int pa_nil))))) (pa_cons pe_int pa_nil))))))))), ?_⟩
    obtain ⟨dx, p1, l, h1, hp, hl, a0, b0, _⟩ := id hx.ex
    have iff := places_nil a0 b0 hl
    refine ⟨_, rfl, x, a, b, rfl, hx, ab, bb, ?_⟩
    refine ⟨_, rfl, x, CA, dx, _, .bl (decide (l.length = 0)), rfl, h1, R.own.cls, R.n5, rfl, _, rfl, ifn (fun h => ?_) (fun h => ?_)⟩
    · exact q1 H (fun op => h (by rw [iff.mpr op]; rfl)) (Same.refl _)
    · have op : Open a b := iff.mp (List.length_eq_zero_iff.mp h)
      refine ⟨_, rfl, x, CA, dx, _, .int a, rfl, h1, R.own.cls, R.n2, rfl, _, rfl, x, CA, dx, _, .int b, rfl, h1, R.own.cls, R.n3, rfl, ⟨a, b, rfl, a0, b0, by omega, by omega, op, fun X Y Z t H2 s bx b_y bz e2 ht => ?_⟩⟩
      have pq : PtQ a b X Y Z := ⟨s, bx, b_y, bz⟩
      refine ⟨t, _, rfl, .inl (.inl ht), rfl, _, _, rfl, _, _, rfl, _, _, rfl, rfl, ?_⟩
      refine ⟨_, rfl, _, rfl, _, rfl, _, rfl, (by show 4 ≤ sizeLine; decide), fun e he => ?_⟩
      obtain ⟨g1, g2, g3⟩ := pt_four pq
      refine ⟨x, e, a, b, ⟨Z, X, Y, 0, 1⟩, rfl, (hx.same e2).same (same_upd he), upd_same, (by show (1 : Int) ≠ 0; decide), (by show (1 : Int).natAbs < 2 ^ 8000; decide +kernel), g3, fun r v H3 lo _ e3 hv => ?_⟩
      rw [low_one_q lo] at hv
      exact q2 X Y Z v H3 op pq ((e2.trans (same_upd he)).trans e3) hv
end
end Sf

namespace Sf
open PySem PySem.Spec PyProof.Rows L2
section
variable {P : Program} {w : World} {K : PySem.W.Frag} {mg : Str → Option Value} {base : Heap} {f : Addr} {fd : FuncData} {CR CA CF : Addr}
structure NumberP (vs : List V) (H : Hp) (Q : VK) : Prop where
  ex : ∃ (p : Addr) (m : Int) (n : Nat), vs = [.ref p, .int m] ∧ Sk p n H ∧ n ≤ 900000 ∧ 1 ≤ m ∧ m ≤ 1000000 ∧ ∀ (z : Int) (H' : Hp), z ≠ 0 → z.natAbs ≤ 1000000 → Keep p H H' → Sk p (n + 3) H' → Q (.int z) H'
def spNumber : Sp := fun vs H Q _ => NumberP vs H Q
theorem ok_number (F : FnD K "_law_number" "_law_number" s_L_number f fd) (T : Glob mg) (C_L_any : Cal P w K mg base 2 "_law_any" ["_law_vial_here", "_law_items"] (spOneOf K)) (C_L_drop : Cal P w K mg base 1 "_law_drop" ["_law_vial_here", "_law_total"] spTake) : FnOk P w K mg base CX0 3 f fd ["_law_vial_here", "_law_most"] spNumber := by
  refine F.ok sc_L_number (fun vs H Q E h => ?_) (fun cdv A outer s H vs Q E hr h => ?_)
  · obtain ⟨p, m, n, rfl, _⟩ := h.ex; rfl
  · obtain ⟨p, m, n, rfl, hs, hn, m1, m2, q⟩ := h.ex
    refine ⟨_, PSs.nox (pss_one (ps_ret (pe_op op_mulW (pe_cal C_L_any (hr.mono (by decide)) (pa_cons (pv 0) (pa_cons (pe_lst (pa_cons pe_int (pa_cons (pe_un un_neg pe_int) pa_nil))) pa_nil))) (pe_op op_add pe_int (pe_cal C_L_drop (hr.mono (by decide)) (pa_cons (pv 0) (pa_cons (pe_cal C_L_any (hr.mono (by decide)) (pa_cons (pv 0) (pa_cons (pe_lst (pa_cons pe_int (pa_cons pe_int (pa_cons pe_int (pa_cons (pv 1) pa_nil))))) pa_nil))) pa_nil))))))), ?_⟩
    refine ⟨_, rfl, _, rfl, (by show 2 ≤ sizeLine; decide), fun b hb => one_of_new hs (by omega) hb (by show 1 ≤ 2; decide) (by show 2 ≤ 1000000; decide) fun s H1 hv k1 s1 => ?_⟩
    obtain ⟨sg, rfl, sg1⟩ : ∃ u : Int, s = .int u ∧ (u = 1 ∨ u = -1) := by
      have c : s = .int 1 ∨ s = .int (-1) := by simpa using hv
      rcases c with e | e
      · exact ⟨_, e, .inl rfl⟩
      · exact ⟨_, e, .inr rfl⟩
    refine ⟨_, rfl, _, rfl, _, rfl, (by show 4 ≤ sizeLine; decide), fun b2 hb2 => one_of_new s1 (by omega) hb2 (by show 1 ≤ 4; decide) (by show 4 ≤ 1000000; decide) fun x H2 hv2 k2 s2 => ?_⟩
    obtain ⟨u, rfl, u0, u1⟩ : ∃ u : Int, x = .int u ∧ 1 ≤ u ∧ u ≤ 1000000 := by
      have c : x = .int 2 ∨ x = .int 12 ∨ x = .int 60 ∨ x = .int m := by simpa using hv2
      rcases c with e | e | e | e <;> exact ⟨_, e, by omega, by omega⟩
    have k1 : Keep p H H1 := k1
    refine take_of s2 (by omega) u0 (Int.lt_trans (by omega : u < 1000001) (by decide +kernel)) fun t H3 t0 t1 k3 s3 _ => ?_
    refine ⟨_, _, rfl, rfl, _, _, rfl, rfl, CMulW.of (lt3000s (by omega) (by omega)) (lt3000s (by omega) (by omega)), ?_⟩
    have b : sg * (1 + t) ≠ 0 ∧ (sg * (1 + t)).natAbs ≤ 1000000 := by
      rcases sg1 with e | e <;> rw [e] <;> omega
    exact q _ _ b.1 b.2 ((k1.trans k2).trans k3) s3
structure PairP (top : Int) (k : Nat) (vs : List V) (H : Hp) (Q : VK) : Prop where
  ex : ∃ (p : Addr) (m : Int) (n : Nat), vs = [.ref p, .int m] ∧ Sk p n H ∧ n + k ≤ 800000 ∧ 1 ≤ m ∧ m ≤ top ∧ ∀ (a b : Int) (t : Addr) (H' : Hp), a ≠ 0 → b ≠ 0 → a.natAbs ≤ 1000000 → b.natAbs ≤ 1000000 → Keep p H H' → Sk p (n + k) H' → H' t = some (.tup [.int a, .int b]) → Q (.ref t) H'
def spPair (top : Int) (k : Nat) : Sp := fun vs H Q _ => PairP top k vs H Q
theorem ok_open_pair (F : FnD K "_law_open_pair" "_law_open_pair" s_L_open_pair f fd) (T : Glob mg) (C_L_number : Cal P w K mg base 3 "_law_number" ["_law_vial_here", "_law_most"] spNumber) (C_L_drop : Cal P w K mg base 1 "_law_drop" ["_law_vial_here", "_law_total"] spTake) : FnOk P w K mg base CX0 4 f fd ["_law_vial_here", "_law_most"] (spPair 9000 6) := by
  refine F.ok sc_L_open_pair (fun vs H Q E h => ?_) (fun cdv A outer s H vs Q E hr h => ?_)
  · obtain ⟨p, m, n, rfl, _⟩ := h.ex; rfl
  · obtain ⟨p, m, n, rfl, hs, hn, m1, m2, q⟩ := h.ex
    refine ⟨_, PSs.nox (pss_cons (ps_par3 (i := 2) (j := 3) (l := 4) (by rfl) sc_L_open_pair.nd rfl rfl rfl (by decide) (by decide) (by decide) rfl rfl rfl (pa_cons (pe_cal C_L_number (hr.mono (by decide)) (pa_cons (pv 0) (pa_cons (pv 1) pa_nil))) (pa_cons (pe_cal C_L_drop (hr.mono (by decide)) (pa_cons (pv 0) (pa_cons pe_int pa_nil))) (pa_cons (pe_op op_add pe_int (pe_cal C_L_drop (hr.mono (by decide)) (pa_cons (pv 0) (pa_cons pe_int pa_nil)))) pa_nil))) (by rfl))
      (pss_cons (ps_set (i := 5) sc_L_open_pair.nd rfl (Or.inl rfl) (pe_op op_sub (pe_op op_mulW (pv 3) (pv 3)) (pe_op op_mulW (pe_op op_mulW (pv 2) (pv 4)) (pv 4))))
      (pss_one (ps_ret (pe_ifExp (PW.pt (pw_and (pt_cmp (pc_neI (pv 5) pe_int)) (pw_and1 (pt_cmp (pc_le (pe_callB call_abs (by rfl) T.m_abs (by decide +kernel) (pa_cons (pv 5) pa_nil)) (pe_op op_powW pe_int pe_int)))))) (pe_tup (pa_cons (pv 2) (pa_cons (pv 5) pa_nil))) (pe_tup (pa_cons pe_int (pa_cons (pv 2) pa_nil)))))))), ?_⟩
    refine ⟨_, rfl, _, rfl, ⟨p, m, n, rfl, hs, by omega, m1, by omega, fun a H1 a0 ab k1 s1 => ?_⟩⟩
    refine ⟨_, rfl, take_of s1 (by omega) (by decide) (by decide) fun x H2 x0 x1 k2 s2 _ => ?_⟩
    refine ⟨_, rfl, take_of s2 (by omega) (by decide) (by decide) fun y H3 y0 y1 k3 s3 _ => ?_⟩
    refine ⟨_, _, rfl, rfl, _, _, _, rfl, ?_⟩
    have xx : 0 ≤ x * x ∧ x * x ≤ 64 := ⟨Int.mul_nonneg x0 x0, Int.mul_le_mul (show x ≤ 8 by omega) (show x ≤ 8 by omega) x0 (by decide)⟩
    have ay : (a * (1 + y)).natAbs ≤ 9000000 := by
      rw [Int.natAbs_mul]
      exact Nat.mul_le_mul ab (show (1 + y).natAbs ≤ 9 by omega)
    have ayy : (a * (1 + y) * (1 + y)).natAbs ≤ 81000000 := by
      rw [Int.natAbs_mul]
      exact Nat.mul_le_mul ay (show (1 + y).natAbs ≤ 9 by omega)
    have wa : a.natAbs < 2 ^ 3000 := lt3000s (by omega) (by omega)
    have wx : x.natAbs < 2 ^ 3000 := lt3000s (by omega) (by omega)
    have wy : (1 + y).natAbs < 2 ^ 3000 := lt3000s (by omega) (by omega)
    refine ⟨_, rfl, _, rfl, _, _, rfl, rfl, CMulW.of wx wx, _, rfl, _, rfl, _, _, rfl, rfl, CMulW.of wa wy, _, rfl, _, _, rfl, rfl, CMulW.of (lt3000s (by omega) (by omega)) wy, _, _, rfl, rfl, ?_⟩
    have k123 : Keep p H H3 := (k1.trans k2).trans k3
    have fin : ∀ t, H3 t = none → Q (.ref t) (upd H3 t (.tup [.int 1, .int a])) := fun t ht => q 1 a t _ (by decide) a0 (by decide) ab (k123.trans (Keep.new ht)) ((s3.same (same_upd ht)).mono (by omega)) upd_same
    refine ⟨_, rfl, _, _, rfl, rfl, _, rfl, ifn (fun c => ?_) (fun c => ?_)⟩
    · refine ⟨_, rfl, _, rfl, 10, 6, rfl, rfl, ⟨by decide, by decide +kernel⟩, _, _, rfl, rfl, _, rfl, ifd (fun d => ?_) (fun d => ?_)⟩
      · refine ⟨_, rfl, _, rfl, (by show 2 ≤ sizeLine; decide), fun t ht => ?_⟩
        have e6 : (10 : Int) ^ (6 : Int).toNat = 1000000 := by decide
        have d2 : (if x * x - a * (1 + y) * (1 + y) < 0 then -(x * x - a * (1 + y) * (1 + y)) else (x * x - a * (1 + y) * (1 + y))) ≤ 10 ^ (6 : Int).toNat := d
        rw [e6] at d2
        refine q a _ t _ a0 c ab ?_ (k123.trans (Keep.new ht)) ((s3.same (same_upd ht)).mono (by omega)) upd_same
        split at d2 <;> omega
      · exact ⟨_, rfl, (by show 2 ≤ sizeLine; decide), fun t ht => fin t ht⟩
    · exact ⟨_, rfl, (by show 2 ≤ sizeLine; decide), fun t ht => fin t ht⟩
theorem ok_pair (F : FnD K "_law_pair" "_law_pair" s_L_pair f fd) (T : Glob mg) (C_L_number : Cal P w K mg base 3 "_law_number" ["_law_vial_here", "_law_most"] spNumber) (C_L_drop : Cal P w K mg base 1 "_law_drop" ["_law_vial_here", "_law_total"] spTake) (C_L_open_pair : Cal P w K mg base 4 "_law_open_pair" ["_law_vial_here", "_law_most"] (spPair 9000 6)) : FnOk P w K mg base CX0 5 f fd ["_law_vial_here", "_law_most"] (spPair 1000000 7) := by
  refine F.ok sc_L_pair (fun vs H Q E h => ?_) (fun cdv A outer s H vs Q E hr h => ?_)
  · obtain ⟨p, m, n, rfl, _⟩ := h.ex; rfl
  · obtain ⟨p, m, n, rfl, hs, hn, m1, m2, q⟩ := h.ex
    refine ⟨_, PSs.nox (pss_cons (ps_if (pt_cmp (pc_eqI (pe_cal C_L_drop (hr.mono (by decide)) (pa_cons (pv 0) (pa_cons pe_int pa_nil))) pe_int)) (pss_one (ps_ret (pe_cal C_L_open_pair (hr.mono (by decide)) (pa_cons (pv 0) (pa_cons (pe_callB (call_min2 rfl) (by rfl) T.m_min (by decide +kernel) (pa_cons (pv 1) (pa_cons pe_int pa_nil))) pa_nil))))) pss_nil)
      (pss_one (ps_ret (pe_tup (pa_cons (pe_cal C_L_number (hr.mono (by decide)) (pa_cons (pv 0) (pa_cons (pv 1) pa_nil))) (pa_cons (pe_cal C_L_number (hr.mono (by decide)) (pa_cons (pv 0) (pa_cons (pv 1) pa_nil))) pa_nil)))))), ?_⟩
    refine ⟨_, rfl, take_of hs (by omega) (by decide) (by decide) fun x H1 x0 x1 k1 s1 _ => ?_⟩
    refine ⟨_, _, rfl, rfl, _, rfl, ifd (fun h => ?_) (fun h => ?_)⟩
    · refine ⟨_, rfl, _, rfl, _, _, rfl, ⟨p, (if (9000 : Int) < m then 9000 else m), n + 1, rfl, s1, by omega, ?_, ?_, fun a b t H2 a0 b0 ab bb k2 s2 ht => ?_⟩⟩
      · split <;> omega
      · split <;> omega
      · exact q a b t _ a0 b0 ab bb (k1.trans k2) (s2.mono (by omega)) ht
    · refine ⟨_, rfl, _, rfl, ⟨p, m, n + 1, rfl, s1, by omega, m1, m2, fun a H2 a0 ab k2 s2 => ?_⟩⟩
      refine ⟨_, rfl, _, rfl, ⟨p, m, n + 4, rfl, s2, by omega, m1, m2, fun b H3 b0 bb k3 s3 => ?_⟩⟩
      refine ⟨(by show 2 ≤ sizeLine; decide), fun t ht => ?_⟩
      exact q a b t _ a0 b0 ab bb (((k1.trans k2).trans k3).trans (Keep.new ht)) (s3.same (same_upd ht)) upd_same
def spIsP (K : PySem.W.Frag) : Sp := fun vs H Q _ => ∃ (a b x y z : Int) (t : Addr), vs = [.int a, .int b, .ref t] ∧ a.natAbs ≤ 1000000 ∧ b.natAbs ≤ 1000000 ∧ H t = some (.tup [.int x, .int y, .int z]) ∧ x.natAbs < 2 ^ 300 ∧ y.natAbs < 2 ^ 300 ∧ z.natAbs < 2 ^ 300 ∧ Sol a b 1 x y z ∧ ∀ H', Same H H' → Q (.bl true) H'
theorem ok_is_pt (F : FnD K "_law_is_point" "_law_is_point" s_L_is_point f fd) (T : Glob mg) : FnOk P w K mg base CX0 1 f fd ["_law_a", "_law_b", "_law_value"] (spIsP K) := by
  refine F.ok sc_L_is_point (fun vs H Q E h => ?_) (fun cdv A outer s H vs Q E hr h => ?_)
  · obtain ⟨a, b, x, y, z, t, rfl, _⟩ := h; rfl
  · obtain ⟨a, b, x, y, z, t, rfl, ab, bb, ht, bx, b_y, bz, so, q⟩ := h
    refine ⟨_, PSs.nox (pss_cons (ps_asg (pv 2) (pg_tup (by rfl) (pgs_cons (pg_name (i := 3) sc_L_is_point.nd rfl (Or.inl rfl)) (pgs_cons (pg_name (i := 4) sc_L_is_point.nd rfl (Or.inl rfl)) (pgs_cons (pg_name (i := 5) sc_L_is_point.nd rfl (Or.inl rfl)) pgs_nil)))))
      (pss_one (ps_ret (pe_and (pe_cmpR (op_neD hr.units) (pv 2) (pe_tup (pa_cons pe_int (pa_cons pe_int (pa_cons pe_int pa_nil)))) (nomark _)) (pe_one (pe_cmp (pc_eqI (pe_op op_add (pe_op op_mulW (pe_op op_mulW (pv 0) (pv 3)) (pv 3)) (pe_op op_mulW (pe_op op_mulW (pv 1) (pv 4)) (pv 4))) (pe_op op_mulW (pv 5) (pv 5))) rfl)))))), ?_⟩
    refine ⟨_, rfl, t, _, rfl, .inl (.inl ht), rfl, _, _, rfl, _, _, rfl, _, _, rfl, rfl, ?_⟩
    refine ⟨_, rfl, (by show 3 ≤ sizeLine; decide), fun u hu => ?_⟩
    have e1 := same_upd (o := .tup [.int 0, .int 0, .int 0]) hu
    have ku : upd H u (.tup [.int 0, .int 0, .int 0]) u = some (.tup [.int 0, .int 0, .int 0]) := upd_same
    generalize upd H u _ = H1 at e1 ku ⊢
    refine ⟨.tuple ([x, y, z].map PyData.int), .tuple ([0, 0, 0].map PyData.int), dp_tup (SqT.of (e1 _ _ ht)), dp_tup (SqT.of ku), shp_tup _, shp_tup _, ?_⟩
    have ne : PyData.eqv (.tuple ([x, y, z].map PyData.int)) (.tuple ([0, 0, 0].map PyData.int)) = false := by
      show PyData.eqvAll ([x, y, z].map PyData.int) ([0, 0, 0].map PyData.int) = false
      rw [eqv_ints]
      refine decide_eq_false fun e => so.1 ?_
      simpa using e
    rw [ne]
    refine ⟨true, rfl, (if_pos rfl).mpr ?_⟩
    have a20 : a.natAbs < 2 ^ 20 := by omega
    have b20 : b.natAbs < 2 ^ 20 := by omega
    refine ⟨_, rfl, _, rfl, _, _, rfl, rfl, wmul a20 bx (by decide) (by decide) (by decide), _, rfl, _, _, rfl, rfl, wmul (wide_lt a20 bx) bx (by decide) (by decide) (by decide), ?_⟩
    refine ⟨_, rfl, _, rfl, _, _, rfl, rfl, wmul b20 b_y (by decide) (by decide) (by decide), _, rfl, _, _, rfl, rfl, wmul (wide_lt b20 b_y) b_y (by decide) (by decide) (by decide), _, _, rfl, rfl, ?_⟩
    refine ⟨_, rfl, _, rfl, _, _, rfl, rfl, wmul bz bz (by decide) (by decide) (by decide), _, _, rfl, rfl, ?_⟩
    have e := so.2
    rw [Int.one_mul] at e
    show Q (.bl (decide (a * x * x + b * y * y = z * z))) H1
    rw [decide_eq_true e]
    exact q H1 e1
end
end Sf

namespace Sf
open PySem PySem.Spec PyProof.Rows L2
section
variable {P : Program} {w : World} {K : PySem.W.Frag} {mg : Str → Option Value} {base : Heap} {f : Addr} {fd : FuncData} {CR CA CF : Addr}
def spZRight : Sp := fun vs H Q _ => ∃ (a b : Int) (o : Bool), vs = [.int a, .int b, .bl o] ∧ a ≠ 0 ∧ b ≠ 0 ∧ a.natAbs ≤ 1000000 ∧ b.natAbs ≤ 1000000 ∧ (o = true ↔ Open a b) ∧ ∀ H', Same H H' → Q (.bl true) H'
theorem ok_zright (F : FnD K "_law_zero_right" "_law_zero_right" s_L_zero_right f fd) (T : Glob mg) (R : FourK K CF) (RA : AlgK K CA) (C_P_zero_norm : Cal P w K mg base 24 "zero_norm" ["algebra"] (spZero CF CR CA)) (O_Ratio : OwnK K CR) (O_Four : OwnK K CF) (O_Algebra : OwnK K CA)
    (M_Ratio_eq : CalM P w K mg base 2 "__eq__" CR ["self", "value"] (spRatEq CR)) (M_Four_bool : CalM P w K mg base 1 "__bool__" CF ["self"] (spFourBool CF CR)) (M_Algebra_eq : CalM P w K mg base 1 "__eq__" CA ["self", "value"] (spAlgEq CA))
    (N_Algebra_2 : CalC P w K mg base 6 "Algebra" CA ["self", "a", "b"] [] (spAlgInit CA)) (N_Ratio_1 : CalC P w K mg base 3 "Ratio" CR ["self", "top", "bottom"] [.int 1] (spRatInit CR)) : FnOk P w K mg base CX0 25 f fd ["_law_a", "_law_b", "_law_is_open"] spZRight := by
  refine F.ok sc_L_zero_right (fun vs H Q E h => ?_) (fun cdv A outer s H vs Q E hr h => ?_)
  · obtain ⟨a, b, o, rfl, _⟩ := h; rfl
  · obtain ⟨a, b, o, rfl, a0, b0, ab, bb, ho, q⟩ := h
    refine ⟨_, PSs.nox (pss_cons (ps_set (i := 3) sc_L_zero_right.nd rfl (Or.inl rfl) (pe_new N_Algebra_2 (hr.mono (by decide)) (pa_cons (pv 0) (pa_cons (pv 1) pa_nil))))
      (pss_cons (ps_set (i := 4) sc_L_zero_right.nd rfl (Or.inl rfl) (pe_cal C_P_zero_norm (hr.mono (by decide)) (pa_cons (pv 3) pa_nil)))
      (pss_cons (ps_if (pt_not (pt_val (pv 2))) (pss_one (ps_ret (pe_and (pe_cmp (pc_isN (pv 4)) rfl) (pe_one (pe_cmpR op_isBl (pe_fld (pv 3) rfl) pe_bl (nomark _)))))) pss_nil)
      (pss_one (ps_ret (pe_and (pe_cmpR (eq_own M_Algebra_eq.me M_Algebra_eq.ok (hr.mono (by decide)) M_Algebra_eq.b pass0) (pe_fld (pv 4) rfl) (pv 3) (nomark _)) (pe_and (pe_callTy (bool_own M_Four_bool.me M_Four_bool.ok (hr.mono (by decide)) M_Four_bool.b pass0) (by rfl) T.m_bool (by decide +kernel) (pa_cons (pv 4) pa_nil)) (pe_and (pe_cmpR (eq_own M_Ratio_eq.me M_Ratio_eq.ok (hr.mono (by decide)) M_Ratio_eq.b pass0) (pe_fld (pv 4) rfl) (pe_new N_Ratio_1 (hr.mono (by decide)) (pa_cons pe_int pa_nil)) (nomark _)) (pe_one (pe_cmpR op_isBl (pe_fld (pv 3) rfl) pe_bl (nomark _))))))))))), ?_⟩
    refine ⟨_, rfl, _, rfl, fun al dal hal hdal nda => new_alg a0 b0 (by omega) (by omega) hal hdal nda fun H1 e1 hA => ⟨rfl, ?_⟩⟩
    obtain ⟨dx, p1, l, h1, hp, hl, _⟩ := id hA.ex
    have iff := places_nil a0 b0 hl
    refine ⟨_, rfl, ⟨al, a, b, rfl, hA, ab, bb, fun H2 no e2 => ?_, fun X Y Z v H2 op pq e2 hv => ?_⟩⟩
    · have ob : o = false := by
        cases o with
        | false => rfl
        | true => exact absurd (ho.mp rfl) no
      subst ob
      have h2 := e2 _ _ h1
      have ln : decide (l.length = 0) = false := decide_eq_false fun z => no (iff.mp (List.length_eq_zero_iff.mp z))
      rw [ln] at h2
      refine ⟨_, rfl, _, rfl, (if_pos rfl).mpr ?_⟩
      refine ⟨_, rfl, _, rfl, (if_pos (decide_eq_true rfl)).mpr ?_⟩
      refine ⟨_, rfl, al, CA, dx, _, .bl false, rfl, h2, RA.own.cls, RA.n5, rfl, _, _, rfl, rfl, ?_⟩
      exact q H2 (e1.trans e2)
    · have ob : o = true := ho.mpr op
      subst ob
      have h2 := e2 _ _ h1
      have ln : decide (l.length = 0) = true := decide_eq_true (by rw [iff.mpr op]; rfl)
      rw [ln] at h2
      obtain ⟨dv, e, tr, nm, t1, t2, n1, n2, hx, he, _, _, hn, ln2⟩ := id hv.ex
      have hA2 := hA.same e2
      have nT : normT a b ⟨Z, X, Y, 0, 1⟩ = 0 := by
        have := pq.sol.2
        unfold normT
        dsimp only
        grind
      rw [nT] at ln2
      obtain ⟨rfl, rfl⟩ := low_one_r ln2
      refine ⟨_, rfl, _, rfl, (if_neg (by decide)).mpr ?_⟩
      refine ⟨_, rfl, v, CF, dv, _, .ref al, rfl, hx, R.own.cls, R.n1, rfl, _, rfl, al, al, rfl, rfl, hA2.ins, hA2.ins, ⟨al, al, a, b, a, b, rfl, hA2, hA2, true, ⟨fun _ => ⟨rfl, rfl⟩, fun _ => rfl⟩, ?_⟩⟩
      refine ⟨true, rfl, (if_pos rfl).mpr ?_⟩
      refine ⟨_, rfl, v, rfl, ⟨dv, _, hx⟩, ⟨v, al, a, b, _, rfl, hv, true, ⟨fun _ z => pq.sol.1 ⟨z.2.1, z.2.2.1, z.1⟩, fun _ => rfl⟩, ?_⟩⟩
      refine ⟨true, rfl, true, rfl, (if_pos rfl).mpr ?_⟩
      refine ⟨_, rfl, v, CF, dv, _, .ref nm, rfl, hx, R.own.cls, R.n5, rfl, ?_⟩
      refine fun rt drt hrt hdrt ndr => new_rat (t := 0) (b := 1) (by decide) (by decide) (by decide) hrt hdrt ndr fun t' b' H3 lo e3 hR => ⟨rfl, ?_⟩
      obtain ⟨rfl, rfl⟩ := low_one_r lo
      refine ⟨nm, rt, rfl, rfl, (hn.same e3).ins, hR.ins, ⟨nm, .ref rt, 0, 1, 0, 1, rfl, hn.same e3, .rat hR, fun r hr => ⟨r, rfl, ?_⟩⟩⟩
      have er : r = true := hr.mpr ⟨rfl, rfl⟩
      subst er
      refine (if_pos rfl).mpr ?_
      refine ⟨_, rfl, al, CA, dx, _, .bl true, rfl, e3 _ _ h2, RA.own.cls, RA.n5, rfl, _, _, rfl, rfl, ?_⟩
      exact q H3 ((e1.trans e2).trans e3)
end
end Sf

namespace Sf
open PySem PySem.Spec PyProof.Rows L2
theorem sol_open {a b x y z : Int} (a0 : a ≠ 0) (b0 : b ≠ 0) (h : Sol a b 1 x y z) : Open a b := fun p hp => by
  obtain ⟨r, hr⟩ := hsign_some a0 b0 hp
  have e := iso_sign (w := z) (x := x) (y := y) (z := 0) hp a0 b0 (by have := h.2; grind) (fun c => h.1 ⟨c.2.1, c.2.2.1, c.1⟩) hr
  exact e ▸ hr
theorem sol_scale {a b x y z m : Int} (m0 : m ≠ 0) (h : Sol a b 1 x y z) : Sol a b 1 (m * x) (-m * y) (m * z) := by
  refine ⟨fun ⟨c1, c2, c3⟩ => h.1 ⟨(Int.mul_eq_zero.mp c1).resolve_left m0, (Int.mul_eq_zero.mp c2).resolve_left (by omega), (Int.mul_eq_zero.mp c3).resolve_left m0⟩, ?_⟩
  have := h.2
  grind
theorem sol_swap {a b x y z : Int} (h : Sol a b 1 x y z) : Sol b a 1 y x z := by
  refine ⟨fun ⟨c1, c2, c3⟩ => h.1 ⟨c2, c1, c3⟩, ?_⟩
  have := h.2
  omega
theorem tri_any {H : Hp} {t : Addr} {x y z : Int} (h : H t = some (.tup [.int x, .int y, .int z])) : AnyV H (.ref t) :=
  .inl ⟨_, t, rfl, h, (by show 3 ≤ 10; decide), fun u hu => by
    have c : u = .int x ∨ u = .int y ∨ u = .int z := by simpa using hu
    rcases c with rfl | rfl | rfl <;> exact .int _⟩
theorem sol_iff {H : Hp} {t : Addr} {x y z a b : Int} {r : Bool} (h : H t = some (.tup [.int x, .int y, .int z])) (hr : r = true ↔ ∃ x y z, Tri H (.ref t) x y z ∧ Sol a b 1 x y z) : r = true ↔ Sol a b 1 x y z := by
  refine hr.trans ⟨fun ⟨x', y', z', g, s⟩ => ?_, fun s => ⟨x, y, z, ⟨t, rfl, h⟩, s⟩⟩
  obtain ⟨rfl, rfl, rfl⟩ := g.uni ⟨t, rfl, h⟩
  exact s
/-- what point_on tells -/
def Told (a b : Int) (v : V) (H : Hp) : Prop := (v = .non ∧ ¬ Open a b) ∨ ∃ (t : Addr) (x y z : Int), v = .ref t ∧ H t = some (.tup [.int x, .int y, .int z]) ∧ Open a b ∧ PtQ a b x y z
theorem Told.same {a b : Int} {v : V} {H H' : Hp} (h : Told a b v H) (s : Same H H') : Told a b v H' := h.imp id fun ⟨t, x, y, z, e, k, r⟩ => ⟨t, x, y, z, e, s _ _ k, r⟩
section
variable {P : Program} {w : World} {K : PySem.W.Frag} {mg : Str → Option Value} {base : Heap} {f : Addr} {fd : FuncData} {CR CA CF : Addr}
structure RightP (vs : List V) (H : Hp) (Q : VK) : Prop where
  ex : ∃ (p : Addr) (n : Nat), vs = [.ref p] ∧ Sk p n H ∧ n ≤ 120 ∧ ∀ H', Keep p H H' → Sk p (n + 60) H' → Q (.bl true) H'
def spRight : Sp := fun vs H Q _ => RightP vs H Q
/-- is_point called on a tuple of three integers -/
theorem pt_call {H : Hp} {t : Addr} {a b x y z : Int} {Q : VK} (a0 : a ≠ 0) (b0 : b ≠ 0) (ab : a.natAbs ≤ 1000000) (bb : b.natAbs ≤ 1000000) (h : H t = some (.tup [.int x, .int y, .int z])) (hx : x.natAbs < 2 ^ 300) (hy : y.natAbs < 2 ^ 300) (hz : z.natAbs < 2 ^ 300)
    (q : ∀ (r : Bool) (H' : Hp), Same H H' → (r = true ↔ Sol a b 1 x y z) → Q (.bl r) H') : PointP [.int a, .int b, .ref t] H Q :=
  ⟨a, b, .ref t, rfl, a0, b0, by omega, by omega, tri_any h, fun x' y' z' g => by
    obtain ⟨rfl, rfl, rfl⟩ := g.uni ⟨t, rfl, h⟩
    exact ⟨hx, hy, hz⟩, fun r H' e hr => q r H' e (sol_iff h hr)⟩
set_option maxHeartbeats 16000000 in
theorem ok_right (F : FnD K "_law_right" "_law_right" s_L_right f fd) (T : Glob mg) (R : FourK K CF) (RA : AlgK K CA) (C_L_pair : Cal P w K mg base 5 "_law_pair" ["_law_vial_here", "_law_most"] (spPair 1000000 7)) (C_L_places : Cal P w K mg base 3 "_law_places" ["_law_a", "_law_b"] spLPlc) (C_P_point_on : Cal P w K mg base 24 "point_on" ["a", "b"] spPointOn)
    (C_L_zero_right : Cal P w K mg base 25 "_law_zero_right" ["_law_a", "_law_b", "_law_is_open"] spZRight) (C_P_is_point : Cal P w K mg base 4 "is_point" ["a", "b", "value"] spPoint) (C_L_is_point : Cal P w K mg base 1 "_law_is_point" ["_law_a", "_law_b", "_law_value"] (spIsP K)) (C_L_drop : Cal P w K mg base 1 "_law_drop" ["_law_vial_here", "_law_total"] spTake)
    (M_Ratio_bool : CalM P w K mg base 1 "__bool__" CR ["self"] (spRatBool CR)) (N_Algebra_2 : CalC P w K mg base 6 "Algebra" CA ["self", "a", "b"] [] (spAlgInit CA)) (N_Four_2 : CalC P w K mg base 7 "Four" CF ["self", "algebra", "entries", "bottom"] [.int 1] (spFourInit CF CR CA)) : FnOk P w K mg base CX0 26 f fd ["_law_vial_here"] spRight := by
  refine F.ok sc_L_right (fun vs H Q E h => ?_) (fun cdv A outer s H vs Q E hr h => ?_)
  · obtain ⟨p, n, rfl, _⟩ := h.ex; rfl
  · obtain ⟨p, n, rfl, hs, hn, q⟩ := h.ex
    refine ⟨_, PSs.nox (pss_cons (ps_asg (pe_cal C_L_pair (hr.mono (by decide)) (pa_cons (pv 0) (pa_cons (pe_op op_powW pe_int pe_int) pa_nil))) (pg_tup (by rfl) (pgs_cons (pg_name (i := 1) sc_L_right.nd rfl (Or.inl rfl)) (pgs_cons (pg_name (i := 2) sc_L_right.nd rfl (Or.inl rfl)) pgs_nil))))
      (Evl.pss_cut (ps_par (i := 3) (j := 4) (by rfl) sc_L_right.nd rfl rfl (by decide) rfl rfl (pa_cons (pe_cal C_L_places (hr.mono (by decide)) (pa_cons (pv 1) (pa_cons (pv 2) pa_nil))) (pa_cons (pe_cal C_P_point_on (hr.mono (by decide)) (pa_cons (pv 1) (pa_cons (pv 2) pa_nil))) pa_nil)) (by rfl))
      (pss_cons (ps_if (PW.pt (pw_or (pt_cmpR (op_neD hr.units) (pe_fld (pe_new N_Algebra_2 (hr.mono (by decide)) (pa_cons (pv 1) (pa_cons (pv 2) pa_nil))) rfl) (pv 3) (nomark _)) (pw_or1 (pt_cmp (pc_neI (pe_op op_mulW (pe_op op_fdivW (pe_callB call_len_seq (by rfl) T.m_len (by decide +kernel) (pa_cons (pv 3) pa_nil)) pe_int) pe_int) (pe_callB call_len_seq (by rfl) T.m_len (by decide +kernel) (pa_cons (pv 3) pa_nil))))))) (pss_one (ps_ret pe_bl)) pss_nil)
      (pss_cons (ps_if (PW.pt (pw_or (pt_cmpR op_ne (pe_cmp (pc_isN (pv 4)) rfl) (pe_cmpR (op_neD hr.units) (pv 3) (pe_tup pa_nil) (nomark _)) (nomark _)) (pw_or1 (pt_not (pt_val (pe_cal C_L_zero_right (hr.mono (by decide)) (pa_cons (pv 1) (pa_cons (pv 2) (pa_cons (pe_cmpR (op_eqD hr.units) (pv 3) (pe_tup pa_nil) (nomark _)) pa_nil))))))))) (pss_one (ps_ret pe_bl)) pss_nil)
      (pss_cons (ps_if (pt_cmp (pc_isN (pv 4))) (pss_one (ps_ret (pe_and (pe_not (pe_cal C_P_is_point (hr.mono (by decide)) (pa_cons (pv 1) (pa_cons (pv 2) (pa_cons (pe_tup (pa_cons pe_int (pa_cons pe_int (pa_cons pe_int pa_nil)))) pa_nil))))) (pe_one (pe_not (pe_cal C_P_is_point (hr.mono (by decide)) (pa_cons (pv 1) (pa_cons (pv 2) (pa_cons (pe_tup (pa_cons pe_int (pa_cons pe_int (pa_cons pe_int pa_nil)))) pa_nil))))))))) pss_nil)
      (pss_cons (ps_if (PW.pt (pw_or (pt_not (pt_val (pe_callB call_isi (by rfl) T.m_isinstance (by decide +kernel) (pa_cons (pv 4) (pa_cons (pe_bltn (v := .ty "tuple") (u := .type "tuple") (by rfl) T.m_tuple (by decide +kernel) rfl) pa_nil))))) (pw_or (pt_cmp (pc_neI (pe_callB call_len_seq (by rfl) T.m_len (by decide +kernel) (pa_cons (pv 4) pa_nil)) pe_int)) (pw_or (pt_not (pt_val (pe_cal C_L_is_point (hr.mono (by decide)) (pa_cons (pv 1) (pa_cons (pv 2) (pa_cons (pv 4) pa_nil)))))) (pw_or1 (pt_not (pt_val (pe_cal C_P_is_point (hr.mono (by decide)) (pa_cons (pv 1) (pa_cons (pv 2) (pa_cons (pv 4) pa_nil))))))))))) (pss_one (ps_ret pe_bl)) pss_nil)
      (pss_cons (ps_asg (pv 4) (pg_tup (by rfl) (pgs_cons (pg_name (i := 5) sc_L_right.nd rfl (Or.inl rfl)) (pgs_cons (pg_name (i := 6) sc_L_right.nd rfl (Or.inl rfl)) (pgs_cons (pg_name (i := 7) sc_L_right.nd rfl (Or.inl rfl)) pgs_nil)))))
      (pss_cons (ps_set (i := 8) sc_L_right.nd rfl (Or.inl rfl) (pe_new N_Four_2 (hr.mono (by decide)) (pa_cons (pe_new N_Algebra_2 (hr.mono (by decide)) (pa_cons (pv 1) (pa_cons (pv 2) pa_nil))) (pa_cons (pe_tup (pa_cons (pv 7) (pa_cons (pv 5) (pa_cons (pv 6) (pa_cons pe_int pa_nil))))) pa_nil))))
      (pss_cons (ps_set (i := 9) sc_L_right.nd rfl (Or.inl rfl) (pe_op op_add pe_int (pe_cal C_L_drop (hr.mono (by decide)) (pa_cons (pv 0) (pa_cons pe_int pa_nil)))))
      (pss_one (ps_ret (pe_and (pe_not (pe_callTy (bool_own M_Ratio_bool.me M_Ratio_bool.ok (hr.mono (by decide)) M_Ratio_bool.b pass0) (by rfl) T.m_bool (by decide +kernel) (pa_cons (pe_fld (pv 8) rfl) pa_nil))) (pe_and (pe_cal C_P_is_point (hr.mono (by decide)) (pa_cons (pv 1) (pa_cons (pv 2) (pa_cons (pe_tup (pa_cons (pe_op op_mulW (pv 9) (pv 5)) (pa_cons (pe_op op_mulW (pe_un un_neg (pv 9)) (pv 6)) (pa_cons (pe_op op_mulW (pv 9) (pv 7)) pa_nil)))) pa_nil)))) (pe_one (pe_cal C_P_is_point (hr.mono (by decide)) (pa_cons (pv 2) (pa_cons (pv 1) (pa_cons (pe_tup (pa_cons (pv 6) (pa_cons (pv 5) (pa_cons (pv 7) pa_nil)))) pa_nil)))))))))))))))))), ?_⟩
    refine ⟨_, rfl, 10, 6, rfl, rfl, ⟨by decide, by decide +kernel⟩, ⟨p, 10 ^ (6 : Int).toNat, n, rfl, hs, by omega, by decide, by decide, fun a b t0 H1 a0 b0 ab bb k1 s1 ht0 => ?_⟩⟩
    refine ⟨t0, _, rfl, .inl (.inl ht0), rfl, _, _, rfl, _, _, rfl, rfl, ?_⟩
    refine ⟨fun σ H' => ∃ (v : V) (l : List Int) (m : Addr), σ = [some (.ref p), some (.int a), some (.int b), some (.ref m), some v, none, none, none, none, none] ∧ Same H1 H' ∧ PlacesOf a b l ∧ l.length ≤ 50 ∧ H' m = some (.tup (l.map V.int)) ∧ Told a b v H', ?_, ?_⟩
    · refine ⟨_, rfl, _, rfl, ⟨a, b, rfl, a0, b0, ab, bb, fun l m H2 hl ll e2 hm => ?_⟩⟩
      refine ⟨_, rfl, _, rfl, ⟨a, b, rfl, a0, b0, ab, bb, fun H3 no e3 => ?_, fun x y z t H3 op pq e3 ht => ?_⟩⟩
      · exact ⟨_, _, rfl, .non, l, m, rfl, e2.trans e3, hl, ll, e3 _ _ hm, .inl ⟨rfl, no⟩⟩
      · exact ⟨_, _, rfl, .ref t, l, m, rfl, e2.trans e3, hl, ll, e3 _ _ hm, .inr ⟨t, x, y, z, rfl, ht, op, pq⟩⟩
    · rintro σ H2 ⟨v, l, m, rfl, e2, hl, ll, hm, hv⟩
      have k2 := k1.trans (Keep.same e2)
      have s2 := s1.same e2
      have iff := places_nil a0 b0 hl
      have ev := even_all a0 b0 hl
      clear e2 hs
      refine ⟨_, rfl, _, rfl, fun al dal hal hdal nda => new_alg a0 b0 (by omega) (by omega) hal hdal nda fun H3 e3 hA => ⟨rfl, ?_⟩⟩
      obtain ⟨dx, p1, l1, h1, hp1, hl1, _⟩ := id hA.ex
      have el : l1 = l := places_unique hl1 hl
      subst el
      replace hm := e3 _ _ hm
      replace hv := hv.same e3
      refine ⟨al, CA, dx, _, .ref p1, rfl, h1, RA.own.cls, RA.n1, rfl, ?_⟩
      have same2 : ∀ l : List Int, PyData.eqv (.tuple (l.map PyData.int)) (.tuple (l.map PyData.int)) = true := fun l => by
        show PyData.eqvAll (l.map PyData.int) (l.map PyData.int) = true
        rw [eqv_ints]
        exact decide_eq_true rfl
      refine ⟨_, rfl, .tuple (l1.map PyData.int), .tuple (l1.map PyData.int), dp_tup (SqT.of hp1), dp_tup (SqT.of hm), shp_tup _, shp_tup _, ?_⟩
      rw [same2]
      refine ⟨false, rfl, (if_neg (by decide)).mpr ?_⟩
      have ll2 : (l1.map V.int).length = l1.length := List.length_map ..
      have ll3 : (((l1.map V.int).length : Nat) : Int) ≤ 50 := by omega
      refine ⟨_, rfl, m, _, rfl, .inr (SqT.of hm), _, _, rfl, rfl, CDivW.of (by decide) (lt3000s (by omega) (by omega)), _, _, rfl, rfl, CMulW.of (lt3000s (by omega) (by omega)) (by decide +kernel), _, rfl, m, _, rfl, .inr (SqT.of hm), _, _, rfl, rfl, _, rfl, ifn (fun c => ?_) (fun c => ?_)⟩
      · exfalso
        have c : ¬ (((l1.map V.int).length : Nat) : Int) / 2 * 2 = (((l1.map V.int).length : Nat) : Int) := c
        omega
      refine ⟨_, rfl, _, rfl, (by show 0 ≤ sizeLine; decide), fun u hu => ?_⟩
      have e4 := same_upd (o := .tup []) hu
      have ku : upd H3 u (.tup []) u = some (.tup (([] : List Int).map V.int)) := upd_same
      generalize upd H3 u _ = H4 at e4 ku ⊢
      have eqn : PyData.eqv (.tuple (l1.map PyData.int)) (.tuple (([] : List Int).map PyData.int)) = decide (l1 = []) := by
        show PyData.eqvAll (l1.map PyData.int) (([] : List Int).map PyData.int) = _
        rw [eqv_ints]
      refine ⟨.tuple (l1.map PyData.int), .tuple (([] : List Int).map PyData.int), dp_tup (SqT.of (e4 _ _ hm)), dp_tup (SqT.of ku), shp_tup _, shp_tup _, ?_⟩
      rw [eqn]
      replace hv := hv.same e4
      have vN : decide (v = V.non) = !decide (l1 = []) := by
        rcases hv with ⟨e, no⟩ | ⟨t, x, y, z, e, _, op, _⟩
        · rw [decide_eq_true e, decide_eq_false (fun z => no (iff.mp z))]
          rfl
        · rw [decide_eq_false (by rw [e]; exact fun z => nomatch z), decide_eq_true (iff.mpr op)]
          rfl
      refine ⟨rfl, ?_⟩
      rw [vN, decide_eq_true rfl]
      refine ⟨false, rfl, (if_neg (by decide)).mpr ?_⟩
      refine ⟨_, rfl, _, rfl, _, rfl, (by show 0 ≤ sizeLine; decide), fun u2 hu2 => ?_⟩
      have e5 := same_upd (o := .tup []) hu2
      have ku2 : upd H4 u2 (.tup []) u2 = some (.tup (([] : List Int).map V.int)) := upd_same
      generalize upd H4 u2 _ = H5 at e5 ku2 ⊢
      refine ⟨.tuple (l1.map PyData.int), .tuple (([] : List Int).map PyData.int), dp_tup (SqT.of (e5 _ _ (e4 _ _ hm))), dp_tup (SqT.of ku2), shp_tup _, shp_tup _, ?_⟩
      rw [eqn]
      refine ⟨a, b, _, rfl, a0, b0, ab, bb, decide_eq_true_iff.trans iff, fun H6 e6 => ⟨true, rfl, ?_⟩⟩
      have hv6 := hv.same (e5.trans e6)
      have k6 := k2.trans (Keep.same (((e3.trans e4).trans e5).trans e6))
      have s6 := s2.same (((e3.trans e4).trans e5).trans e6)
      refine (if_neg (by decide)).mpr ?_
      have sm : ∀ {i : Int}, i.natAbs ≤ 1000000 → i.natAbs < 2 ^ 300 := fun h => Nat.lt_of_le_of_lt h (by decide +kernel)
      clear hv e3 e4 e5 k2 s2 k1 s1
      refine ⟨_, rfl, _, rfl, ifd (fun h => ?_) (fun h => ?_)⟩
      · have no : ¬ Open a b := by
          rcases hv6 with ⟨_, no⟩ | ⟨t, x, y, z, e, _⟩
          · exact no
          · rw [e] at h
            exact absurd h (fun z => nomatch z)
        have rf : ∀ {r : Bool} {x y z : Int}, (r = true ↔ Sol a b 1 x y z) → r = false := fun {r x y z} hr => by
          cases r with
          | false => rfl
          | true => exact absurd (sol_open a0 b0 (hr.mp rfl)) no
        refine ⟨_, rfl, _, rfl, (by show 3 ≤ sizeLine; decide), fun t ht => pt_call a0 b0 ab bb upd_same (sm (by decide)) (sm (by decide)) (sm (by decide)) fun r1 H7 e7 h1 => ?_⟩
        have := rf h1
        subst this
        refine ⟨_, rfl, true, rfl, (if_pos rfl).mpr ?_⟩
        refine ⟨_, rfl, _, rfl, (by show 3 ≤ sizeLine; decide), fun t' ht' => pt_call a0 b0 ab bb upd_same (sm (by decide)) (sm (by decide)) (sm (by decide)) fun r2 H8 e8 h2 => ?_⟩
        have := rf h2
        subst this
        have ee := ((same_upd ht).trans e7).trans ((same_upd ht').trans e8)
        exact ⟨_, rfl, q H8 (k6.trans (Keep.same ee)) ((s6.same ee).mono (by omega))⟩
      · rcases hv6 with ⟨e, _⟩ | ⟨t, x, y, z, rfl, ht, op, pq⟩
        · exact absurd e h
        have h3 := (pt_bd pq.bx).2.2
        have h4 := (pt_bd pq.b_y).2.2
        have h5 := (pt_bd pq.bz).2.2
        refine ⟨_, rfl, _, .ty "tuple", _, _, true, rfl, .ty "tuple", .base (.tup ht), (by show kitB "tuple" "tuple" = some true; decide +kernel), _, rfl, ?_⟩
        refine (if_neg (by decide)).mpr ?_
        refine ⟨_, rfl, t, _, rfl, .inr (SqT.of ht), _, _, rfl, rfl, _, rfl, ifn (fun c => absurd rfl c) (fun _ => ?_)⟩
        refine ⟨_, rfl, _, rfl, _, rfl, ⟨a, b, x, y, z, t, rfl, ab, bb, ht, h3, h4, h5, pq.sol, fun H7 e7 => ⟨true, rfl, (if_neg (by decide)).mpr ?_⟩⟩⟩
        refine ⟨_, rfl, _, rfl, _, rfl, pt_call a0 b0 ab bb (e7 _ _ ht) h3 h4 h5 fun r H8 e8 hr => ⟨r, rfl, ?_⟩⟩
        have er : r = true := hr.mpr pq.sol
        subst er
        refine (if_neg (by decide)).mpr ?_
        have ht8 := e8 _ _ (e7 _ _ ht)
        refine ⟨_, rfl, t, _, rfl, .inl (.inl ht8), rfl, _, _, rfl, _, _, rfl, _, _, rfl, rfl, ?_⟩
        refine ⟨_, rfl, _, rfl, fun al2 dal2 hal2 hdal2 nda2 => new_alg a0 b0 (by omega) (by omega) hal2 hdal2 nda2 fun H9 e9 hA2 => ⟨rfl, ?_⟩⟩
        refine ⟨_, rfl, _, rfl, _, rfl, (by show 4 ≤ sizeLine; decide), fun e he => ?_⟩
        obtain ⟨g1, g2, g3⟩ := pt_four pq
        refine fun fo dfo hfo hdfo ndf => new_four (p := ⟨z, x, y, 0, 1⟩) (hA2.same (same_upd he)) upd_same (by show (1 : Int) ≠ 0; decide) g1 g2 g3 hfo hdfo ndf fun r H10 hr10 e10 hF => ⟨rfl, ?_⟩
        have er := low_one_q hr10
        subst er
        have ee := ((((e7.trans e8).trans e9).trans (same_upd he)).trans e10)
        have k10 := k6.trans (Keep.same ee)
        have s10 := s6.same ee
        refine ⟨_, rfl, take_of s10 (by omega) (by decide) (by decide) fun m0 H11 m0a m0b k11 s11 _ => ?_⟩
        refine ⟨_, _, rfl, rfl, ?_⟩
        have nT : normT a b ⟨z, x, y, 0, 1⟩ = 0 := by
          have := pq.sol.2
          unfold normT
          dsimp only
          grind
        obtain ⟨dv, e', tr, nm, t1, t2, n1, n2, hx10, _, _, _, hnm, ln2⟩ := id hF.ex
        rw [nT] at ln2
        obtain ⟨rfl, rfl⟩ := low_one_r ln2
        obtain ⟨dn, hn10⟩ := id hnm
        have nnm : nm ≠ p := fun e => by
          obtain ⟨_, g, _⟩ := s10
          rw [e, g] at hn10
          cases hn10
        have nfo : fo ≠ p := fun e => by
          obtain ⟨_, g, _⟩ := s10
          rw [e, g] at hx10
          cases hx10
        have hn11 : RatioAt CR H11 nm 0 1 := ⟨dn, k11 _ _ hn10 nnm⟩
        have hx11 := k11 _ _ hx10 nfo
        have K11 := k10.trans k11
        have mb : (2 + m0).natAbs ≤ 10 := by omega
        have m2 : 2 + m0 ≠ 0 := by omega
        have big : ∀ {i : Int}, (i.natAbs : Int) ≤ 2 ^ 165 → ((2 + m0) * i).natAbs < 2 ^ 300 ∧ (-(2 + m0) * i).natAbs < 2 ^ 300 := fun {i} h => by
          have h2 : i.natAbs ≤ 2 ^ 165 := by
            have e : ((2 ^ 165 : Nat) : Int) = 2 ^ 165 := by decide
            omega
          have h3 : (2 + m0).natAbs * i.natAbs ≤ 10 * 2 ^ 165 := Nat.mul_le_mul mb h2
          rw [Int.natAbs_mul, Int.natAbs_mul, Int.natAbs_neg]
          exact ⟨Nat.lt_of_le_of_lt h3 (by decide +kernel), Nat.lt_of_le_of_lt h3 (by decide +kernel)⟩
        have wm : (2 + m0).natAbs < 2 ^ 3000 := lt3000s (by omega) (by omega)
        have wm' : (-(2 + m0)).natAbs < 2 ^ 3000 := by rw [Int.natAbs_neg]; exact wm
        refine ⟨_, rfl, fo, CF, dv, _, .ref nm, rfl, hx11, R.own.cls, R.n5, rfl, nm, rfl, hn11.ins, nm, 0, 1, rfl, hn11, _, rfl, ?_⟩
        refine ⟨_, rfl, true, rfl, (if_pos rfl).mpr ?_⟩
        refine ⟨_, rfl, _, rfl, _, rfl, _, rfl, _, _, rfl, rfl, CMulW.of wm (pt_bd pq.bx).2.1, _, rfl, _, rfl, _, rfl, _, _, rfl, rfl, CMulW.of wm' (pt_bd pq.b_y).2.1, _, rfl, _, rfl, _, _, rfl, rfl, CMulW.of wm (pt_bd pq.bz).2.1, ?_⟩
        refine ⟨(by show 3 ≤ sizeLine; decide), fun ta hta => pt_call a0 b0 ab bb upd_same (big pq.bx).1 (big pq.b_y).2 (big pq.bz).1 fun ra H12 e12 hra => ?_⟩
        have := hra.mpr (sol_scale m2 pq.sol)
        subst this
        refine ⟨true, rfl, (if_pos rfl).mpr ?_⟩
        refine ⟨_, rfl, _, rfl, _, rfl, _, rfl, _, rfl, (by show 3 ≤ sizeLine; decide), fun tb htb => pt_call b0 a0 bb ab upd_same h4 h3 h5 fun rb H13 e13 hrb => ?_⟩
        have := hrb.mpr (sol_swap pq.sol)
        subst this
        have ef := ((same_upd hta).trans e12).trans ((same_upd htb).trans e13)
        exact q H13 (K11.trans (Keep.same ef)) ((s11.same ef).mono (by omega))

end
end Sf

namespace Sf
open PySem PySem.Spec PyProof.Rows L2
theorem not_open {a b p : Int} (hp : p = 0 ∨ PrP p) (h : HSign a b p (-1)) : ¬ Open a b := fun op => absurd (hsign_unique hp h (op p hp)) (by decide)
theorem prime3 : PrP 3 := ⟨by decide, fun k h1 h2 => by
  have : k = 2 := by omega
  subst this
  decide⟩
theorem prime5 : PrP 5 := ⟨by decide, fun k h1 h2 => by
  have : k = 2 ∨ k = 3 ∨ k = 4 := by omega
  rcases this with rfl | rfl | rfl <;> decide⟩
theorem no25 : ¬ Open 2 5 := not_open (.inr prime5) (.inr ⟨by decide, 0, 1, 2, 1, ⟨by decide, by decide⟩, ⟨by decide, by decide⟩, by decide⟩)
theorem no11 : ¬ Open (-1) (-1) := not_open (.inl rfl) (.inl ⟨rfl, by decide⟩)
theorem no111 : ¬ Open (-1) (-11) := not_open (.inl rfl) (.inl ⟨rfl, by decide⟩)
theorem no23 : ¬ Open 2 3 := not_open (.inr prime3) (.inr ⟨by decide, 0, 1, 2, 1, ⟨by decide, by decide⟩, ⟨by decide, by decide⟩, by decide⟩)
theorem paired_at {α β : Type} {R : α → β → Prop} : ∀ {l : List α} {m : List β}, Paired R l m → ∀ {j : Nat} {y : β}, m[j]? = some y → ∃ x, l[j]? = some x ∧ R x y
  | _, _, .nil, j, y, h => nomatch h
  | _, _, .cons r t, 0, y, h => by
    cases h
    exact ⟨_, rfl, r⟩
  | _, _, .cons r t, j + 1, y, h => paired_at t (j := j) h
/-- the pairs at the end -/
def some7 : List (Int × Int) := [(2, 7), (-1, 2), (1, 5), (10 ^ 6, -10 ^ 6), (-7, 11), (999983, 1), (-999983, 999983)]
theorem some7_ok : ∀ e ∈ some7, e.1 ≠ 0 ∧ e.2 ≠ 0 ∧ e.1.natAbs ≤ 1000000 ∧ e.2.natAbs ≤ 1000000 ∧ Open e.1 e.2 := fun e he => by
  have c : e = (2, 7) ∨ e = (-1, 2) ∨ e = (1, 5) ∨ e = (10 ^ 6, -10 ^ 6) ∨ e = (-7, 11) ∨ e = (999983, 1) ∨ e = (-999983, 999983) := by simpa [some7] using he
  rcases c with rfl | rfl | rfl | rfl | rfl | rfl | rfl
  · exact ⟨by decide, by decide, by decide, by decide, sol_open (x := 1) (y := 1) (z := 3) (by decide) (by decide) ⟨by decide, by decide⟩⟩
  · exact ⟨by decide, by decide, by decide, by decide, sol_open (x := 1) (y := 1) (z := 1) (by decide) (by decide) ⟨by decide, by decide⟩⟩
  · exact ⟨by decide, by decide, by decide, by decide, sol_open (x := 1) (y := 0) (z := 1) (by decide) (by decide) ⟨by decide, by decide⟩⟩
  · exact ⟨by decide, by decide, by decide, by decide, sol_open (x := 1) (y := 1) (z := 0) (by decide) (by decide) ⟨by decide, by decide⟩⟩
  · exact ⟨by decide, by decide, by decide, by decide, sol_open (x := 1) (y := 1) (z := 2) (by decide) (by decide) ⟨by decide, by decide⟩⟩
  · exact ⟨by decide, by decide, by decide, by decide, sol_open (x := 0) (y := 1) (z := 1) (by decide) (by decide) ⟨by decide, by decide⟩⟩
  · exact ⟨by decide, by decide, by decide, by decide, sol_open (x := 1) (y := 1) (z := 0) (by decide) (by decide) ⟨by decide, by decide⟩⟩
section
variable {P : Program} {w : World} {K : PySem.W.Frag} {mg : Str → Option Value} {base : Heap} {f : Addr} {fd : FuncData}
def spLaw (K : PySem.W.Frag) : Sp := fun vs H Q _ => ∃ (a : Addr) (ns : List Int), vs = [.ref a] ∧ SqL K H a (ns.map V.int) ∧ ns.length ≤ 63 ∧ ∀ H', Q (.bl true) H'
set_option maxHeartbeats 16000000 in
theorem ok_law (F : FnD K "law" "law" s_L_law f fd) (T : Glob mg) (C_L_vial : Cal P w K mg base 1 "_law_vial" ["_law_script", "_law_at"] (spSack K)) (C_L_right : Cal P w K mg base 26 "_law_right" ["_law_vial_here"] spRight) (C_P_point_on : Cal P w K mg base 24 "point_on" ["a", "b"] spPointOn) (C_L_is_point : Cal P w K mg base 1 "_law_is_point" ["_law_a", "_law_b", "_law_value"] (spIsP K)) :
    FnOk P w K mg base CX0 27 f fd ["_law_script"] (spLaw K) := by
  refine F.ok sc_L_law (fun vs H Q E h => ?_) (fun cdv A outer s H vs Q E hr h => ?_)
  · obtain ⟨a, ns, rfl, _⟩ := h; rfl
  · obtain ⟨a, ns, rfl, hS, hl, q⟩ := h
    refine ⟨_, PSs.nox (pss_cons (ps_for PassesOwn.never rfl (pi_range1 (by rfl) T.m_range (pa_cons (pe_callB (call_max2 rfl) (by rfl) T.m_max (by decide +kernel) (pa_cons pe_int (pa_cons (pe_callB (call_min2 rfl) (by rfl) T.m_min (by decide +kernel) (pa_cons pe_int (pa_cons (pe_callB call_len_seq (by rfl) T.m_len (by decide +kernel) (pa_cons (pv 0) pa_nil)) pa_nil))) pa_nil))) pa_nil)) (pg_name (i := 1) sc_L_law.nd rfl (Or.inl rfl)) (pss_cons (ps_set (i := 2) sc_L_law.nd rfl (Or.inl rfl) (pe_cal C_L_vial (hr.mono (by decide)) (pa_cons (pv 0) (pa_cons (pv 1) pa_nil))))
      (pss_one (ps_if (pt_not (PW.pt (pw_and (pt_val (pe_cal C_L_right (hr.mono (by decide)) (pa_cons (pv 2) pa_nil))) (pw_and (pt_val (pe_cal C_L_right (hr.mono (by decide)) (pa_cons (pv 2) pa_nil))) (pw_and1 (pt_val (pe_cal C_L_right (hr.mono (by decide)) (pa_cons (pv 2) pa_nil)))))))) (pss_one (ps_ret pe_bl)) pss_nil))))
      (pss_cons (ps_if (pt_cmpR (op_neD hr.units) (pe_lst (pa_cons (pe_cal C_P_point_on (hr.mono (by decide)) (pa_cons pe_int (pa_cons pe_int pa_nil))) (pa_cons (pe_cal C_P_point_on (hr.mono (by decide)) (pa_cons (pe_un un_neg pe_int) (pa_cons (pe_un un_neg pe_int) pa_nil))) (pa_cons (pe_cal C_P_point_on (hr.mono (by decide)) (pa_cons (pe_un un_neg pe_int) (pa_cons (pe_un un_neg pe_int) pa_nil))) (pa_cons (pe_cal C_P_point_on (hr.mono (by decide)) (pa_cons pe_int (pa_cons pe_int pa_nil))) pa_nil))))) (pe_lst (pa_cons pe_non (pa_cons pe_non (pa_cons pe_non (pa_cons pe_non pa_nil))))) (nomark _)) (pss_one (ps_ret pe_bl)) pss_nil)
      (pss_cons (ps_set (i := 3) sc_L_law.nd rfl (Or.inl rfl) (pe_lst (pa_cons (pe_tup (pa_cons pe_int (pa_cons pe_int pa_nil))) (pa_cons (pe_tup (pa_cons (pe_un un_neg pe_int) (pa_cons pe_int pa_nil))) (pa_cons (pe_tup (pa_cons pe_int (pa_cons pe_int pa_nil))) (pa_cons (pe_tup (pa_cons (pe_op op_powW pe_int pe_int) (pa_cons (pe_un un_neg (pe_op op_powW pe_int pe_int)) pa_nil))) (pa_cons (pe_tup (pa_cons (pe_un un_neg pe_int) (pa_cons pe_int pa_nil))) (pa_cons (pe_tup (pa_cons pe_int (pa_cons pe_int pa_nil))) (pa_cons (pe_tup (pa_cons (pe_un un_neg pe_int) (pa_cons pe_int pa_nil))) pa_nil)))))))))
      (pss_one (ps_ret (pe_cmpR (op_eqD hr.units) (pe_lc rfl sc_L_law.nd (own := [("_law_a", 4), ("_law_b", 5)]) (pi_list (pv 3)) (blkOk_by (N := ["_law_script", "_law_at", "_law_vial_here", "_law_some", "_law_a", "_law_b"]) (sc := defScope s_L_law) (by decide +kernel)) (fun _ _ _ _ _ => pg_tupK (K := K) (n := 2) rfl (by rfl) (pgs_cons (pg_name (i := 4) sc_L_law.nd rfl (Or.inl rfl)) (pgs_cons (pg_name (i := 5) sc_L_law.nd rfl (Or.inl rfl)) pgs_nil))) (fun _ _ _ _ _ => pts_nil) (fun _ _ _ _ _ => (pe_cal C_L_is_point (hr.mono (by decide)) (pa_cons (pv 4) (pa_cons (pv 5) (pa_cons (pe_cal C_P_point_on (hr.mono (by decide)) (pa_cons (pv 4) (pa_cons (pv 5) pa_nil))) pa_nil)))))) (pe_op op_rep (pe_lst (pa_cons pe_bl pa_nil)) pe_int) (nomark _))))))), ?_⟩
    have hT : ∀ n : Nat, ∃ t : Nat, (if (if (n : Int) < 3 then (n : Int) else 3) > 1 then (if (n : Int) < 3 then (n : Int) else 3) else 1) = (t : Int) ∧ t ≤ 3 := fun n => by
      by_cases c : n < 3
      · by_cases c2 : n > 1
        · exact ⟨n, by rw [if_pos (by omega : (n : Int) < 3), if_pos (by omega)], by omega⟩
        · exact ⟨1, by rw [if_pos (by omega : (n : Int) < 3), if_neg (by omega)]; rfl, by omega⟩
      · exact ⟨3, by rw [if_neg (by omega : ¬ (n : Int) < 3), if_pos (by decide)]; rfl, by omega⟩
    obtain ⟨t, et, ht⟩ := hT (ns.map V.int).length
    refine ⟨_, rfl, a, _, rfl, .inl hS, _, _, rfl, _, _, rfl, (t : Int), ?_, by omega, by omega, ?_⟩
    · rw [← et]
    refine for_range (lo := 0) (n := t) (fun i σ H' => ∃ v1 v2, σ = [some (.ref a), v1, v2, none, none, none] ∧ Same H H') ⟨none, none, rfl, Same.refl H⟩ ?_ ?_
    · rintro i σ H0 hi ⟨v1, v2, rfl, hs0⟩
      refine ⟨_, rfl, _, rfl, a, ns, i, by rw [Int.zero_add]; rfl, hs0.seq hS, hl, by omega, fun p xs H1 e1 hpn hp1 hxs => ?_⟩
      have s1 : Sk p 0 H1 := ⟨xs, hp1, hxs⟩
      refine ⟨_, rfl, ⟨p, 0, rfl, s1, by decide, fun H2 k2 s2 => ⟨_, rfl, _, rfl, ⟨p, 60, rfl, s2, by decide, fun H3 k3 s3 => ⟨_, rfl, _, rfl, ⟨p, 120, rfl, s3, by decide, fun H4 k4 s4 => ⟨_, rfl, ?_⟩⟩⟩⟩⟩⟩⟩
      refine ⟨_, _, rfl, fun b o e => ?_⟩
      have e1' := e1 _ _ (hs0 _ _ e)
      have nb : b ≠ p := fun z => by
        rw [z] at e
        have := hs0 _ _ e
        rw [hpn] at this
        cases this
      exact k4 _ _ (k3 _ _ (k2 _ _ e1' nb) nb) nb
    · rintro σ H0 ⟨v1, v2, rfl, hs0⟩
      refine ⟨2, 5, rfl, by decide, by decide, by decide, by decide, fun H1 _ e1 => ?_, fun _ _ _ _ _ op => absurd op no25⟩
      refine ⟨_, rfl, _, rfl, -1, -1, rfl, by decide, by decide, by decide, by decide, fun H2 _ e2 => ?_, fun _ _ _ _ _ op => absurd op no11⟩
      refine ⟨_, rfl, _, rfl, -1, -11, rfl, by decide, by decide, by decide, by decide, fun H3 _ e3 => ?_, fun _ _ _ _ _ op => absurd op no111⟩
      refine ⟨2, 3, rfl, by decide, by decide, by decide, by decide, fun H4 _ e4 => ?_, fun _ _ _ _ _ op => absurd op no23⟩
      refine ⟨(by show 4 ≤ sizeLine; decide), fun L hL => ⟨(by show 4 ≤ sizeLine; decide), fun M hM => ?_⟩⟩
      have kL : upd (upd H4 L (.lst [.non, .non, .non, .non])) M (.lst [.non, .non, .non, .non]) L = some (.lst [.non, .non, .non, .non]) := same_upd hM _ _ upd_same
      have n4 : DpAll K (upd (upd H4 L (.lst [.non, .non, .non, .non])) M (.lst [.non, .non, .non, .non])) [.non, .non, .non, .non] [.none, .none, .none, .none] := .cons .non (.cons .non (.cons .non (.cons .non .nil)))
      refine ⟨.list [.none, .none, .none, .none], .list [.none, .none, .none, .none], .lst (SqL.of kL) n4, .lst (SqL.of upd_same) n4, by decide +kernel, by decide +kernel, ?_⟩
      rw [show PyData.eqv (.list [.none, .none, .none, .none]) (.list [.none, .none, .none, .none]) = true by decide +kernel]
      refine ⟨false, rfl, (if_neg (by decide)).mpr ?_⟩
      clear kL n4
      generalize upd (upd H4 L (.lst [.non, .non, .non, .non])) M (.lst [.non, .non, .non, .non]) = G0
      refine ⟨(by show 2 ≤ sizeLine; decide), fun t1 k1 => ⟨_, rfl, (by show 2 ≤ sizeLine; decide), fun t2 k2 => ⟨(by show 2 ≤ sizeLine; decide), fun t3 k3 => ?_⟩⟩⟩
      refine ⟨10, 6, rfl, rfl, ⟨by decide, by decide +kernel⟩, 10, 6, rfl, rfl, ⟨by decide, by decide +kernel⟩, _, rfl, (by show 2 ≤ sizeLine; decide), fun t4 k4 => ?_⟩
      refine ⟨_, rfl, (by show 2 ≤ sizeLine; decide), fun t5 k5 => ⟨(by show 2 ≤ sizeLine; decide), fun t6 k6 => ⟨_, rfl, (by show 2 ≤ sizeLine; decide), fun t7 k7 => ?_⟩⟩⟩
      refine ⟨(by show 7 ≤ sizeLine; decide), fun W hW => ?_⟩
      have rel : Paired (fun (e : Int × Int) t => (upd (upd (upd (upd (upd (upd (upd (upd G0 t1 (.tup [.int 2, .int 7])) t2 (.tup [.int (-1), .int 2])) t3 (.tup [.int 1, .int 5])) t4 (.tup [.int (10 ^ (6 : Int).toNat), .int (-10 ^ (6 : Int).toNat)])) t5 (.tup [.int (-7), .int 11])) t6 (.tup [.int 999983, .int 1])) t7 (.tup [.int (-999983), .int 999983])) W (.lst [.ref t1, .ref t2, .ref t3, .ref t4, .ref t5, .ref t6, .ref t7])) t = some (.tup [.int e.1, .int e.2])) some7 [t1, t2, t3, t4, t5, t6, t7] :=
        .cons (same_upd hW _ _ (same_upd k7 _ _ (same_upd k6 _ _ (same_upd k5 _ _ (same_upd k4 _ _ (same_upd k3 _ _ (same_upd k2 _ _ upd_same))))))) (.cons (same_upd hW _ _ (same_upd k7 _ _ (same_upd k6 _ _ (same_upd k5 _ _ (same_upd k4 _ _ (same_upd k3 _ _ upd_same))))))
        (.cons (same_upd hW _ _ (same_upd k7 _ _ (same_upd k6 _ _ (same_upd k5 _ _ (same_upd k4 _ _ upd_same))))) (.cons (same_upd hW _ _ (same_upd k7 _ _ (same_upd k6 _ _ (same_upd k5 _ _ upd_same)))) (.cons (same_upd hW _ _ (same_upd k7 _ _ (same_upd k6 _ _ upd_same))) (.cons (same_upd hW _ _ (same_upd k7 _ _ upd_same)) (.cons (same_upd hW _ _ upd_same) .nil))))))
      have kW : (upd (upd (upd (upd (upd (upd (upd (upd G0 t1 (.tup [.int 2, .int 7])) t2 (.tup [.int (-1), .int 2])) t3 (.tup [.int 1, .int 5])) t4 (.tup [.int (10 ^ (6 : Int).toNat), .int (-10 ^ (6 : Int).toNat)])) t5 (.tup [.int (-7), .int 11])) t6 (.tup [.int 999983, .int 1])) t7 (.tup [.int (-999983), .int 999983])) W (.lst [.ref t1, .ref t2, .ref t3, .ref t4, .ref t5, .ref t6, .ref t7])) W = some (.lst (([t1, t2, t3, t4, t5, t6, t7] : List Addr).map V.ref)) := upd_same
      have l7 : ([t1, t2, t3, t4, t5, t6, t7] : List Addr).length = 7 := rfl
      show gName 3 (V.ref W) _ (upd (upd (upd (upd (upd (upd (upd (upd G0 t1 (.tup [.int 2, .int 7])) t2 (.tup [.int (-1), .int 2])) t3 (.tup [.int 1, .int 5])) t4 (.tup [.int (10 ^ (6 : Int).toNat), .int (-10 ^ (6 : Int).toNat)])) t5 (.tup [.int (-7), .int 11])) t6 (.tup [.int 999983, .int 1])) t7 (.tup [.int (-999983), .int 999983])) W (.lst [.ref t1, .ref t2, .ref t3, .ref t4, .ref t5, .ref t6, .ref t7])) _
      generalize (upd (upd (upd (upd (upd (upd (upd (upd G0 t1 (.tup [.int 2, .int 7])) t2 (.tup [.int (-1), .int 2])) t3 (.tup [.int 1, .int 5])) t4 (.tup [.int (10 ^ (6 : Int).toNat), .int (-10 ^ (6 : Int).toNat)])) t5 (.tup [.int (-7), .int 11])) t6 (.tup [.int 999983, .int 1])) t7 (.tup [.int (-999983), .int 999983])) W (.lst [.ref t1, .ref t2, .ref t3, .ref t4, .ref t5, .ref t6, .ref t7])) = G at rel kW ⊢
      generalize ([t1, t2, t3, t4, t5, t6, t7] : List Addr) = ts at rel kW l7
      refine ⟨_, rfl, W, rfl, ⟨_, SqL.of kW⟩, fun D hD => lc_list (K := K) (a := W) (xs := ts.map V.ref) (fun i H' => Same G H' ∧ H' D = some (.lst (List.replicate i (V.bl true)))) ⟨same_upd hD, upd_same⟩ (fun i H' _ hp => SqL.of (hp.1 _ _ kW)) (fun i v H' hv hp => ?_) (fun H' hp => ?_)⟩
      · obtain ⟨e8, hd⟩ := hp
        rw [List.getElem?_map] at hv
        obtain ⟨ti, hti, rfl⟩ := Option.map_eq_some_iff.mp hv
        obtain ⟨e, he, hte⟩ := paired_at rel hti
        obtain ⟨o1, o2, o3, o4, op⟩ := some7_ok e (List.mem_of_getElem? he)
        have il : i < 7 := l7 ▸ (List.getElem?_eq_some_iff.mp hti).1
        refine ⟨ti, _, rfl, .inl (.inl (e8 _ _ hte)), rfl, _, _, rfl, _, _, rfl, rfl, ?_⟩
        refine ⟨rfl, ?_⟩
        refine ⟨_, rfl, _, rfl, _, rfl, _, rfl, ⟨e.1, e.2, rfl, o1, o2, o3, o4, fun _ no _ => absurd op no, fun x y z t' H3 _ pq e3 ht' => ?_⟩⟩
        refine ⟨e.1, e.2, x, y, z, t', rfl, o3, o4, ht', (pt_bd pq.bx).2.2, (pt_bd pq.b_y).2.2, (pt_bd pq.bz).2.2, pq.sol, fun H4 e4 => ?_⟩
        refine ⟨_, e4 _ _ (e3 _ _ hd), ?_, ?_, ?_⟩
        · rw [List.length_replicate]
          exact Nat.lt_of_lt_of_le il (by decide)
        · intro b' o eb
          rw [upd_ne (ne_of_none eb hD)]
          exact e4 _ _ (e3 _ _ (e8 _ _ eb))
        · rw [upd_same, List.replicate_succ']
      · obtain ⟨e8, hd⟩ := hp
        rw [List.length_map, l7] at hd
        refine ⟨(by show 1 ≤ sizeLine; decide), fun V1 hV1 => ⟨V1, 7, _, rfl, rfl, upd_same, by decide, by decide, by decide, fun V2 hV2 => ?_⟩⟩
        have b7 : ∀ {G : Hp}, DpAll K G (List.replicate 7 (V.bl true)) (List.replicate 7 (PyData.bool true)) := .cons (.bl _) (.cons (.bl _) (.cons (.bl _) (.cons (.bl _) (.cons (.bl _) (.cons (.bl _) (.cons (.bl _) .nil))))))
        refine ⟨.list (List.replicate 7 (.bool true)), .list (List.replicate 7 (.bool true)), .lst (SqL.of (same_upd hV2 _ _ (same_upd (o := .lst [.bl true]) hV1 _ _ hd))) b7, .lst (SqL.of upd_same) b7, by decide +kernel, by decide +kernel, ?_⟩
        rw [show PyData.eqv (.list (List.replicate 7 (.bool true))) (.list (List.replicate 7 (.bool true))) = true by decide +kernel]
        exact q _
end
end Sf

namespace Sf
open PySem PySem.Spec PyProof.Rows L2
theorem facts {P : Program} {w : World} {K : PySem.W.Frag} {h : Heap} {mg : Str → Option Value} {f : Addr} (X : K.In h) (G : h.Ns mainGlobals mg) (hfa : mg ("law" : Str) = some (.ref f)) (c : He.SaysD fa fn K) (z : ex K = true) :
    ∃ fd : FuncData, (∀ (s : Shared) (v : Value), BindsTo s fd ⟨[v], []⟩ [("_law_script", v)]) ∧ ∀ base : Heap, K.In base → base.Ns mainGlobals mg → FnOk P w K mg base CX0 27 f fd ["_law_script"] (spLaw K) := by
  obtain ⟨fd_L_vial, F_L_vial⟩ := c.def_ 0 (d := d_L_vial) rfl
  have g_L_vial := He.glo_ok X G (c.fact 0 (f := .glo "_law_vial") rfl)
  obtain ⟨fd_L_drop, F_L_drop⟩ := c.def_ 1 (d := d_L_drop) rfl
  have g_L_drop := He.glo_ok X G (c.fact 1 (f := .glo "_law_drop") rfl)
  obtain ⟨fd_L_any, F_L_any⟩ := c.def_ 2 (d := d_L_any) rfl
  have g_L_any := He.glo_ok X G (c.fact 2 (f := .glo "_law_any") rfl)
  obtain ⟨fd_L_number, F_L_number⟩ := c.def_ 3 (d := d_L_number) rfl
  have g_L_number := He.glo_ok X G (c.fact 3 (f := .glo "_law_number") rfl)
  obtain ⟨fd_L_open_pair, F_L_open_pair⟩ := c.def_ 4 (d := d_L_open_pair) rfl
  have g_L_open_pair := He.glo_ok X G (c.fact 4 (f := .glo "_law_open_pair") rfl)
  obtain ⟨fd_L_pair, F_L_pair⟩ := c.def_ 5 (d := d_L_pair) rfl
  have g_L_pair := He.glo_ok X G (c.fact 5 (f := .glo "_law_pair") rfl)
  obtain ⟨fd_L_primes, F_L_primes⟩ := c.def_ 6 (d := d_L_primes) rfl
  have g_L_primes := He.glo_ok X G (c.fact 6 (f := .glo "_law_primes") rfl)
  obtain ⟨fd_L_parts, F_L_parts⟩ := c.def_ 7 (d := d_L_parts) rfl
  have g_L_parts := He.glo_ok X G (c.fact 7 (f := .glo "_law_parts") rfl)
  obtain ⟨fd_L_residue, F_L_residue⟩ := c.def_ 8 (d := d_L_residue) rfl
  have g_L_residue := He.glo_ok X G (c.fact 8 (f := .glo "_law_residue") rfl)
  obtain ⟨fd_L_sign, F_L_sign⟩ := c.def_ 9 (d := d_L_sign) rfl
  have g_L_sign := He.glo_ok X G (c.fact 9 (f := .glo "_law_sign") rfl)
  obtain ⟨fd_L_places, F_L_places⟩ := c.def_ 10 (d := d_L_places) rfl
  have g_L_places := He.glo_ok X G (c.fact 10 (f := .glo "_law_places") rfl)
  obtain ⟨fd_P_is_integer, F_P_is_integer⟩ := c.def_ 11 (d := d_P_is_integer) rfl
  have g_P_is_integer := He.glo_ok X G (c.fact 11 (f := .glo "is_integer") rfl)
  obtain ⟨fd_P_check_number, F_P_check_number⟩ := c.def_ 12 (d := d_P_check_number) rfl
  have g_P_check_number := He.glo_ok X G (c.fact 12 (f := .glo "check_number") rfl)
  obtain ⟨fd_P_stripped, F_P_stripped⟩ := c.def_ 13 (d := d_P_stripped) rfl
  have g_P_stripped := He.glo_ok X G (c.fact 13 (f := .glo "stripped") rfl)
  obtain ⟨fd_P_next_divisor, F_P_next_divisor⟩ := c.def_ 14 (d := d_P_next_divisor) rfl
  have g_P_next_divisor := He.glo_ok X G (c.fact 14 (f := .glo "next_divisor") rfl)
  obtain ⟨fd_P_prime_powers, F_P_prime_powers⟩ := c.def_ 15 (d := d_P_prime_powers) rfl
  have g_P_prime_powers := He.glo_ok X G (c.fact 15 (f := .glo "prime_powers") rfl)
  obtain ⟨fd_P_factors, F_P_factors⟩ := c.def_ 16 (d := d_P_factors) rfl
  have g_P_factors := He.glo_ok X G (c.fact 16 (f := .glo "factors") rfl)
  obtain ⟨fd_P_quarter, F_P_quarter⟩ := c.def_ 17 (d := d_P_quarter) rfl
  have g_P_quarter := He.glo_ok X G (c.fact 17 (f := .glo "quarter") rfl)
  obtain ⟨fd_P_eighth, F_P_eighth⟩ := c.def_ 18 (d := d_P_eighth) rfl
  have g_P_eighth := He.glo_ok X G (c.fact 18 (f := .glo "eighth") rfl)
  obtain ⟨fd_P_sign_at_two, F_P_sign_at_two⟩ := c.def_ 19 (d := d_P_sign_at_two) rfl
  have g_P_sign_at_two := He.glo_ok X G (c.fact 19 (f := .glo "sign_at_two") rfl)
  obtain ⟨fd_P_power_modulo, F_P_power_modulo⟩ := c.def_ 20 (d := d_P_power_modulo) rfl
  have g_P_power_modulo := He.glo_ok X G (c.fact 20 (f := .glo "power_modulo") rfl)
  obtain ⟨fd_P_rest_sign, F_P_rest_sign⟩ := c.def_ 21 (d := d_P_rest_sign) rfl
  have g_P_rest_sign := He.glo_ok X G (c.fact 21 (f := .glo "rest_sign") rfl)
  obtain ⟨fd_P_sign_at_odd, F_P_sign_at_odd⟩ := c.def_ 22 (d := d_P_sign_at_odd) rfl
  have g_P_sign_at_odd := He.glo_ok X G (c.fact 22 (f := .glo "sign_at_odd") rfl)
  obtain ⟨fd_P_sign, F_P_sign⟩ := c.def_ 23 (d := d_P_sign) rfl
  have g_P_sign := He.glo_ok X G (c.fact 23 (f := .glo "sign") rfl)
  obtain ⟨fd_P_signed_places, F_P_signed_places⟩ := c.def_ 24 (d := d_P_signed_places) rfl
  have g_P_signed_places := He.glo_ok X G (c.fact 24 (f := .glo "signed_places") rfl)
  obtain ⟨fd_P_free_part, F_P_free_part⟩ := c.def_ 25 (d := d_P_free_part) rfl
  have g_P_free_part := He.glo_ok X G (c.fact 25 (f := .glo "free_part") rfl)
  obtain ⟨fd_P_least_nonsquare, F_P_least_nonsquare⟩ := c.def_ 26 (d := d_P_least_nonsquare) rfl
  have g_P_least_nonsquare := He.glo_ok X G (c.fact 26 (f := .glo "least_nonsquare") rfl)
  obtain ⟨fd_P_halvings, F_P_halvings⟩ := c.def_ 27 (d := d_P_halvings) rfl
  have g_P_halvings := He.glo_ok X G (c.fact 27 (f := .glo "halvings") rfl)
  obtain ⟨fd_P_root_modulo, F_P_root_modulo⟩ := c.def_ 28 (d := d_P_root_modulo) rfl
  have g_P_root_modulo := He.glo_ok X G (c.fact 28 (f := .glo "root_modulo") rfl)
  obtain ⟨fd_P_root_by, F_P_root_by⟩ := c.def_ 29 (d := d_P_root_by) rfl
  have g_P_root_by := He.glo_ok X G (c.fact 29 (f := .glo "root_by") rfl)
  obtain ⟨fd_P_pair_length, F_P_pair_length⟩ := c.def_ 30 (d := d_P_pair_length) rfl
  have g_P_pair_length := He.glo_ok X G (c.fact 30 (f := .glo "pair_length") rfl)
  obtain ⟨fd_P_least_pair, F_P_least_pair⟩ := c.def_ 31 (d := d_P_least_pair) rfl
  have g_P_least_pair := He.glo_ok X G (c.fact 31 (f := .glo "least_pair") rfl)
  obtain ⟨fd_P_lowest_point, F_P_lowest_point⟩ := c.def_ 32 (d := d_P_lowest_point) rfl
  have g_P_lowest_point := He.glo_ok X G (c.fact 32 (f := .glo "lowest_point") rfl)
  obtain ⟨fd_P_free_point, F_P_free_point⟩ := c.def_ 33 (d := d_P_free_point) rfl
  have g_P_free_point := He.glo_ok X G (c.fact 33 (f := .glo "free_point") rfl)
  obtain ⟨fd_P_solution, F_P_solution⟩ := c.def_ 34 (d := d_P_solution) rfl
  have g_P_solution := He.glo_ok X G (c.fact 34 (f := .glo "solution") rfl)
  obtain ⟨fd_P_point_on, F_P_point_on⟩ := c.def_ 35 (d := d_P_point_on) rfl
  have g_P_point_on := He.glo_ok X G (c.fact 35 (f := .glo "point_on") rfl)
  obtain ⟨fd_P_check_algebra, F_P_check_algebra⟩ := c.def_ 36 (d := d_P_check_algebra) rfl
  have g_P_check_algebra := He.glo_ok X G (c.fact 36 (f := .glo "check_algebra") rfl)
  obtain ⟨fd_P_check_small_algebra, F_P_check_small_algebra⟩ := c.def_ 37 (d := d_P_check_small_algebra) rfl
  have g_P_check_small_algebra := He.glo_ok X G (c.fact 37 (f := .glo "check_small_algebra") rfl)
  obtain ⟨fd_P_lowest_entries, F_P_lowest_entries⟩ := c.def_ 38 (d := d_P_lowest_entries) rfl
  have g_P_lowest_entries := He.glo_ok X G (c.fact 38 (f := .glo "lowest_entries") rfl)
  obtain ⟨fd_P_is_passed, F_P_is_passed⟩ := c.def_ 39 (d := d_P_is_passed) rfl
  have g_P_is_passed := He.glo_ok X G (c.fact 39 (f := .glo "is_passed") rfl)
  obtain ⟨fd_P_is_passed_entries, F_P_is_passed_entries⟩ := c.def_ 40 (d := d_P_is_passed_entries) rfl
  have g_P_is_passed_entries := He.glo_ok X G (c.fact 40 (f := .glo "is_passed_entries") rfl)
  obtain ⟨fd_P_lowest_terms, F_P_lowest_terms⟩ := c.def_ 41 (d := d_P_lowest_terms) rfl
  have g_P_lowest_terms := He.glo_ok X G (c.fact 41 (f := .glo "lowest_terms") rfl)
  obtain ⟨fd_P_sign_of, F_P_sign_of⟩ := c.def_ 42 (d := d_P_sign_of) rfl
  have g_P_sign_of := He.glo_ok X G (c.fact 42 (f := .glo "sign_of") rfl)
  obtain ⟨fd_P_Ratio___init__, F_P_Ratio___init__⟩ := c.def_ 43 (d := d_P_Ratio___init__) rfl
  obtain ⟨fd_P_made_ratio, F_P_made_ratio⟩ := c.def_ 44 (d := d_P_made_ratio) rfl
  have g_P_made_ratio := He.glo_ok X G (c.fact 43 (f := .glo "made_ratio") rfl)
  obtain ⟨fd_P_norm_of, F_P_norm_of⟩ := c.def_ 45 (d := d_P_norm_of) rfl
  have g_P_norm_of := He.glo_ok X G (c.fact 44 (f := .glo "norm_of") rfl)
  obtain ⟨fd_P_Four___init__, F_P_Four___init__⟩ := c.def_ 46 (d := d_P_Four___init__) rfl
  obtain ⟨fd_P_made_four, F_P_made_four⟩ := c.def_ 47 (d := d_P_made_four) rfl
  have g_P_made_four := He.glo_ok X G (c.fact 45 (f := .glo "made_four") rfl)
  obtain ⟨fd_P_zero_norm, F_P_zero_norm⟩ := c.def_ 48 (d := d_P_zero_norm) rfl
  have g_P_zero_norm := He.glo_ok X G (c.fact 46 (f := .glo "zero_norm") rfl)
  obtain ⟨fd_P_Ratio___eq__, F_P_Ratio___eq__⟩ := c.def_ 49 (d := d_P_Ratio___eq__) rfl
  obtain ⟨fd_P_Four___bool__, F_P_Four___bool__⟩ := c.def_ 50 (d := d_P_Four___bool__) rfl
  obtain ⟨fd_P_Algebra___eq__, F_P_Algebra___eq__⟩ := c.def_ 51 (d := d_P_Algebra___eq__) rfl
  obtain ⟨fd_P_product_of_primes, F_P_product_of_primes⟩ := c.def_ 52 (d := d_P_product_of_primes) rfl
  have g_P_product_of_primes := He.glo_ok X G (c.fact 47 (f := .glo "product_of_primes") rfl)
  obtain ⟨fd_P_Algebra___init__, F_P_Algebra___init__⟩ := c.def_ 53 (d := d_P_Algebra___init__) rfl
  obtain ⟨fd_L_zero_right, F_L_zero_right⟩ := c.def_ 54 (d := d_L_zero_right) rfl
  have g_L_zero_right := He.glo_ok X G (c.fact 48 (f := .glo "_law_zero_right") rfl)
  obtain ⟨fd_P_is_triple, F_P_is_triple⟩ := c.def_ 55 (d := d_P_is_triple) rfl
  have g_P_is_triple := He.glo_ok X G (c.fact 49 (f := .glo "is_triple") rfl)
  obtain ⟨fd_P_solves, F_P_solves⟩ := c.def_ 56 (d := d_P_solves) rfl
  have g_P_solves := He.glo_ok X G (c.fact 50 (f := .glo "solves") rfl)
  obtain ⟨fd_P_is_point, F_P_is_point⟩ := c.def_ 57 (d := d_P_is_point) rfl
  have g_P_is_point := He.glo_ok X G (c.fact 51 (f := .glo "is_point") rfl)
  obtain ⟨fd_L_is_point, F_L_is_point⟩ := c.def_ 58 (d := d_L_is_point) rfl
  have g_L_is_point := He.glo_ok X G (c.fact 52 (f := .glo "_law_is_point") rfl)
  obtain ⟨fd_P_Ratio___bool__, F_P_Ratio___bool__⟩ := c.def_ 59 (d := d_P_Ratio___bool__) rfl
  obtain ⟨fd_L_right, F_L_right⟩ := c.def_ 60 (d := d_L_right) rfl
  have g_L_right := He.glo_ok X G (c.fact 53 (f := .glo "_law_right") rfl)
  obtain ⟨fd_L_law, F_L_law⟩ := c.def_ 61 (d := d_L_law) rfl
  have g_L_law := He.glo_ok X G (c.fact 54 (f := .glo "law") rfl)
  have e := hfa.symm.trans g_L_law
  cases e
  have z0 := z
  obtain ⟨y1, z1⟩ := He.ba z0
  obtain ⟨y2, z2⟩ := He.ba z1
  obtain ⟨y3, z3⟩ := He.ba z2
  obtain ⟨y4, z4⟩ := He.ba z3
  obtain ⟨y5, z5⟩ := He.ba z4
  have own_Algebra : OwnK K (He.ga K "Algebra") := ownB_ok (He.cls_ok (c.fact 77 (f := .cls "Algebra") rfl)) y3
  have own_Ratio : OwnK K (He.ga K "Ratio") := ownB_ok (He.cls_ok (c.fact 85 (f := .cls "Ratio") rfl)) y4
  have own_Four : OwnK K (He.ga K "Four") := ownB_ok (He.cls_ok (c.fact 91 (f := .cls "Four") rfl)) y5
  have T : Glob mg := ⟨He.free_ok X G (c.fact 55 (f := .free "isinstance") rfl), He.free_ok X G (c.fact 56 (f := .free "int") rfl), He.free_ok X G (c.fact 57 (f := .free "bool") rfl), He.free_ok X G (c.fact 58 (f := .free "abs") rfl), He.free_ok X G (c.fact 59 (f := .free "tuple") rfl), He.free_ok X G (c.fact 60 (f := .free "all") rfl), He.free_ok X G (c.fact 61 (f := .free "len") rfl), He.free_ok X G (c.fact 62 (f := .free "range") rfl), He.free_ok X G (c.fact 63 (f := .free "sorted") rfl), He.free_ok X G (c.fact 64 (f := .free "set") rfl), He.free_ok X G (c.fact 65 (f := .free "max") rfl), He.free_ok X G (c.fact 66 (f := .free "any") rfl), He.free_ok X G (c.fact 67 (f := .free "str") rfl), He.free_ok X G (c.fact 68 (f := .free "zip") rfl), He.free_ok X G (c.fact 69 (f := .free "dict") rfl), He.free_ok X G (c.fact 70 (f := .free "min") rfl), gblB_ok X G y1, gblB_ok X G y2, He.int_ok X G (c.fact 71 (f := .int "TOO_LONG" 1000000000000000000000000000000000000000000000000000000000000) rfl), He.int_ok X G (c.fact 72 (f := .int "MAX_NUMBER_numbers" 1000000000) rfl), He.int_ok X G (c.fact 73 (f := .int "MAX_NUMBER_points" 1000000) rfl), He.int_ok X G (c.fact 74 (f := .int "MAX_POWER" 1000) rfl), He.int_ok X G (c.fact 75 (f := .int "MAX_NUMBER_tables" 1000000) rfl)⟩
  obtain ⟨us_P_Ratio___init___1, dv_P_Ratio___init___1, bd_P_Ratio___init___1⟩ := F_P_Ratio___init__.binds1 (ps := ["self", "top", "bottom"]) 2 0 (fun e => by cases e) rfl fun _ _ _ _ _ _ _ us its hl hi => match us, hl, its, hi with | [_, _], _, [_], _ => ⟨_, rfl, rfl⟩
  obtain ⟨us_P_Four___init___2, dv_P_Four___init___2, bd_P_Four___init___2⟩ := F_P_Four___init__.binds1 (ps := ["self", "algebra", "entries", "bottom"]) 3 0 (fun e => by cases e) rfl fun _ _ _ _ _ _ _ us its hl hi => match us, hl, its, hi with | [_, _, _], _, [_], _ => ⟨_, rfl, rfl⟩
  have b := FunD.bindsA (ps := ["_law_script"]) F_L_law fun _ _ _ _ _ _ us hl => match us, hl with | [_], _ => rfl
  refine ⟨fd_L_law, fun s v => b s [v] rfl, fun base _ _ => ?_⟩
  have C_L_vial : Cal P w K mg base 1 "_law_vial" ["_law_script", "_law_at"] (spSack K) := ⟨_, fd_L_vial, ok_vial F_L_vial T, g_L_vial, F_L_vial.kp, F_L_vial.bindsN fun _ _ _ _ _ _ us hl => match us, hl with | [_, _], _ => rfl⟩
  have C_L_drop : Cal P w K mg base 1 "_law_drop" ["_law_vial_here", "_law_total"] spTake := ⟨_, fd_L_drop, ok_drop F_L_drop T, g_L_drop, F_L_drop.kp, F_L_drop.bindsN fun _ _ _ _ _ _ us hl => match us, hl with | [_, _], _ => rfl⟩
  have C_L_any : Cal P w K mg base 2 "_law_any" ["_law_vial_here", "_law_items"] (spOneOf K) := ⟨_, fd_L_any, ok_any F_L_any T C_L_drop, g_L_any, F_L_any.kp, F_L_any.bindsN fun _ _ _ _ _ _ us hl => match us, hl with | [_, _], _ => rfl⟩
  have C_L_number : Cal P w K mg base 3 "_law_number" ["_law_vial_here", "_law_most"] spNumber := ⟨_, fd_L_number, ok_number F_L_number T C_L_any C_L_drop, g_L_number, F_L_number.kp, F_L_number.bindsN fun _ _ _ _ _ _ us hl => match us, hl with | [_, _], _ => rfl⟩
  have C_L_open_pair : Cal P w K mg base 4 "_law_open_pair" ["_law_vial_here", "_law_most"] (spPair 9000 6) := ⟨_, fd_L_open_pair, ok_open_pair F_L_open_pair T C_L_number C_L_drop, g_L_open_pair, F_L_open_pair.kp, F_L_open_pair.bindsN fun _ _ _ _ _ _ us hl => match us, hl with | [_, _], _ => rfl⟩
  have C_L_pair : Cal P w K mg base 5 "_law_pair" ["_law_vial_here", "_law_most"] (spPair 1000000 7) := ⟨_, fd_L_pair, ok_pair F_L_pair T C_L_number C_L_drop C_L_open_pair, g_L_pair, F_L_pair.kp, F_L_pair.bindsN fun _ _ _ _ _ _ us hl => match us, hl with | [_, _], _ => rfl⟩
  have C_L_primes : Cal P w K mg base 1 "_law_primes" ["_law_number_here"] spLPrimes := ⟨_, fd_L_primes, ok_lprimes F_L_primes T, g_L_primes, F_L_primes.kp, F_L_primes.bindsN fun _ _ _ _ _ _ us hl => match us, hl with | [_], _ => rfl⟩
  have C_L_parts : Cal P w K mg base 1 "_law_parts" ["_law_number_here", "_law_prime"] spLStrip := ⟨_, fd_L_parts, ok_lstrip F_L_parts T, g_L_parts, F_L_parts.kp, F_L_parts.bindsN fun _ _ _ _ _ _ us hl => match us, hl with | [_, _], _ => rfl⟩
  have C_L_residue : Cal P w K mg base 1 "_law_residue" ["_law_number_here", "_law_prime"] spLRes := ⟨_, fd_L_residue, ok_lres F_L_residue T, g_L_residue, F_L_residue.kp, F_L_residue.bindsN fun _ _ _ _ _ _ us hl => match us, hl with | [_, _], _ => rfl⟩
  have C_L_sign : Cal P w K mg base 2 "_law_sign" ["_law_a", "_law_b", "_law_prime"] spLSig := ⟨_, fd_L_sign, ok_lsig F_L_sign T C_L_parts C_L_residue, g_L_sign, F_L_sign.kp, F_L_sign.bindsN fun _ _ _ _ _ _ us hl => match us, hl with | [_, _, _], _ => rfl⟩
  have C_L_places : Cal P w K mg base 3 "_law_places" ["_law_a", "_law_b"] spLPlc := ⟨_, fd_L_places, ok_lplc F_L_places T C_L_primes C_L_sign, g_L_places, F_L_places.kp, F_L_places.bindsN fun _ _ _ _ _ _ us hl => match us, hl with | [_, _], _ => rfl⟩
  have C_P_is_integer : Cal P w K mg base 1 "is_integer" ["value"] (spIsInt K) := ⟨_, fd_P_is_integer, ok_is_integer F_P_is_integer T, g_P_is_integer, F_P_is_integer.kp, F_P_is_integer.bindsN fun _ _ _ _ _ _ us hl => match us, hl with | [_], _ => rfl⟩
  have C_P_check_number : Cal P w K mg base 2 "check_number" ["value"] spCheckNumber := ⟨_, fd_P_check_number, ok_check_number F_P_check_number T C_P_is_integer, g_P_check_number, F_P_check_number.kp, F_P_check_number.bindsN fun _ _ _ _ _ _ us hl => match us, hl with | [_], _ => rfl⟩
  have C_P_stripped : Cal P w K mg base 1 "stripped" ["number", "prime"] spStripped := ⟨_, fd_P_stripped, ok_stripped F_P_stripped , g_P_stripped, F_P_stripped.kp, F_P_stripped.bindsN fun _ _ _ _ _ _ us hl => match us, hl with | [_, _], _ => rfl⟩
  have C_P_next_divisor : Cal P w K mg base 1 "next_divisor" ["divisor"] spNext := ⟨_, fd_P_next_divisor, ok_next F_P_next_divisor , g_P_next_divisor, F_P_next_divisor.kp, F_P_next_divisor.bindsN fun _ _ _ _ _ _ us hl => match us, hl with | [_], _ => rfl⟩
  have C_P_prime_powers : Cal P w K mg base 2 "prime_powers" ["number"] spFactors := ⟨_, fd_P_prime_powers, ok_prime_powers F_P_prime_powers T C_P_stripped C_P_next_divisor, g_P_prime_powers, F_P_prime_powers.kp, F_P_prime_powers.bindsN fun _ _ _ _ _ _ us hl => match us, hl with | [_], _ => rfl⟩
  have C_P_factors : Cal P w K mg base 3 "factors" ["number"] spFactors := ⟨_, fd_P_factors, ok_factors F_P_factors C_P_check_number C_P_prime_powers, g_P_factors, F_P_factors.kp, F_P_factors.bindsN fun _ _ _ _ _ _ us hl => match us, hl with | [_], _ => rfl⟩
  have C_P_quarter : Cal P w K mg base 1 "quarter" ["unit"] spQuarter := ⟨_, fd_P_quarter, ok_quarter F_P_quarter , g_P_quarter, F_P_quarter.kp, F_P_quarter.bindsN fun _ _ _ _ _ _ us hl => match us, hl with | [_], _ => rfl⟩
  have C_P_eighth : Cal P w K mg base 1 "eighth" ["unit"] spEighth := ⟨_, fd_P_eighth, ok_eighth F_P_eighth , g_P_eighth, F_P_eighth.kp, F_P_eighth.bindsN fun _ _ _ _ _ _ us hl => match us, hl with | [_], _ => rfl⟩
  have C_P_sign_at_two : Cal P w K mg base 2 "sign_at_two" ["a", "b"] (spSgn true) := ⟨_, fd_P_sign_at_two, ok_sign_at_two F_P_sign_at_two C_P_stripped C_P_quarter C_P_eighth, g_P_sign_at_two, F_P_sign_at_two.kp, F_P_sign_at_two.bindsN fun _ _ _ _ _ _ us hl => match us, hl with | [_, _], _ => rfl⟩
  have C_P_power_modulo : Cal P w K mg base 1 "power_modulo" ["number", "many", "modulus"] spPowMod := ⟨_, fd_P_power_modulo, ok_powmod F_P_power_modulo , g_P_power_modulo, F_P_power_modulo.kp, F_P_power_modulo.bindsN fun _ _ _ _ _ _ us hl => match us, hl with | [_, _, _], _ => rfl⟩
  have C_P_rest_sign : Cal P w K mg base 2 "rest_sign" ["number", "prime"] spRestSign := ⟨_, fd_P_rest_sign, ok_rest_sign F_P_rest_sign C_P_power_modulo, g_P_rest_sign, F_P_rest_sign.kp, F_P_rest_sign.bindsN fun _ _ _ _ _ _ us hl => match us, hl with | [_, _], _ => rfl⟩
  have C_P_sign_at_odd : Cal P w K mg base 3 "sign_at_odd" ["a", "b", "prime"] (spSgn false) := ⟨_, fd_P_sign_at_odd, ok_sign_at_odd F_P_sign_at_odd C_P_stripped C_P_rest_sign, g_P_sign_at_odd, F_P_sign_at_odd.kp, F_P_sign_at_odd.bindsN fun _ _ _ _ _ _ us hl => match us, hl with | [_, _, _], _ => rfl⟩
  have C_P_sign : Cal P w K mg base 4 "sign" ["a", "b", "place"] spSign := ⟨_, fd_P_sign, ok_sign F_P_sign C_P_sign_at_two C_P_sign_at_odd, g_P_sign, F_P_sign.kp, F_P_sign.bindsN fun _ _ _ _ _ _ us hl => match us, hl with | [_, _, _], _ => rfl⟩
  have C_P_signed_places : Cal P w K mg base 5 "signed_places" ["a", "b"] spPlaces := ⟨_, fd_P_signed_places, ok_signed_places F_P_signed_places T C_P_check_number C_P_factors C_P_sign, g_P_signed_places, F_P_signed_places.kp, F_P_signed_places.bindsN fun _ _ _ _ _ _ us hl => match us, hl with | [_, _], _ => rfl⟩
  have C_P_free_part : Cal P w K mg base 3 "free_part" ["number"] spSquareFree := ⟨_, fd_P_free_part, ok_free_part F_P_free_part C_P_prime_powers, g_P_free_part, F_P_free_part.kp, F_P_free_part.bindsN fun _ _ _ _ _ _ us hl => match us, hl with | [_], _ => rfl⟩
  have C_P_least_nonsquare : Cal P w K mg base 3 "least_nonsquare" ["prime"] spLeastN := ⟨_, fd_P_least_nonsquare, ok_least_nonsquare F_P_least_nonsquare C_P_rest_sign, g_P_least_nonsquare, F_P_least_nonsquare.kp, F_P_least_nonsquare.bindsN fun _ _ _ _ _ _ us hl => match us, hl with | [_], _ => rfl⟩
  have C_P_halvings : Cal P w K mg base 1 "halvings" ["number", "prime"] spHalv := ⟨_, fd_P_halvings, ok_halvings F_P_halvings , g_P_halvings, F_P_halvings.kp, F_P_halvings.bindsN fun _ _ _ _ _ _ us hl => match us, hl with | [_, _], _ => rfl⟩
  have C_P_root_modulo : Cal P w K mg base 4 "root_modulo" ["number", "prime"] spRootM := ⟨_, fd_P_root_modulo, ok_root_modulo F_P_root_modulo T C_P_stripped C_P_power_modulo C_P_least_nonsquare C_P_halvings, g_P_root_modulo, F_P_root_modulo.kp, F_P_root_modulo.bindsN fun _ _ _ _ _ _ us hl => match us, hl with | [_, _], _ => rfl⟩
  have C_P_root_by : Cal P w K mg base 5 "root_by" ["number", "modulus"] spRootBy := ⟨_, fd_P_root_by, ok_root_by F_P_root_by T C_P_prime_powers C_P_root_modulo C_P_power_modulo, g_P_root_by, F_P_root_by.kp, F_P_root_by.bindsN fun _ _ _ _ _ _ us hl => match us, hl with | [_, _], _ => rfl⟩
  have C_P_pair_length : Cal P w K mg base 1 "pair_length" ["a", "pair"] spPairL := ⟨_, fd_P_pair_length, ok_pair_length F_P_pair_length T, g_P_pair_length, F_P_pair_length.kp, F_P_pair_length.bindsN fun _ _ _ _ _ _ us hl => match us, hl with | [_, _], _ => rfl⟩
  have C_P_least_pair : Cal P w K mg base 6 "least_pair" ["a", "b"] spLeastP := ⟨_, fd_P_least_pair, ok_least_pair F_P_least_pair T C_P_root_by C_P_pair_length, g_P_least_pair, F_P_least_pair.kp, F_P_least_pair.bindsN fun _ _ _ _ _ _ us hl => match us, hl with | [_, _], _ => rfl⟩
  have C_P_lowest_point : Cal P w K mg base 1 "lowest_point" ["x", "y", "z"] spLow3 := ⟨_, fd_P_lowest_point, ok_lowest_point F_P_lowest_point T, g_P_lowest_point, F_P_lowest_point.kp, F_P_lowest_point.bindsN fun _ _ _ _ _ _ us hl => match us, hl with | [_, _, _], _ => rfl⟩
  have C_P_free_point : Cal P w K mg base 22 "free_point" ["a", "b"] (spFree 14) := ⟨_, fd_P_free_point, ok_free_point F_P_free_point T g_P_free_point C_P_least_pair C_P_free_part C_P_lowest_point, g_P_free_point, F_P_free_point.kp, F_P_free_point.bindsN fun _ _ _ _ _ _ us hl => match us, hl with | [_, _], _ => rfl⟩
  have C_P_solution : Cal P w K mg base 23 "solution" ["a", "b"] spSol := ⟨_, fd_P_solution, ok_solution F_P_solution T C_P_free_part C_P_free_point C_P_lowest_point, g_P_solution, F_P_solution.kp, F_P_solution.bindsN fun _ _ _ _ _ _ us hl => match us, hl with | [_, _], _ => rfl⟩
  have C_P_point_on : Cal P w K mg base 24 "point_on" ["a", "b"] spPointOn := ⟨_, fd_P_point_on, ok_point_on F_P_point_on T C_P_check_number C_P_signed_places C_P_solution, g_P_point_on, F_P_point_on.kp, F_P_point_on.bindsN fun _ _ _ _ _ _ us hl => match us, hl with | [_, _], _ => rfl⟩
  have C_P_check_algebra : Cal P w K mg base 1 "check_algebra" ["value"] (spIsAlg (He.ga K "Algebra")) := ⟨_, fd_P_check_algebra, ok_check_algebra F_P_check_algebra T (⟨own_Algebra, He.noat_ok (c.fact 78 (f := .noat "Algebra" "places") rfl), He.noat_ok (c.fact 79 (f := .noat "Algebra" "a") rfl), He.noat_ok (c.fact 80 (f := .noat "Algebra" "b") rfl), He.noat_ok (c.fact 81 (f := .noat "Algebra" "discriminant") rfl), He.noat_ok (c.fact 82 (f := .noat "Algebra" "is_tables") rfl), He.noat_ok (c.fact 83 (f := .noat "Algebra" "is_definite") rfl)⟩ : AlgK K (He.ga K "Algebra")) (He.glo_ok X G (c.fact 76 (f := .glo "Algebra") rfl)), g_P_check_algebra, F_P_check_algebra.kp, F_P_check_algebra.bindsN fun _ _ _ _ _ _ us hl => match us, hl with | [_], _ => rfl⟩
  have C_P_check_small_algebra : Cal P w K mg base 2 "check_small_algebra" ["algebra"] (spSmallAlg (He.ga K "Algebra")) := ⟨_, fd_P_check_small_algebra, ok_check_small_algebra F_P_check_small_algebra T (⟨own_Algebra, He.noat_ok (c.fact 78 (f := .noat "Algebra" "places") rfl), He.noat_ok (c.fact 79 (f := .noat "Algebra" "a") rfl), He.noat_ok (c.fact 80 (f := .noat "Algebra" "b") rfl), He.noat_ok (c.fact 81 (f := .noat "Algebra" "discriminant") rfl), He.noat_ok (c.fact 82 (f := .noat "Algebra" "is_tables") rfl), He.noat_ok (c.fact 83 (f := .noat "Algebra" "is_definite") rfl)⟩ : AlgK K (He.ga K "Algebra")) C_P_check_algebra, g_P_check_small_algebra, F_P_check_small_algebra.kp, F_P_check_small_algebra.bindsN fun _ _ _ _ _ _ us hl => match us, hl with | [_], _ => rfl⟩
  have C_P_lowest_entries : Cal P w K mg base 1 "lowest_entries" ["entries", "bottom"] spLowE := ⟨_, fd_P_lowest_entries, ok_lowest_entries F_P_lowest_entries T, g_P_lowest_entries, F_P_lowest_entries.kp, F_P_lowest_entries.bindsN fun _ _ _ _ _ _ us hl => match us, hl with | [_, _], _ => rfl⟩
  have C_P_is_passed : Cal P w K mg base 2 "is_passed" ["value"] (spPassed K) := ⟨_, fd_P_is_passed, ok_is_passed F_P_is_passed T C_P_is_integer, g_P_is_passed, F_P_is_passed.kp, F_P_is_passed.bindsN fun _ _ _ _ _ _ us hl => match us, hl with | [_], _ => rfl⟩
  have C_P_is_passed_entries : Cal P w K mg base 3 "is_passed_entries" ["value"] spPassE := ⟨_, fd_P_is_passed_entries, ok_is_passed_entries F_P_is_passed_entries T C_P_is_passed, g_P_is_passed_entries, F_P_is_passed_entries.kp, F_P_is_passed_entries.bindsN fun _ _ _ _ _ _ us hl => match us, hl with | [_], _ => rfl⟩
  have C_P_lowest_terms : Cal P w K mg base 1 "lowest_terms" ["top", "bottom"] spLowest := ⟨_, fd_P_lowest_terms, ok_lowest_terms F_P_lowest_terms T, g_P_lowest_terms, F_P_lowest_terms.kp, F_P_lowest_terms.bindsN fun _ _ _ _ _ _ us hl => match us, hl with | [_, _], _ => rfl⟩
  have C_P_sign_of : Cal P w K mg base 1 "sign_of" ["number"] spSignOf := ⟨_, fd_P_sign_of, ok_sign_of F_P_sign_of , g_P_sign_of, F_P_sign_of.kp, F_P_sign_of.bindsN fun _ _ _ _ _ _ us hl => match us, hl with | [_], _ => rfl⟩
  have OK_P_Ratio___init__ : FnOk P w K mg base CX0 3 _ fd_P_Ratio___init__ ["self", "top", "bottom"] (spRatInit (He.ga K "Ratio")) := ok_Ratio_init F_P_Ratio___init__ (⟨own_Ratio, He.noat_ok (c.fact 86 (f := .noat "Ratio" "top") rfl), He.noat_ok (c.fact 87 (f := .noat "Ratio" "bottom") rfl), He.noat_ok (c.fact 88 (f := .noat "Ratio" "sign") rfl)⟩ : RatioK K (He.ga K "Ratio")) C_P_is_passed C_P_lowest_terms C_P_sign_of
  have C_P_made_ratio : Cal P w K mg base 5 "made_ratio" ["top", "bottom"] (spMadeRatio (He.ga K "Ratio")) := ⟨_, fd_P_made_ratio, ok_made_ratio F_P_made_ratio (⟨own_Ratio, He.noat_ok (c.fact 86 (f := .noat "Ratio" "top") rfl), He.noat_ok (c.fact 87 (f := .noat "Ratio" "bottom") rfl), He.noat_ok (c.fact 88 (f := .noat "Ratio" "sign") rfl)⟩ : RatioK K (He.ga K "Ratio")) C_P_lowest_terms C_P_sign_of (⟨_, fd_P_Ratio___init__, us_P_Ratio___init___1, OK_P_Ratio___init__, He.mkr_ok (c.fact 89 (f := .mkr "Ratio") rfl), (He.glo_ok X G (c.fact 84 (f := .glo "Ratio") rfl)), bd_P_Ratio___init___1, dv_P_Ratio___init___1⟩ : CalC P w K mg base 3 "Ratio" (He.ga K "Ratio") ["self", "top", "bottom"] [.int 1] (spRatInit (He.ga K "Ratio"))), g_P_made_ratio, F_P_made_ratio.kp, F_P_made_ratio.bindsN fun _ _ _ _ _ _ us hl => match us, hl with | [_, _], _ => rfl⟩
  have C_P_norm_of : Cal P w K mg base 6 "norm_of" ["algebra", "entries", "bottom"] (spNorm (He.ga K "Ratio") (He.ga K "Algebra")) := ⟨_, fd_P_norm_of, ok_norm_of F_P_norm_of (⟨own_Algebra, He.noat_ok (c.fact 78 (f := .noat "Algebra" "places") rfl), He.noat_ok (c.fact 79 (f := .noat "Algebra" "a") rfl), He.noat_ok (c.fact 80 (f := .noat "Algebra" "b") rfl), He.noat_ok (c.fact 81 (f := .noat "Algebra" "discriminant") rfl), He.noat_ok (c.fact 82 (f := .noat "Algebra" "is_tables") rfl), He.noat_ok (c.fact 83 (f := .noat "Algebra" "is_definite") rfl)⟩ : AlgK K (He.ga K "Algebra")) C_P_made_ratio, g_P_norm_of, F_P_norm_of.kp, F_P_norm_of.bindsN fun _ _ _ _ _ _ us hl => match us, hl with | [_, _, _], _ => rfl⟩
  have OK_P_Four___init__ : FnOk P w K mg base CX0 7 _ fd_P_Four___init__ ["self", "algebra", "entries", "bottom"] (spFourInit (He.ga K "Four") (He.ga K "Ratio") (He.ga K "Algebra")) := ok_Four_init F_P_Four___init__ T (⟨own_Four, He.noat_ok (c.fact 92 (f := .noat "Four" "algebra") rfl), He.noat_ok (c.fact 93 (f := .noat "Four" "entries") rfl), He.noat_ok (c.fact 94 (f := .noat "Four" "bottom") rfl), He.noat_ok (c.fact 95 (f := .noat "Four" "trace") rfl), He.noat_ok (c.fact 96 (f := .noat "Four" "norm") rfl), He.noat_ok (c.fact 97 (f := .noat "Four" "is_ratio") rfl)⟩ : FourK K (He.ga K "Four")) C_P_check_algebra C_P_is_passed_entries C_P_is_passed C_P_lowest_entries C_P_made_ratio C_P_norm_of
  have C_P_made_four : Cal P w K mg base 9 "made_four" ["algebra", "entries", "bottom"] (spMadeFour (He.ga K "Four") (He.ga K "Ratio") (He.ga K "Algebra")) := ⟨_, fd_P_made_four, ok_made_four F_P_made_four (⟨own_Four, He.noat_ok (c.fact 92 (f := .noat "Four" "algebra") rfl), He.noat_ok (c.fact 93 (f := .noat "Four" "entries") rfl), He.noat_ok (c.fact 94 (f := .noat "Four" "bottom") rfl), He.noat_ok (c.fact 95 (f := .noat "Four" "trace") rfl), He.noat_ok (c.fact 96 (f := .noat "Four" "norm") rfl), He.noat_ok (c.fact 97 (f := .noat "Four" "is_ratio") rfl)⟩ : FourK K (He.ga K "Four")) C_P_lowest_entries (⟨_, fd_P_Four___init__, us_P_Four___init___2, OK_P_Four___init__, He.mkr_ok (c.fact 98 (f := .mkr "Four") rfl), (He.glo_ok X G (c.fact 90 (f := .glo "Four") rfl)), bd_P_Four___init___2, dv_P_Four___init___2⟩ : CalC P w K mg base 7 "Four" (He.ga K "Four") ["self", "algebra", "entries", "bottom"] [.int 1] (spFourInit (He.ga K "Four") (He.ga K "Ratio") (He.ga K "Algebra"))) C_P_made_ratio C_P_norm_of, g_P_made_four, F_P_made_four.kp, F_P_made_four.bindsN fun _ _ _ _ _ _ us hl => match us, hl with | [_, _, _], _ => rfl⟩
  have C_P_zero_norm : Cal P w K mg base 24 "zero_norm" ["algebra"] (spZero (He.ga K "Four") (He.ga K "Ratio") (He.ga K "Algebra")) := ⟨_, fd_P_zero_norm, ok_zero_norm F_P_zero_norm (⟨own_Algebra, He.noat_ok (c.fact 78 (f := .noat "Algebra" "places") rfl), He.noat_ok (c.fact 79 (f := .noat "Algebra" "a") rfl), He.noat_ok (c.fact 80 (f := .noat "Algebra" "b") rfl), He.noat_ok (c.fact 81 (f := .noat "Algebra" "discriminant") rfl), He.noat_ok (c.fact 82 (f := .noat "Algebra" "is_tables") rfl), He.noat_ok (c.fact 83 (f := .noat "Algebra" "is_definite") rfl)⟩ : AlgK K (He.ga K "Algebra")) C_P_check_small_algebra C_P_solution C_P_made_four, g_P_zero_norm, F_P_zero_norm.kp, F_P_zero_norm.bindsN fun _ _ _ _ _ _ us hl => match us, hl with | [_], _ => rfl⟩
  have OK_P_Ratio___eq__ : FnOk P w K mg base CX0 2 _ fd_P_Ratio___eq__ ["self", "value"] (spRatEq (He.ga K "Ratio")) := ok_Ratio_eq F_P_Ratio___eq__ T (⟨own_Ratio, He.noat_ok (c.fact 86 (f := .noat "Ratio" "top") rfl), He.noat_ok (c.fact 87 (f := .noat "Ratio" "bottom") rfl), He.noat_ok (c.fact 88 (f := .noat "Ratio" "sign") rfl)⟩ : RatioK K (He.ga K "Ratio")) (He.glo_ok X G (c.fact 84 (f := .glo "Ratio") rfl)) C_P_is_integer
  have OK_P_Four___bool__ : FnOk P w K mg base CX0 1 _ fd_P_Four___bool__ ["self"] (spFourBool (He.ga K "Four") (He.ga K "Ratio")) := ok_Four_bool F_P_Four___bool__ T (⟨own_Four, He.noat_ok (c.fact 92 (f := .noat "Four" "algebra") rfl), He.noat_ok (c.fact 93 (f := .noat "Four" "entries") rfl), He.noat_ok (c.fact 94 (f := .noat "Four" "bottom") rfl), He.noat_ok (c.fact 95 (f := .noat "Four" "trace") rfl), He.noat_ok (c.fact 96 (f := .noat "Four" "norm") rfl), He.noat_ok (c.fact 97 (f := .noat "Four" "is_ratio") rfl)⟩ : FourK K (He.ga K "Four"))
  have OK_P_Algebra___eq__ : FnOk P w K mg base CX0 1 _ fd_P_Algebra___eq__ ["self", "value"] (spAlgEq (He.ga K "Algebra")) := ok_Algebra_eq F_P_Algebra___eq__ T (⟨own_Algebra, He.noat_ok (c.fact 78 (f := .noat "Algebra" "places") rfl), He.noat_ok (c.fact 79 (f := .noat "Algebra" "a") rfl), He.noat_ok (c.fact 80 (f := .noat "Algebra" "b") rfl), He.noat_ok (c.fact 81 (f := .noat "Algebra" "discriminant") rfl), He.noat_ok (c.fact 82 (f := .noat "Algebra" "is_tables") rfl), He.noat_ok (c.fact 83 (f := .noat "Algebra" "is_definite") rfl)⟩ : AlgK K (He.ga K "Algebra")) (He.glo_ok X G (c.fact 76 (f := .glo "Algebra") rfl))
  have C_P_product_of_primes : Cal P w K mg base 1 "product_of_primes" ["places"] spDisc := ⟨_, fd_P_product_of_primes, ok_product_of_primes F_P_product_of_primes , g_P_product_of_primes, F_P_product_of_primes.kp, F_P_product_of_primes.bindsN fun _ _ _ _ _ _ us hl => match us, hl with | [_], _ => rfl⟩
  have OK_P_Algebra___init__ : FnOk P w K mg base CX0 6 _ fd_P_Algebra___init__ ["self", "a", "b"] (spAlgInit (He.ga K "Algebra")) := ok_Algebra_init F_P_Algebra___init__ T (⟨own_Algebra, He.noat_ok (c.fact 78 (f := .noat "Algebra" "places") rfl), He.noat_ok (c.fact 79 (f := .noat "Algebra" "a") rfl), He.noat_ok (c.fact 80 (f := .noat "Algebra" "b") rfl), He.noat_ok (c.fact 81 (f := .noat "Algebra" "discriminant") rfl), He.noat_ok (c.fact 82 (f := .noat "Algebra" "is_tables") rfl), He.noat_ok (c.fact 83 (f := .noat "Algebra" "is_definite") rfl)⟩ : AlgK K (He.ga K "Algebra")) C_P_signed_places C_P_product_of_primes
  have C_L_zero_right : Cal P w K mg base 25 "_law_zero_right" ["_law_a", "_law_b", "_law_is_open"] spZRight := ⟨_, fd_L_zero_right, ok_zright F_L_zero_right T (⟨own_Four, He.noat_ok (c.fact 92 (f := .noat "Four" "algebra") rfl), He.noat_ok (c.fact 93 (f := .noat "Four" "entries") rfl), He.noat_ok (c.fact 94 (f := .noat "Four" "bottom") rfl), He.noat_ok (c.fact 95 (f := .noat "Four" "trace") rfl), He.noat_ok (c.fact 96 (f := .noat "Four" "norm") rfl), He.noat_ok (c.fact 97 (f := .noat "Four" "is_ratio") rfl)⟩ : FourK K (He.ga K "Four")) (⟨own_Algebra, He.noat_ok (c.fact 78 (f := .noat "Algebra" "places") rfl), He.noat_ok (c.fact 79 (f := .noat "Algebra" "a") rfl), He.noat_ok (c.fact 80 (f := .noat "Algebra" "b") rfl), He.noat_ok (c.fact 81 (f := .noat "Algebra" "discriminant") rfl), He.noat_ok (c.fact 82 (f := .noat "Algebra" "is_tables") rfl), He.noat_ok (c.fact 83 (f := .noat "Algebra" "is_definite") rfl)⟩ : AlgK K (He.ga K "Algebra")) C_P_zero_norm own_Ratio own_Four own_Algebra (⟨_, fd_P_Ratio___eq__, OK_P_Ratio___eq__, He.meth_ok (c.fact 99 (f := .meth "Ratio" "__eq__") rfl), F_P_Ratio___eq__.bindsN fun _ _ _ _ _ _ us hl => match us, hl with | [_, _], _ => rfl⟩ : CalM P w K mg base 2 "__eq__" (He.ga K "Ratio") ["self", "value"] (spRatEq (He.ga K "Ratio"))) (⟨_, fd_P_Four___bool__, OK_P_Four___bool__, He.meth_ok (c.fact 100 (f := .meth "Four" "__bool__") rfl), F_P_Four___bool__.bindsN fun _ _ _ _ _ _ us hl => match us, hl with | [_], _ => rfl⟩ : CalM P w K mg base 1 "__bool__" (He.ga K "Four") ["self"] (spFourBool (He.ga K "Four") (He.ga K "Ratio"))) (⟨_, fd_P_Algebra___eq__, OK_P_Algebra___eq__, He.meth_ok (c.fact 101 (f := .meth "Algebra" "__eq__") rfl), F_P_Algebra___eq__.bindsN fun _ _ _ _ _ _ us hl => match us, hl with | [_, _], _ => rfl⟩ : CalM P w K mg base 1 "__eq__" (He.ga K "Algebra") ["self", "value"] (spAlgEq (He.ga K "Algebra"))) (⟨_, fd_P_Algebra___init__, [], OK_P_Algebra___init__, He.mkr_ok (c.fact 102 (f := .mkr "Algebra") rfl), (He.glo_ok X G (c.fact 76 (f := .glo "Algebra") rfl)), F_P_Algebra___init__.bindsN fun _ _ _ _ _ _ us hl => match us, hl with | [_, _, _], _ => rfl, .nil⟩ : CalC P w K mg base 6 "Algebra" (He.ga K "Algebra") ["self", "a", "b"] [] (spAlgInit (He.ga K "Algebra"))) (⟨_, fd_P_Ratio___init__, us_P_Ratio___init___1, OK_P_Ratio___init__, He.mkr_ok (c.fact 89 (f := .mkr "Ratio") rfl), (He.glo_ok X G (c.fact 84 (f := .glo "Ratio") rfl)), bd_P_Ratio___init___1, dv_P_Ratio___init___1⟩ : CalC P w K mg base 3 "Ratio" (He.ga K "Ratio") ["self", "top", "bottom"] [.int 1] (spRatInit (He.ga K "Ratio"))), g_L_zero_right, F_L_zero_right.kp, F_L_zero_right.bindsN fun _ _ _ _ _ _ us hl => match us, hl with | [_, _, _], _ => rfl⟩
  have C_P_is_triple : Cal P w K mg base 2 "is_triple" ["value"] spTrip := ⟨_, fd_P_is_triple, ok_is_triple F_P_is_triple T C_P_is_integer, g_P_is_triple, F_P_is_triple.kp, F_P_is_triple.bindsN fun _ _ _ _ _ _ us hl => match us, hl with | [_], _ => rfl⟩
  have C_P_solves : Cal P w K mg base 3 "solves" ["a", "b", "c", "value"] spSolv := ⟨_, fd_P_solves, ok_solves F_P_solves T C_P_is_triple, g_P_solves, F_P_solves.kp, F_P_solves.bindsN fun _ _ _ _ _ _ us hl => match us, hl with | [_, _, _, _], _ => rfl⟩
  have C_P_is_point : Cal P w K mg base 4 "is_point" ["a", "b", "value"] spPoint := ⟨_, fd_P_is_point, ok_is_point F_P_is_point C_P_check_number C_P_solves, g_P_is_point, F_P_is_point.kp, F_P_is_point.bindsN fun _ _ _ _ _ _ us hl => match us, hl with | [_, _, _], _ => rfl⟩
  have C_L_is_point : Cal P w K mg base 1 "_law_is_point" ["_law_a", "_law_b", "_law_value"] (spIsP K) := ⟨_, fd_L_is_point, ok_is_pt F_L_is_point T, g_L_is_point, F_L_is_point.kp, F_L_is_point.bindsN fun _ _ _ _ _ _ us hl => match us, hl with | [_, _, _], _ => rfl⟩
  have OK_P_Ratio___bool__ : FnOk P w K mg base CX0 1 _ fd_P_Ratio___bool__ ["self"] (spRatBool (He.ga K "Ratio")) := ok_Ratio_bool F_P_Ratio___bool__ T (⟨own_Ratio, He.noat_ok (c.fact 86 (f := .noat "Ratio" "top") rfl), He.noat_ok (c.fact 87 (f := .noat "Ratio" "bottom") rfl), He.noat_ok (c.fact 88 (f := .noat "Ratio" "sign") rfl)⟩ : RatioK K (He.ga K "Ratio"))
  have C_L_right : Cal P w K mg base 26 "_law_right" ["_law_vial_here"] spRight := ⟨_, fd_L_right, ok_right F_L_right T (⟨own_Four, He.noat_ok (c.fact 92 (f := .noat "Four" "algebra") rfl), He.noat_ok (c.fact 93 (f := .noat "Four" "entries") rfl), He.noat_ok (c.fact 94 (f := .noat "Four" "bottom") rfl), He.noat_ok (c.fact 95 (f := .noat "Four" "trace") rfl), He.noat_ok (c.fact 96 (f := .noat "Four" "norm") rfl), He.noat_ok (c.fact 97 (f := .noat "Four" "is_ratio") rfl)⟩ : FourK K (He.ga K "Four")) (⟨own_Algebra, He.noat_ok (c.fact 78 (f := .noat "Algebra" "places") rfl), He.noat_ok (c.fact 79 (f := .noat "Algebra" "a") rfl), He.noat_ok (c.fact 80 (f := .noat "Algebra" "b") rfl), He.noat_ok (c.fact 81 (f := .noat "Algebra" "discriminant") rfl), He.noat_ok (c.fact 82 (f := .noat "Algebra" "is_tables") rfl), He.noat_ok (c.fact 83 (f := .noat "Algebra" "is_definite") rfl)⟩ : AlgK K (He.ga K "Algebra")) C_L_pair C_L_places C_P_point_on C_L_zero_right C_P_is_point C_L_is_point C_L_drop (⟨_, fd_P_Ratio___bool__, OK_P_Ratio___bool__, He.meth_ok (c.fact 103 (f := .meth "Ratio" "__bool__") rfl), F_P_Ratio___bool__.bindsN fun _ _ _ _ _ _ us hl => match us, hl with | [_], _ => rfl⟩ : CalM P w K mg base 1 "__bool__" (He.ga K "Ratio") ["self"] (spRatBool (He.ga K "Ratio"))) (⟨_, fd_P_Algebra___init__, [], OK_P_Algebra___init__, He.mkr_ok (c.fact 102 (f := .mkr "Algebra") rfl), (He.glo_ok X G (c.fact 76 (f := .glo "Algebra") rfl)), F_P_Algebra___init__.bindsN fun _ _ _ _ _ _ us hl => match us, hl with | [_, _, _], _ => rfl, .nil⟩ : CalC P w K mg base 6 "Algebra" (He.ga K "Algebra") ["self", "a", "b"] [] (spAlgInit (He.ga K "Algebra"))) (⟨_, fd_P_Four___init__, us_P_Four___init___2, OK_P_Four___init__, He.mkr_ok (c.fact 98 (f := .mkr "Four") rfl), (He.glo_ok X G (c.fact 90 (f := .glo "Four") rfl)), bd_P_Four___init___2, dv_P_Four___init___2⟩ : CalC P w K mg base 7 "Four" (He.ga K "Four") ["self", "algebra", "entries", "bottom"] [.int 1] (spFourInit (He.ga K "Four") (He.ga K "Ratio") (He.ga K "Algebra"))), g_L_right, F_L_right.kp, F_L_right.bindsN fun _ _ _ _ _ _ us hl => match us, hl with | [_], _ => rfl⟩
  exact ok_law F_L_law T C_L_vial C_L_right C_P_point_on C_L_is_point
end Sf
open PySem PySem.W PySem.Calls PyProof.Rows
set_option maxHeartbeats 0 in
theorem PySem.Challenge.cw_signfours_k15_whole_points_told_holds : PySem.Challenge.rw_signfours_k15_whole_points_told.Holds := by
  w_on; o_law
  refine HandSHeadRun.head_imp (r := OpenLaw.row PySem.Challenge.rw_signfours_k15_whole_points_told) (q := view (OpenLaw.row PySem.Challenge.rw_signfours_k15_whole_points_told).prog [0, 92]) (H := Sf.hk) (ob := Sf.ob) (M := 20000) (loose := Sf.loose) (d := HandSHeadRun.topDef (OpenLaw.row PySem.Challenge.rw_signfours_k15_whole_points_told).prog 92) (kwd := []) Sf.ob_eq
    Sf.run (by kernel_rfl) (by kernel_rfl) (by kernel_rfl) (by rfl) (by first | assumption | decide +kernel) (by decide +kernel) ⟨rfl, rfl, rfl, rfl, rfl, by decide +kernel⟩ ?hw ?hc
  case hw => w_witness2
  case hc =>
    refine L2.walk_ofE (l := PySem.Challenge.rw_signfours_k15_whole_points_told) (n := 63) (k := 27) (x := "_law_script") (CX := L2.CX0) rfl (by decide) (by kernel_rfl) ⟨rfl, by decide, by decide⟩ ?F (fun _ _ _ _ z => z)
    intro w mg fa h Y G hmg0
    obtain ⟨K, KX, c, z⟩ := Y
    have hmg : mg ("law" : PySem.Str) = some (.ref fa) := by
      have e : (HandSHeadRun.topDef (OpenLaw.row PySem.Challenge.rw_signfours_k15_whole_points_told).prog 92).name = ("law" : PySem.Str) := by kernel_rfl
      rw [← e]
      exact hmg0
    obtain ⟨fd, hb, hF⟩ := Sf.facts (P := (PySem.Challenge.rw_signfours_k15_whole_points_told).prog) (w := w) KX G hmg c z
    exact ⟨K, fd, Sf.spLaw K, KX, hb, fun H a ns hl _ hS => ⟨a, ns, rfl, hS, hl, fun _ => rfl⟩, hF⟩
