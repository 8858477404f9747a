import PyProof.Rows.All
import Wide.All
import OpenK.AllK
import Wide.FinOn
import KE.KStateDown
import Lean
import HandS.Base
import HandS.Call
import HandS.List
import HandS.Comp
import HandS.Ends
import HandS.Evl
import HandS.Dict
import HandS.Iter
import HandS.Text
import HandS.More
import HandS.DictComp
import HandS.Words
import HandS.WordsList
import HandS.WordsExc
import HandS.WordsDict
import HandS.Defaults
import HandS.IsInst
import HandS.Small
import HandS.Wide
import HandS.Style
import HandS.SortInts
import HandS.Set
import HandS.SetFor
import HandS.Strs
import HandS.Star
import HandS.Head0
import HandS.Head1
import HandS.Head2
import HandS.Head3
import HandS.HeadEnd
import HandS.HeadHook1
import HandS.HeadHook2
import KE.KOpsOwn
import KE.GoesMore
import KE.KFmtOwn
import HandS.OwnEq
import HandS.Records
import HandS.Gcd
import HandS.TupAny
import HandS.Walk
import HandS.Zip
import HandS.Zip0
import KE.KDictZip
import PyProof.CollectWalk
import PyProof.ListNew
import HandS.FStr
import HandS.StrMore
import HandS.Flow
import HandS.RaiseMore
import HandS.Exc
import HandS.TryMany
import HandS.Lambda
import HandS.TupSets
import PySem.Challenge.RW_signfours_k72_whole_summands_and_traces
set_option Elab.async false
set_option linter.all false
set_option maxRecDepth 100000
set_option maxHeartbeats 4000000
namespace Sf
open PySem PySem.Spec PyProof.Rows L2
/-- a def of the text that lets no exception out, ready to be called -/
structure Cal (P : Program) (w : World) (K : PySem.W.Frag) (mg : Str → Option Value) (base : Heap) (k : Nat) (x : Str) (ps : List Str) (sp : Sp) where
  f : Addr
  fd : FuncData
  ok : FnOk P w K mg base CX0 k f fd ps sp
  g : mg x = some (.ref f)
  kp : PySem.W.keepIn K (.ref f) = true
  b : Binds K fd ps []
section
variable {X : Cx} {k : Nat} {x : Str} {ps : List Str} {sp : Sp} {e : Expr} {es : List Expr} {t : TA} {p pos : Pos}
theorem pe_cal (C : Cal X.prog X.w X.K X.mg X.base k x ps sp) (hr : Room k X.A) (ha : PA X (e :: es) t) (hg : Gl X x := by rfl) (hdb : (x == ("__debug__" : Str)) = false := by decide)
    (he : starEach (e :: es) X.env = (false, eval e X.env) :: starEach es X.env := by rfl) (hpl : (backTo pos (starEach es X.env)).any (·.1) = false := by rfl) :
    PE X (.Call (.Name x p) (e :: es) [] pos) (tCall sp [] E0 t) :=
  pe_call C.ok hr hg C.g C.kp C.b .nil pass0 ha hdb he hpl
theorem pe_cal0 (C : Cal X.prog X.w X.K X.mg X.base k x ps sp) (hr : Room k X.A) (hg : Gl X x := by rfl) (hdb : (x == ("__debug__" : Str)) = false := by decide) :
    PE X (.Call (.Name x p) [] [] pos) (tCall sp [] E0 tNil) :=
  pe_call0 C.ok hr hg C.g C.kp C.b .nil pass0 hdb
/-- a power of any size that the machine's line takes -/
def CPowW (i j : Int) : Prop := 0 ≤ j ∧ (Builtin.Int.intBits i : Int) * j ≤ 2 ^ 27
theorem op_powW : OpR X (binaryOp .Pow) (rI CPowW fun i j => .int (i ^ j.toNat)) := opI fun _ _ _ _ _ _ _ hc q => pow_int hc.1 hc.2 q
/-- a dict that a call has just made, frozen from here on -/
theorem pe_frz {e : Expr} {te : TE} (h : PE X e te) : PE X e (fun σ H Q => te σ H fun x H1 => ∃ d u, x = .ref d ∧ H1 d = some u ∧ Mut (some u) ∧ ∀ od, Q x (upd H1 d (.frz od u))) := by
  refine ⟨fun pins s σ H Q I hw => ?_⟩
  refine thn (h.run pins s σ _ _ I hw) fun v s1 ⟨y, H1, I1, r, d, u, e1, hd, mu, q⟩ => ?_
  obtain ⟨od, I2⟩ := I1.lock hd mu
  exact ⟨y, _, I2, r, q od⟩
end
section
variable {X : Cx} {e : Expr}
/-- an expression, with a word behind it: what follows is shown once -/
def tMid (t : TE) : TE := fun σ H Q => ∃ Mid : V → Hp → Prop, t σ H Mid ∧ ∀ v H', Mid v H' → Q v H'
theorem pe_cut {t : TE} (h : PE X e t) : PE X e (tMid t) :=
  ⟨fun pins s σ H Q I ⟨Mid, hm, hu⟩ => thn (h.run pins s σ H Mid I hm) fun u s1 ⟨x, H1, I1, r, q⟩ => ⟨x, H1, I1, r, hu x H1 q⟩⟩
def tMidT (t : TT) : TT := fun σ H Q => ∃ Mid : Bool → Hp → Prop, t σ H Mid ∧ ∀ v H', Mid v H' → Q v H'
theorem pt_mid {t : TT} (h : PT X e t) : PT X e (tMidT t) :=
  ⟨fun pins s σ H Q I ⟨Mid, hm, hu⟩ => thn (h.run pins s σ H Mid I hm) fun b s1 ⟨H1, I1, q⟩ => ⟨H1, I1, hu b H1 q⟩⟩
end
theorem same_upd {H : Hp} {p : Addr} {o : HO} (h : H p = none) : Same H (upd H p o) := fun b x e => by
  rw [upd_ne (ne_of_none e h)]
  exact e
theorem CMulW.of {i j : Int} (hi : i.natAbs < 2 ^ 3000) (hj : j.natAbs < 2 ^ 3000) : CMulW i j := wide_mul hi hj (by decide) (by decide) (by decide)
theorem CDivW.of {i j : Int} (h0 : 0 < j) (hj : j.natAbs < 2 ^ 3000) : CDivW i j := wide_div h0 hj (by decide) (by decide)
theorem two3000 : (10 : Nat) ^ 600 < 2 ^ 3000 := by decide +kernel
end Sf
namespace Sf
open PySem PySem.Spec PyProof.Rows L2
/-- an if whose test is a decision -/
theorem ifd {p : Prop} [Decidable p] {A B : Prop} (h1 : p → A) (h2 : ¬ p → B) : if decide p = true then A else B := by
  by_cases h : p
  · rw [if_pos (decide_eq_true h)]; exact h1 h
  · rw [if_neg (by simpa using h)]; exact h2 h
theorem ifn {p : Prop} [Decidable p] {A B : Prop} (h1 : ¬ p → A) (h2 : p → B) : if (!decide p) = true then A else B := by
  by_cases h : p
  · rw [if_neg (by simpa using h)]; exact h2 h
  · rw [if_pos (by simpa using h)]; exact h1 h
theorem ifb {b : Bool} {A B : Prop} (h1 : b = true → A) (h2 : b = false → B) : if b = true then A else B := by
  cases b with
  | true => rw [if_pos rfl]; exact h1 rfl
  | false => rw [if_neg Bool.false_ne_true]; exact h2 rfl
end Sf
namespace Sf
open PySem PySem.Spec PyProof.Rows L2
/-! the head's facts and one more Bool -/
abbrev AlO : Type := He.AlD × Bool
/-- what is looked at: the module's names, what they name, so on; a code object's own things are left out -/
def refsN (o : Obj) : List Addr := match o.data with
  | .dict es _ => es.toList.flatMap fun e => He.refV e.val
  | .func fd => He.refV fd.code ++ He.refV fd.defaults
  | .cls cd => cd.ns :: cd.mro.flatMap He.refV
  | _ => []
def stepN (g : Addr → Option Obj) (as : List Addr) : List Addr := as.flatMap fun a => match g a with
  | some o => refsN o
  | none => []
def asN (g : Addr → Option Obj) : Nat → List Addr → List Addr
  | 0, as => as
  | n + 1, as => as ++ asN g n (stepN g as)
def obsO (n : Nat) (fa : List He.Fa) (fn : List He.DefD) (ex : PySem.W.Frag → Bool) (g : Addr → Option Obj) : AlO := (He.obsD fa fn (He.frG g (asN g n [mainGlobals])), ex (He.frG g (asN g n [mainGlobals])))
def hookO (n : Nat) (fa : List He.Fa) (fn : List He.DefD) (ex : PySem.W.Frag → Bool) : PySem.W.Hook where
  α := AlO
  obs := fun s => obsO n fa fn ex s.heap.get?
  val := fun _ => (He.valD fn, true)
  says := fun _ h => ∃ K : PySem.W.Frag, K.In h ∧ He.SaysD fa fn K ∧ ex K = true
  of := fun _ _ e => ⟨_, He.frG_in, congrArg (fun z : AlO => z.1) e, congrArg (fun z : AlO => z.2) e⟩
  keeps := fun _ _ _ ⟨K, hK, c⟩ k => ⟨K, PySem.W.Frag.In.keeps hK k, c⟩
theorem obsO_eq {n : Nat} {fa : List He.Fa} {fn : List He.DefD} {ex : PySem.W.Frag → Bool} {g : Addr → Option Obj} {s : Shared} (h : ∀ a, g a = s.heap.get? a) : obsO n fa fn ex g = (hookO n fa fn ex).obs s := by
  have e : g = s.heap.get? := funext h
  rw [e] <;> rfl
def ownB (K : PySem.W.Frag) (x : Str) : Bool := PySem.W.selfFirst K (He.ga K x) && (decide (PySem.W.subIn K (.type "int") (.ref (He.ga K x)) = some false) && (He.eqO (PySem.W.findIn K (.ref (He.ga K x)) "__ne__") (some (some (.builtin "object.__ne__"))) &&
  (decide (PySem.W.mroIn K (He.ga K x) (.type "object") = some true) && (He.eqO (PySem.W.findIn K (.ref (He.ga K x)) "__class__") (some (some (.builtin "object.__class__"))) && (He.eqO (PySem.W.specialIn K (.builtin "object.__class__") "__get__") (some (some (.builtin "getset_descriptor.__get__"))) &&
  (decide (PySem.W.takesIn K (.builtin "object.__class__") = some true) && (decide (PySem.W.kitOne K (.ref (He.ga K x)) (.ref (He.ga K x)) = some true) && decide (PySem.W.kitOne K (.type "int") (.ref (He.ga K x)) = some false))))))))
/-- a module's name that holds a built-in function -/
def gblB (K : PySem.W.Frag) (x : Str) (id : String) : Bool := He.eqO (PySem.W.nsIn K mainGlobals x) (some (some (.builtin id)))
theorem gblB_ok {K : PySem.W.Frag} {h : Heap} {mg : Str → Option Value} (X : K.In h) (G : h.Ns mainGlobals mg) {x : Str} {id : String} (c : gblB K x id = true) : mg x = some (.builtin id) := PySem.W.mg_of X G (He.eqO_ok c)
end Sf

namespace Sf
open PySem PySem.Spec PyProof.Rows L2
def top (i : Nat) : Stmt := PySem.Challenge.pw_signfours_k72_whole_summands_and_traces.main.body.getD i (.Pass ⟨0, 0, 0, 0⟩)
abbrev s_P__wall : Stmt := top 1
theorem sc_P__wall : FnScope ["k"] ["k"] (defScope s_P__wall) := ⟨rfl, rfl, rfl, by decide +kernel, rfl, by decide +kernel, by decide +kernel⟩
abbrev s_P_is_integer : Stmt := top 4
theorem sc_P_is_integer : FnScope ["value"] ["value"] (defScope s_P_is_integer) := ⟨rfl, rfl, rfl, by decide +kernel, rfl, by decide +kernel, by decide +kernel⟩
abbrev s_P_is_passed : Stmt := top 5
theorem sc_P_is_passed : FnScope ["value"] ["value"] (defScope s_P_is_passed) := ⟨rfl, rfl, rfl, by decide +kernel, rfl, by decide +kernel, by decide +kernel⟩
abbrev s_P_is_triple : Stmt := top 6
theorem sc_P_is_triple : FnScope ["value", "part"] ["value"] (defScope s_P_is_triple) := ⟨rfl, rfl, rfl, by decide +kernel, rfl, by decide +kernel, by decide +kernel⟩
abbrev s_P_ParseError___init__ : Stmt := inClass (top 11) 0
theorem sc_P_ParseError___init__ : FnScope ["self", "spot"] ["self", "spot"] (defScope s_P_ParseError___init__) := ⟨rfl, rfl, rfl, by decide +kernel, rfl, by decide +kernel, by decide +kernel⟩
abbrev s_P_InvalidNumber___init__ : Stmt := inClass (top 12) 0
theorem sc_P_InvalidNumber___init__ : FnScope ["self", "given"] ["self", "given"] (defScope s_P_InvalidNumber___init__) := ⟨rfl, rfl, rfl, by decide +kernel, rfl, by decide +kernel, by decide +kernel⟩
abbrev s_P_is_prime : Stmt := top 15
theorem sc_P_is_prime : FnScope ["value", "divisor"] ["value"] (defScope s_P_is_prime) := ⟨rfl, rfl, rfl, by decide +kernel, rfl, by decide +kernel, by decide +kernel⟩
abbrev s_P_next_divisor : Stmt := top 16
theorem sc_P_next_divisor : FnScope ["divisor"] ["divisor"] (defScope s_P_next_divisor) := ⟨rfl, rfl, rfl, by decide +kernel, rfl, by decide +kernel, by decide +kernel⟩
abbrev s_P_rest_sign : Stmt := top 17
theorem sc_P_rest_sign : FnScope ["number", "prime"] ["number", "prime"] (defScope s_P_rest_sign) := ⟨rfl, rfl, rfl, by decide +kernel, rfl, by decide +kernel, by decide +kernel⟩
abbrev s_P_power_modulo : Stmt := top 18
theorem sc_P_power_modulo : FnScope ["number", "many", "modulus", "made", "square"] ["number", "many", "modulus"] (defScope s_P_power_modulo) := ⟨rfl, rfl, rfl, by decide +kernel, rfl, by decide +kernel, by decide +kernel⟩
abbrev s_P_Ratio___init__ : Stmt := inClass (top 20) 0
theorem sc_P_Ratio___init__ : FnScope ["self", "top", "bottom"] ["self", "top", "bottom"] (defScope s_P_Ratio___init__) := ⟨rfl, rfl, rfl, by decide +kernel, rfl, by decide +kernel, by decide +kernel⟩
abbrev s_P_Ratio_read : Stmt := inClass (top 20) 1
theorem sc_P_Ratio_read : FnScope ["text", "top", "slash", "bottom", "found"] ["text"] (defScope s_P_Ratio_read) := ⟨rfl, rfl, rfl, by decide +kernel, rfl, by decide +kernel, by decide +kernel⟩
abbrev s_P_Ratio_over : Stmt := inClass (top 20) 2
theorem sc_P_Ratio_over : FnScope ["self", "other", "top", "bottom"] ["self", "other"] (defScope s_P_Ratio_over) := ⟨rfl, rfl, rfl, by decide +kernel, rfl, by decide +kernel, by decide +kernel⟩
abbrev s_P_Ratio_compared : Stmt := inClass (top 20) 3
theorem sc_P_Ratio_compared : FnScope ["self", "other"] ["self", "other"] (defScope s_P_Ratio_compared) := ⟨rfl, rfl, rfl, by decide +kernel, rfl, by decide +kernel, by decide +kernel⟩
abbrev s_P_Ratio___add__ : Stmt := inClass (top 20) 4
theorem sc_P_Ratio___add__ : FnScope ["self", "other", "top", "bottom"] ["self", "other"] (defScope s_P_Ratio___add__) := ⟨rfl, rfl, rfl, by decide +kernel, rfl, by decide +kernel, by decide +kernel⟩
abbrev s_P_Ratio___sub__ : Stmt := inClass (top 20) 5
theorem sc_P_Ratio___sub__ : FnScope ["self", "other", "top", "bottom"] ["self", "other"] (defScope s_P_Ratio___sub__) := ⟨rfl, rfl, rfl, by decide +kernel, rfl, by decide +kernel, by decide +kernel⟩
abbrev s_P_Ratio___mul__ : Stmt := inClass (top 20) 6
theorem sc_P_Ratio___mul__ : FnScope ["self", "other", "top", "bottom"] ["self", "other"] (defScope s_P_Ratio___mul__) := ⟨rfl, rfl, rfl, by decide +kernel, rfl, by decide +kernel, by decide +kernel⟩
abbrev s_P_Ratio___neg__ : Stmt := inClass (top 20) 7
theorem sc_P_Ratio___neg__ : FnScope ["self"] ["self"] (defScope s_P_Ratio___neg__) := ⟨rfl, rfl, rfl, by decide +kernel, rfl, by decide +kernel, by decide +kernel⟩
abbrev s_P_Ratio___eq__ : Stmt := inClass (top 20) 8
theorem sc_P_Ratio___eq__ : FnScope ["self", "value"] ["self", "value"] (defScope s_P_Ratio___eq__) := ⟨rfl, rfl, rfl, by decide +kernel, rfl, by decide +kernel, by decide +kernel⟩
abbrev s_P_Ratio___bool__ : Stmt := inClass (top 20) 9
theorem sc_P_Ratio___bool__ : FnScope ["self"] ["self"] (defScope s_P_Ratio___bool__) := ⟨rfl, rfl, rfl, by decide +kernel, rfl, by decide +kernel, by decide +kernel⟩
abbrev s_P_Ratio___str__ : Stmt := inClass (top 20) 10
theorem sc_P_Ratio___str__ : FnScope ["self"] ["self"] (defScope s_P_Ratio___str__) := ⟨rfl, rfl, rfl, by decide +kernel, rfl, by decide +kernel, by decide +kernel⟩
abbrev s_P_made_ratio : Stmt := top 21
theorem sc_P_made_ratio : FnScope ["top", "bottom", "terms", "made"] ["top", "bottom"] (defScope s_P_made_ratio) := ⟨rfl, rfl, rfl, by decide +kernel, rfl, by decide +kernel, by decide +kernel⟩
abbrev s_P_lowest_terms : Stmt := top 22
theorem sc_P_lowest_terms : FnScope ["top", "bottom", "common"] ["top", "bottom"] (defScope s_P_lowest_terms) := ⟨rfl, rfl, rfl, by decide +kernel, rfl, by decide +kernel, by decide +kernel⟩
abbrev s_P_sign_of : Stmt := top 23
theorem sc_P_sign_of : FnScope ["number"] ["number"] (defScope s_P_sign_of) := ⟨rfl, rfl, rfl, by decide +kernel, rfl, by decide +kernel, by decide +kernel⟩
abbrev s_P_is_fraction : Stmt := top 24
theorem sc_P_is_fraction : FnScope ["value"] ["value"] (defScope s_P_is_fraction) := ⟨rfl, rfl, rfl, by decide +kernel, rfl, by decide +kernel, by decide +kernel⟩
abbrev s_P_check_ratio : Stmt := top 25
theorem sc_P_check_ratio : FnScope ["value"] ["value"] (defScope s_P_check_ratio) := ⟨rfl, rfl, rfl, by decide +kernel, rfl, by decide +kernel, by decide +kernel⟩
abbrev s_P_terms_of : Stmt := top 26
theorem sc_P_terms_of : FnScope ["ratio"] ["ratio"] (defScope s_P_terms_of) := ⟨rfl, rfl, rfl, by decide +kernel, rfl, by decide +kernel, by decide +kernel⟩
abbrev s_P_is_digits : Stmt := top 27
theorem sc_P_is_digits : FnScope ["word"] ["word"] (defScope s_P_is_digits) := ⟨rfl, rfl, rfl, by decide +kernel, rfl, by decide +kernel, by decide +kernel⟩
abbrev s_P_is_odd_primes : Stmt := top 29
theorem sc_P_is_odd_primes : FnScope ["value", "bound", "least", "prime"] ["value"] (defScope s_P_is_odd_primes) := ⟨rfl, rfl, rfl, by decide +kernel, rfl, by decide +kernel, by decide +kernel⟩
abbrev s_P_totient : Stmt := top 30
theorem sc_P_totient : FnScope ["primes", "made", "prime"] ["primes"] (defScope s_P_totient) := ⟨rfl, rfl, rfl, by decide +kernel, rfl, by decide +kernel, by decide +kernel⟩
abbrev s_P_is_reduced : Stmt := top 35
theorem sc_P_is_reduced : FnScope ["value", "a", "b", "c"] ["value"] (defScope s_P_is_reduced) := ⟨rfl, rfl, rfl, by decide +kernel, rfl, by decide +kernel, by decide +kernel⟩
abbrev s_P_summand : Stmt := top 36
theorem sc_P_summand : FnScope ["primes", "trace", "many"] ["primes", "trace", "many"] (defScope s_P_summand) := ⟨rfl, rfl, rfl, by decide +kernel, rfl, by decide +kernel, by decide +kernel⟩
abbrev s_P_trace_by_forms : Stmt := top 37
theorem sc_P_trace_by_forms : FnScope ["primes", "many", "total", "trace"] ["primes", "many"] (defScope s_P_trace_by_forms) := ⟨rfl, rfl, rfl, by decide +kernel, rfl, by decide +kernel, by decide +kernel⟩
abbrev s_P_is_two_form : Stmt := top 38
theorem sc_P_is_two_form : FnScope ["value"] ["value"] (defScope s_P_is_two_form) := ⟨rfl, rfl, rfl, by decide +kernel, rfl, by decide +kernel, by decide +kernel⟩
abbrev s_P_forms_with : Stmt := top 39
theorem sc_P_forms_with : FnScope ["number", "found", "a", "b", "c", "rest"] ["number"] (defScope s_P_forms_with) := ⟨rfl, rfl, rfl, by decide +kernel, rfl, by decide +kernel, by decide +kernel⟩
abbrev s_P_units_of : Stmt := top 40
theorem sc_P_units_of : FnScope ["number"] ["number"] (defScope s_P_units_of) := ⟨rfl, rfl, rfl, by decide +kernel, rfl, by decide +kernel, by decide +kernel⟩
abbrev s_P_summand_of : Stmt := top 41
theorem sc_P_summand_of : FnScope ["primes", "number", "total", "part", "left", "worth", "prime"] ["primes", "number"] (defScope s_P_summand_of) := ⟨rfl, rfl, rfl, by decide +kernel, rfl, by decide +kernel, by decide +kernel⟩
abbrev s_P_mark : Stmt := top 42
theorem sc_P_mark : FnScope ["prime", "number"] ["prime", "number"] (defScope s_P_mark) := ⟨rfl, rfl, rfl, by decide +kernel, rfl, by decide +kernel, by decide +kernel⟩
abbrev s_P_square_parts : Stmt := top 43
theorem sc_P_square_parts : FnScope ["number", "part"] ["number"] (defScope s_P_square_parts) := ⟨rfl, rfl, rfl, by decide +kernel, rfl, by decide +kernel, by decide +kernel⟩
abbrev s_P_check_primes : Stmt := top 44
theorem sc_P_check_primes : FnScope ["value", "made", "prime"] ["value"] (defScope s_P_check_primes) := ⟨rfl, rfl, rfl, by decide +kernel, rfl, by decide +kernel, by decide +kernel⟩
abbrev s_P_check_trace : Stmt := top 45
theorem sc_P_check_trace : FnScope ["value"] ["value"] (defScope s_P_check_trace) := ⟨rfl, rfl, rfl, by decide +kernel, rfl, by decide +kernel, by decide +kernel⟩
abbrev s_P_check_many : Stmt := top 46
theorem sc_P_check_many : FnScope ["value"] ["value"] (defScope s_P_check_many) := ⟨rfl, rfl, rfl, by decide +kernel, rfl, by decide +kernel, by decide +kernel⟩
abbrev s_L_jar : Stmt := top 48
theorem sc_L_jar : FnScope ["_law_script", "_law_spot", "_law_cell", "_law_great", "_law_seed"] ["_law_script", "_law_spot"] (defScope s_L_jar) := ⟨rfl, rfl, rfl, by decide +kernel, rfl, by decide +kernel, by decide +kernel⟩
abbrev s_L_scoop : Stmt := top 49
theorem sc_L_scoop : FnScope ["_law_jar_here", "_law_total", "_law_found", "_law_one", "_law_two"] ["_law_jar_here", "_law_total"] (defScope s_L_scoop) := ⟨rfl, rfl, rfl, by decide +kernel, rfl, by decide +kernel, by decide +kernel⟩
abbrev s_L_pick : Stmt := top 50
theorem sc_L_pick : FnScope ["_law_jar_here", "_law_items"] ["_law_jar_here", "_law_items"] (defScope s_L_pick) := ⟨rfl, rfl, rfl, by decide +kernel, rfl, by decide +kernel, by decide +kernel⟩
abbrev s_L_common : Stmt := top 51
theorem sc_L_common : FnScope ["_law_one", "_law_other", "_law_turn"] ["_law_one", "_law_other"] (defScope s_L_common) := ⟨rfl, rfl, rfl, by decide +kernel, rfl, by decide +kernel, by decide +kernel⟩
abbrev s_L_is_reduced : Stmt := top 52
theorem sc_L_is_reduced : FnScope ["_law_a", "_law_b", "_law_c"] ["_law_a", "_law_b", "_law_c"] (defScope s_L_is_reduced) := ⟨rfl, rfl, rfl, by decide +kernel, rfl, by decide +kernel, by decide +kernel⟩
abbrev s_L_forms : Stmt := top 53
theorem sc_L_forms : FnScope ["_law_number", "_law_found", "_law_b", "_law_whole", "_law_a"] ["_law_number"] (defScope s_L_forms) := ⟨rfl, rfl, rfl, by decide +kernel, rfl, by decide +kernel, by decide +kernel⟩
abbrev s_L_two_forms : Stmt := top 54
theorem sc_L_two_forms : FnScope ["_law_a", "_law_b", "_law_c", "_law_found", "_law_side"] ["_law_a", "_law_b", "_law_c"] (defScope s_L_two_forms) := ⟨rfl, rfl, rfl, by decide +kernel, rfl, by decide +kernel, by decide +kernel⟩
abbrev s_L_led : Stmt := top 55
theorem sc_L_led : FnScope ["_law_form", "_law_table", "_law_a", "_law_b", "_law_c", "_law_p", "_law_q", "_law_r", "_law_s", "_law_first"] ["_law_form", "_law_table"] (defScope s_L_led) := ⟨rfl, rfl, rfl, by decide +kernel, rfl, by decide +kernel, by decide +kernel⟩
abbrev s_L_left : Stmt := top 56
theorem sc_L_left : FnScope ["_law_number", "_law_prime", "_law_one"] ["_law_number", "_law_prime"] (defScope s_L_left) := ⟨rfl, rfl, rfl, by decide +kernel, rfl, by decide +kernel, by decide +kernel⟩
abbrev s_L_lowered : Stmt := top 57
theorem sc_L_lowered : FnScope ["_law_number", "_law_found", "_law_share"] ["_law_number"] (defScope s_L_lowered) := ⟨rfl, rfl, rfl, by decide +kernel, rfl, by decide +kernel, by decide +kernel⟩
abbrev s_L_mark : Stmt := top 58
theorem sc_L_mark : FnScope ["_law_prime", "_law_number", "_law_conductor"] ["_law_prime", "_law_number"] (defScope s_L_mark) := ⟨rfl, rfl, rfl, by decide +kernel, rfl, by decide +kernel, by decide +kernel⟩
abbrev s_L_twelfths : Stmt := top 59
theorem sc_L_twelfths : FnScope ["_law_primes_here", "_law_trace", "_law_many", "_law_number", "_law_mass", "_law_prime", "_law_total", "_law_share", "_law_left_here", "_law_part"] ["_law_primes_here", "_law_trace", "_law_many"] (defScope s_L_twelfths) := ⟨rfl, rfl, rfl, by decide +kernel, rfl, by decide +kernel, by decide +kernel⟩
abbrev s_L_primes : Stmt := top 60
theorem sc_L_primes : FnScope ["_law_jar_here", "_law_some"] ["_law_jar_here"] (defScope s_L_primes) := ⟨rfl, rfl, rfl, by decide +kernel, rfl, by decide +kernel, by decide +kernel⟩
abbrev s_L_classes : Stmt := top 61
theorem sc_L_classes : FnScope ["_law_primes_here", "_law_one", "_law_two", "_law_three", "_law_prime"] ["_law_primes_here"] (defScope s_L_classes) := ⟨rfl, rfl, rfl, by decide +kernel, rfl, by decide +kernel, by decide +kernel⟩
abbrev s_L_is_barred : Stmt := top 62
theorem sc_L_is_barred : FnScope ["_law_primes_here", "_law_number", "_law_prime", "_law_share", "_law_left_here"] ["_law_primes_here", "_law_number"] (defScope s_L_is_barred) := ⟨rfl, rfl, rfl, by decide +kernel, rfl, by decide +kernel, by decide +kernel⟩
abbrev s_L_right : Stmt := top 63
theorem sc_L_right : FnScope ["_law_jar_here", "_law_primes_here", "_law_many", "_law_total", "_law_trace", "_law_due"] ["_law_jar_here"] (defScope s_L_right) := ⟨rfl, rfl, rfl, by decide +kernel, rfl, by decide +kernel, by decide +kernel⟩
abbrev s_L_law : Stmt := top 64
theorem sc_L_law : FnScope ["_law_script", "_law_spot", "_law_jar_here", "_law_told", "_law_many", "_law_ones", "_law_prime"] ["_law_script"] (defScope s_L_law) := ⟨rfl, rfl, rfl, by decide +kernel, rfl, by decide +kernel, by decide +kernel⟩
end Sf

namespace Sf
open PySem PySem.Spec PyProof.Rows L2
def d_L_jar : He.DefD := ⟨("_law_jar", none), "_law_jar", "_law_jar", defArgs s_L_jar, defBody s_L_jar, defScope s_L_jar, [], []⟩
def d_L_scoop : He.DefD := ⟨("_law_scoop", none), "_law_scoop", "_law_scoop", defArgs s_L_scoop, defBody s_L_scoop, defScope s_L_scoop, [], []⟩
def d_L_pick : He.DefD := ⟨("_law_pick", none), "_law_pick", "_law_pick", defArgs s_L_pick, defBody s_L_pick, defScope s_L_pick, [], []⟩
def d_L_primes : He.DefD := ⟨("_law_primes", none), "_law_primes", "_law_primes", defArgs s_L_primes, defBody s_L_primes, defScope s_L_primes, [], []⟩
def d_L_lowered : He.DefD := ⟨("_law_lowered", none), "_law_lowered", "_law_lowered", defArgs s_L_lowered, defBody s_L_lowered, defScope s_L_lowered, [], []⟩
def d_L_is_reduced : He.DefD := ⟨("_law_is_reduced", none), "_law_is_reduced", "_law_is_reduced", defArgs s_L_is_reduced, defBody s_L_is_reduced, defScope s_L_is_reduced, [], []⟩
def d_L_common : He.DefD := ⟨("_law_common", none), "_law_common", "_law_common", defArgs s_L_common, defBody s_L_common, defScope s_L_common, [], []⟩
def d_L_two_forms : He.DefD := ⟨("_law_two_forms", none), "_law_two_forms", "_law_two_forms", defArgs s_L_two_forms, defBody s_L_two_forms, defScope s_L_two_forms, [], []⟩
def d_L_forms : He.DefD := ⟨("_law_forms", none), "_law_forms", "_law_forms", defArgs s_L_forms, defBody s_L_forms, defScope s_L_forms, [], []⟩
def d_L_left : He.DefD := ⟨("_law_left", none), "_law_left", "_law_left", defArgs s_L_left, defBody s_L_left, defScope s_L_left, [], []⟩
def d_L_mark : He.DefD := ⟨("_law_mark", none), "_law_mark", "_law_mark", defArgs s_L_mark, defBody s_L_mark, defScope s_L_mark, [], []⟩
def d_L_twelfths : He.DefD := ⟨("_law_twelfths", none), "_law_twelfths", "_law_twelfths", defArgs s_L_twelfths, defBody s_L_twelfths, defScope s_L_twelfths, [], []⟩
def d_P_is_integer : He.DefD := ⟨("is_integer", none), "is_integer", "is_integer", defArgs s_P_is_integer, defBody s_P_is_integer, defScope s_P_is_integer, [], []⟩
def d_P_next_divisor : He.DefD := ⟨("next_divisor", none), "next_divisor", "next_divisor", defArgs s_P_next_divisor, defBody s_P_next_divisor, defScope s_P_next_divisor, [], []⟩
def d_P_is_prime : He.DefD := ⟨("is_prime", none), "is_prime", "is_prime", defArgs s_P_is_prime, defBody s_P_is_prime, defScope s_P_is_prime, [], []⟩
def d_P_is_odd_primes : He.DefD := ⟨("is_odd_primes", none), "is_odd_primes", "is_odd_primes", defArgs s_P_is_odd_primes, defBody s_P_is_odd_primes, defScope s_P_is_odd_primes, [], []⟩
def d_P_check_primes : He.DefD := ⟨("check_primes", none), "check_primes", "check_primes", defArgs s_P_check_primes, defBody s_P_check_primes, defScope s_P_check_primes, [], []⟩
def d_P_check_trace : He.DefD := ⟨("check_trace", none), "check_trace", "check_trace", defArgs s_P_check_trace, defBody s_P_check_trace, defScope s_P_check_trace, [], []⟩
def d_P_check_many : He.DefD := ⟨("check_many", none), "check_many", "check_many", defArgs s_P_check_many, defBody s_P_check_many, defScope s_P_check_many, [], []⟩
def d_P_totient : He.DefD := ⟨("totient", none), "totient", "totient", defArgs s_P_totient, defBody s_P_totient, defScope s_P_totient, [], []⟩
def d_P_lowest_terms : He.DefD := ⟨("lowest_terms", none), "lowest_terms", "lowest_terms", defArgs s_P_lowest_terms, defBody s_P_lowest_terms, defScope s_P_lowest_terms, [], []⟩
def d_P_sign_of : He.DefD := ⟨("sign_of", none), "sign_of", "sign_of", defArgs s_P_sign_of, defBody s_P_sign_of, defScope s_P_sign_of, [], []⟩
def d_P_is_passed : He.DefD := ⟨("is_passed", none), "is_passed", "is_passed", defArgs s_P_is_passed, defBody s_P_is_passed, defScope s_P_is_passed, [], []⟩
def d_P_Ratio___init__ : He.DefD := ⟨("Ratio", some "__init__"), "__init__", "Ratio.__init__", defArgs s_P_Ratio___init__, defBody s_P_Ratio___init__, defScope s_P_Ratio___init__, [.int 1], []⟩
def d_P_made_ratio : He.DefD := ⟨("made_ratio", none), "made_ratio", "made_ratio", defArgs s_P_made_ratio, defBody s_P_made_ratio, defScope s_P_made_ratio, [], []⟩
def d_P_square_parts : He.DefD := ⟨("square_parts", none), "square_parts", "square_parts", defArgs s_P_square_parts, defBody s_P_square_parts, defScope s_P_square_parts, [], []⟩
def d_P_is_triple : He.DefD := ⟨("is_triple", none), "is_triple", "is_triple", defArgs s_P_is_triple, defBody s_P_is_triple, defScope s_P_is_triple, [], []⟩
def d_P_is_two_form : He.DefD := ⟨("is_two_form", none), "is_two_form", "is_two_form", defArgs s_P_is_two_form, defBody s_P_is_two_form, defScope s_P_is_two_form, [], []⟩
def d_P_is_reduced : He.DefD := ⟨("is_reduced", none), "is_reduced", "is_reduced", defArgs s_P_is_reduced, defBody s_P_is_reduced, defScope s_P_is_reduced, [], []⟩
def d_P_forms_with : He.DefD := ⟨("forms_with", none), "forms_with", "forms_with", defArgs s_P_forms_with, defBody s_P_forms_with, defScope s_P_forms_with, [], []⟩
def d_P_power_modulo : He.DefD := ⟨("power_modulo", none), "power_modulo", "power_modulo", defArgs s_P_power_modulo, defBody s_P_power_modulo, defScope s_P_power_modulo, [], []⟩
def d_P_rest_sign : He.DefD := ⟨("rest_sign", none), "rest_sign", "rest_sign", defArgs s_P_rest_sign, defBody s_P_rest_sign, defScope s_P_rest_sign, [], []⟩
def d_P_mark : He.DefD := ⟨("mark", none), "mark", "mark", defArgs s_P_mark, defBody s_P_mark, defScope s_P_mark, [], []⟩
def d_P_units_of : He.DefD := ⟨("units_of", none), "units_of", "units_of", defArgs s_P_units_of, defBody s_P_units_of, defScope s_P_units_of, [], []⟩
def d_P_is_fraction : He.DefD := ⟨("is_fraction", none), "is_fraction", "is_fraction", defArgs s_P_is_fraction, defBody s_P_is_fraction, defScope s_P_is_fraction, [], []⟩
def d_P_terms_of : He.DefD := ⟨("terms_of", none), "terms_of", "terms_of", defArgs s_P_terms_of, defBody s_P_terms_of, defScope s_P_terms_of, [], []⟩
def d_P_Ratio___add__ : He.DefD := ⟨("Ratio", some "__add__"), "__add__", "Ratio.__add__", defArgs s_P_Ratio___add__, defBody s_P_Ratio___add__, defScope s_P_Ratio___add__, [], []⟩
def d_P_summand_of : He.DefD := ⟨("summand_of", none), "summand_of", "summand_of", defArgs s_P_summand_of, defBody s_P_summand_of, defScope s_P_summand_of, [], []⟩
def d_P_summand : He.DefD := ⟨("summand", none), "summand", "summand", defArgs s_P_summand, defBody s_P_summand, defScope s_P_summand, [], []⟩
def d_P_Ratio___eq__ : He.DefD := ⟨("Ratio", some "__eq__"), "__eq__", "Ratio.__eq__", defArgs s_P_Ratio___eq__, defBody s_P_Ratio___eq__, defScope s_P_Ratio___eq__, [], []⟩
def d_L_is_barred : He.DefD := ⟨("_law_is_barred", none), "_law_is_barred", "_law_is_barred", defArgs s_L_is_barred, defBody s_L_is_barred, defScope s_L_is_barred, [], []⟩
def d_P_Ratio___mul__ : He.DefD := ⟨("Ratio", some "__mul__"), "__mul__", "Ratio.__mul__", defArgs s_P_Ratio___mul__, defBody s_P_Ratio___mul__, defScope s_P_Ratio___mul__, [], []⟩
def d_P_trace_by_forms : He.DefD := ⟨("trace_by_forms", none), "trace_by_forms", "trace_by_forms", defArgs s_P_trace_by_forms, defBody s_P_trace_by_forms, defScope s_P_trace_by_forms, [], []⟩
def d_L_classes : He.DefD := ⟨("_law_classes", none), "_law_classes", "_law_classes", defArgs s_L_classes, defBody s_L_classes, defScope s_L_classes, [], []⟩
def d_L_right : He.DefD := ⟨("_law_right", none), "_law_right", "_law_right", defArgs s_L_right, defBody s_L_right, defScope s_L_right, [], []⟩
def d_P_Ratio___str__ : He.DefD := ⟨("Ratio", some "__str__"), "__str__", "Ratio.__str__", defArgs s_P_Ratio___str__, defBody s_P_Ratio___str__, defScope s_P_Ratio___str__, [], []⟩
def d_L_law : He.DefD := ⟨("law", none), "law", "law", defArgs s_L_law, defBody s_L_law, defScope s_L_law, [], []⟩
def fn : List He.DefD := [d_L_jar, d_L_scoop, d_L_pick, d_L_primes, d_L_lowered, d_L_is_reduced, d_L_common, d_L_two_forms, d_L_forms, d_L_left, d_L_mark, d_L_twelfths, d_P_is_integer, d_P_next_divisor, d_P_is_prime, d_P_is_odd_primes, d_P_check_primes, d_P_check_trace, d_P_check_many, d_P_totient, d_P_lowest_terms, d_P_sign_of, d_P_is_passed, d_P_Ratio___init__, d_P_made_ratio, d_P_square_parts, d_P_is_triple, d_P_is_two_form, d_P_is_reduced, d_P_forms_with, d_P_power_modulo, d_P_rest_sign, d_P_mark, d_P_units_of, d_P_is_fraction, d_P_terms_of, d_P_Ratio___add__, d_P_summand_of, d_P_summand, d_P_Ratio___eq__, d_L_is_barred, d_P_Ratio___mul__, d_P_trace_by_forms, d_L_classes, d_L_right, d_P_Ratio___str__, d_L_law]
def fa : List He.Fa := ([.glo "_law_jar", .glo "_law_scoop", .glo "_law_pick", .glo "_law_primes", .glo "_law_lowered", .glo "_law_is_reduced", .glo "_law_common", .glo "_law_two_forms", .glo "_law_forms", .glo "_law_left", .glo "_law_mark", .glo "_law_twelfths", .glo "is_integer", .glo "next_divisor", .glo "is_prime", .glo "is_odd_primes", .glo "check_primes", .glo "check_trace", .glo "check_many", .glo "totient", .glo "lowest_terms", .glo "sign_of", .glo "is_passed", .glo "made_ratio", .glo "square_parts", .glo "is_triple", .glo "is_two_form", .glo "is_reduced", .glo "forms_with", .glo "power_modulo"] : List He.Fa) ++ ([.glo "rest_sign", .glo "mark", .glo "units_of", .glo "is_fraction", .glo "terms_of", .glo "summand_of", .glo "summand", .glo "_law_is_barred", .glo "trace_by_forms", .glo "_law_classes", .glo "_law_right", .glo "law", .free "isinstance", .free "int", .free "bool", .free "abs", .free "tuple", .free "all", .free "len", .free "str", .free "range", .free "divmod", .free "max", .free "sorted", .free "set", .free "min", .int "TOO_LONG" 1000000000000000000000000000000000000000000000000000000000000, .int "MAX_NUMBER" 1000000000, .int "MAX_PRODUCT" 120, .int "MAX_TRACE" 1000] : List He.Fa) ++ ([.int "MAX_MANY" 200, .glo "Ratio", .cls "Ratio", .noat "Ratio" "top", .noat "Ratio" "bottom", .noat "Ratio" "sign", .mkr "Ratio", .meth "Ratio" "__add__", .meth "Ratio" "__mul__", .noat "Ratio" "__rmul__", .meth "Ratio" "__eq__", .meth "Ratio" "__str__"] : List He.Fa)
def ex (K : PySem.W.Frag) : Bool := gblB K "gcd" "math.gcd" && (gblB K "isqrt" "math.isqrt" && (ownB K "Ratio" && (true)))
abbrev R : PySem.W.OpenRow := PySem.W.OpenLaw.row PySem.Challenge.rw_signfours_k72_whole_summands_and_traces
abbrev hk : PySem.W.Hook := hookO 4 fa fn ex
def ob (s : PySem.W.SharedT) : AlO := obsO 4 fa fn ex (HandSHeadRun.getT s)
theorem ob_eq (s : PySem.W.SharedT) : ob s = hk.obs s.abs := obsO_eq (HandSHeadRun.getT_eq s)
def loose : List Str := (["_wall", "TOO_LONG", "is_integer", "is_passed", "is_triple", "FourError", "InvalidRatio", "InvalidOperation", "ParseError", "InvalidNumber", "MAX_NUMBER", "is_prime", "next_divisor", "rest_sign", "power_modulo", "Ratio", "made_ratio", "lowest_terms", "sign_of", "is_fraction", "check_ratio", "terms_of", "is_digits", "is_odd_primes", "totient", "MAX_PRODUCT", "MAX_MANY", "MAX_TRACE", "is_reduced", "summand"] : List Str) ++ (["trace_by_forms", "is_two_form", "forms_with", "units_of", "summand_of", "mark", "square_parts", "check_primes", "check_trace", "check_many", "_law_jar", "_law_scoop", "_law_pick", "_law_common", "_law_is_reduced", "_law_forms", "_law_two_forms", "_law_led", "_law_left", "_law_lowered", "_law_mark", "_law_twelfths", "_law_primes", "_law_classes", "_law_is_barred", "_law_right"] : List Str)
set_option maxHeartbeats 0 in
theorem run (w : World) : HandSHeadRun.RunEqI R (PySem.W.view R.prog [0, 64]) hk ob 20000 loose w := by
  unfold HandSHeadRun.RunEqI
  kernel_rfl
end Sf

namespace Sf
open PySem PySem.Spec PyProof.Rows L2
abbrev FnD (K : PySem.W.Frag) (x qual : Str) (st : Stmt) (f : Addr) (fd : FuncData) : Prop := FunD K x qual (defArgs st) (defBody st) (defScope st) [] [] f fd
/-- a def with defaults -/
abbrev FnDD (K : PySem.W.Frag) (x qual : Str) (st : Stmt) (dvs : List V) (f : Addr) (fd : FuncData) : Prop := FunD K x qual (defArgs st) (defBody st) (defScope st) dvs [] f fd
theorem lt3000 {a : Int} (h0 : 0 ≤ a) (h : a < 10 ^ 400) : a.natAbs < 2 ^ 3000 := by
  have h1 : (10 : Int) ^ 400 < 2 ^ 3000 := by decide +kernel
  have h2 : ((a.natAbs : Nat) : Int) < ((2 ^ 3000 : Nat) : Int) := by
    rw [Int.natAbs_of_nonneg h0]
    exact Int.lt_trans h h1
  exact Int.ofNat_lt.mp h2
theorem lt3000s {a : Int} (h0 : -1000000000000000000000000000000 < a) (h : a < 1000000000000000000000000000000) : a.natAbs < 2 ^ 3000 := Nat.lt_trans (by omega : a.natAbs < 1000000000000000000000000000000) (by decide +kernel)
theorem inV_two (x a b : Int) : inV (.int x) [.int a, .int b] = decide (x = a ∨ x = b) := by
  show ((a == x) || ((b == x) || false)) = _
  rw [Bool.or_false, Bool.eq_iff_iff]
  simp only [Bool.or_eq_true, beq_iff_eq, decide_eq_true_eq]
  constructor
  · rintro (h | h)
    · exact .inl h.symm
    · exact .inr h.symm
  · rintro (h | h)
    · exact .inl h.symm
    · exact .inr h.symm
theorem inV_ints (x : Int) (l : List Int) : inV (.int x) (l.map V.int) = decide (x ∈ l) := by
  unfold inV
  rw [List.any_map, Bool.eq_iff_iff, List.any_eq_true]
  simp only [decide_eq_true_eq]
  constructor
  · rintro ⟨y, hy, e⟩
    have e2 : (y == x) = true := e
    rw [← beq_iff_eq.mp e2]
    exact hy
  · intro h
    refine ⟨x, h, ?_⟩
    show (x == x) = true
    exact beq_self_eq_true x
theorem all_flat (l : List Int) : (l.map V.int).all flatV = true := by
  rw [List.all_map, List.all_eq_true]
  intro x _
  rfl
end Sf

namespace Sf
open PySem PySem.Spec PyProof.Rows L2
section
variable {P : Program} {w : World} {K : PySem.W.Frag} {mg : Str → Option Value} {base : Heap} {f : Addr} {fd : FuncData}
def spNext : Sp := fun vs H Q _ => ∃ d : Int, vs = [.int d] ∧ Q (.int (if d = 2 then 3 else d + 2)) H
theorem ok_next (F : FnD K "next_divisor" "next_divisor" s_P_next_divisor f fd) : FnOk P w K mg base CX0 1 f fd ["divisor"] spNext := by
  refine F.ok sc_P_next_divisor (fun vs H Q E h => ?_) (fun cdv A outer s H vs Q E hr h => ?_)
  · obtain ⟨d, rfl, _⟩ := h; rfl
  · obtain ⟨d, rfl, q⟩ := h
    refine ⟨_, PSs.nox (pss_one (ps_ret (pe_ifExp (pt_cmp (pc_eqI (pv 0) pe_int)) pe_int (pe_op op_add (pv 0) pe_int)))), ?_⟩
    refine ⟨_, rfl, _, _, rfl, rfl, _, rfl, ifd (fun h => ?_) (fun h => ?_)⟩
    · rw [if_pos h] at q
      exact q
    · rw [if_neg h] at q
      exact ⟨_, rfl, _, _, rfl, rfl, q⟩
end
end Sf

namespace Sf
open PySem PySem.Spec PyProof.Rows L2
section
variable {P : Program} {w : World} {K : PySem.W.Frag} {mg : Str → Option Value} {base : Heap} {f : Addr} {fd : FuncData}
theorem pow_mod (a m : Int) (k : Nat) : (a % m) ^ k % m = a ^ k % m := by
  induction k with
  | zero => rw [Int.pow_zero, Int.pow_zero]
  | succ k ih => rw [Int.pow_succ, Int.pow_succ, Int.mul_emod, ih, Int.emod_emod_of_dvd _ (Int.dvd_refl _), ← Int.mul_emod]
/-- a power, reduced -/
def spPowMod : Sp := fun vs H Q _ => ∃ n k m : Int, vs = [.int n, .int k, .int m] ∧ 0 ≤ k ∧ 1 ≤ m ∧ m.natAbs < 2 ^ 1000 ∧ Q (.int (n ^ k.toNat % m)) H
theorem mod_lt3000 {a m : Int} (h1 : 1 ≤ m) (hb : m.natAbs < 2 ^ 1000) : (a % m).natAbs < 2 ^ 3000 := by
  have h2 := Int.emod_nonneg a (by omega : m ≠ 0)
  have h3 := Int.emod_lt_of_pos a (by omega : 0 < m)
  have h4 : (a % m).natAbs < 2 ^ 1000 := by omega
  exact Nat.lt_trans h4 (by decide +kernel)
theorem pow_half (a : Int) (k : Int) (hk : 0 < k) : a ^ k.toNat = (a * a) ^ (k / 2).toNat * a ^ (k % 2).toNat := by
  have e : k.toNat = (k / 2).toNat + (k / 2).toNat + (k % 2).toNat := by omega
  rw [e, Int.pow_add, Int.pow_add, Int.mul_pow]
theorem ok_powmod (F : FnD K "power_modulo" "power_modulo" s_P_power_modulo f fd) : FnOk P w K mg base CX0 1 f fd ["number", "many", "modulus"] spPowMod := by
  refine F.ok sc_P_power_modulo (fun vs H Q E h => ?_) (fun cdv A outer s H vs Q E hr h => ?_)
  · obtain ⟨n, k, m, rfl, _⟩ := h; rfl
  · obtain ⟨n, k, m, rfl, hk, hm, hb, q⟩ := h
    refine ⟨_, PSs.nox (pss_cons (ps_set (i := 3) sc_P_power_modulo.nd rfl (Or.inl rfl) (pe_op op_mod pe_int (pv 2)))
      (pss_cons (ps_set (i := 4) sc_P_power_modulo.nd rfl (Or.inl rfl) (pe_op op_mod (pv 0) (pv 2)))
      (pss_cons (ps_while PassesOwn.never (pt_cmp (pc_gt (pv 1) pe_int)) (pss_cons (ps_if (pt_cmp (pc_eqI (pe_op op_mod (pv 1) pe_int) pe_int)) (pss_one (ps_set (i := 3) sc_P_power_modulo.nd rfl (Or.inl rfl) (pe_op op_mod (pe_op op_mulW (pv 3) (pv 4)) (pv 2)))) pss_nil)
      (pss_cons (ps_set (i := 4) sc_P_power_modulo.nd rfl (Or.inl rfl) (pe_op op_mod (pe_op op_mulW (pv 4) (pv 4)) (pv 2)))
      (pss_one (ps_set (i := 1) sc_P_power_modulo.nd rfl (Or.inl rfl) (pe_op op_fdivW (pv 1) pe_int))))))
      (pss_one (ps_ret (pv 3)))))), ?_⟩
    have hm0 : (0 : Int) < m := by omega
    refine ⟨_, rfl, _, _, rfl, rfl, hm0, _, rfl, _, rfl, _, _, rfl, rfl, hm0, ?_⟩
    refine ⟨fun c σ H' => H' = H ∧ ∃ k' made sq : Int, σ = [some (.int n), some (.int k'), some (.int m), some (.int made), some (.int sq)] ∧ 0 ≤ k' ∧ (made * sq ^ k'.toNat) % m = n ^ k.toNat % m ∧ made % m = made ∧ made.natAbs < 2 ^ 3000 ∧ sq.natAbs < 2 ^ 3000 ∧ c = k'.toNat,
      ⟨_, rfl, k, 1 % m, n % m, rfl, hk, ?_, Int.emod_emod_of_dvd _ (Int.dvd_refl _), mod_lt3000 hm hb, mod_lt3000 hm hb, rfl⟩, ?_⟩
    · rw [Int.mul_emod, Int.emod_emod_of_dvd _ (Int.dvd_refl _), ← Int.mul_emod, Int.one_mul]
      exact pow_mod _ _ _
    rintro c σ _ ⟨rfl, k', made, sq, rfl, hk', e, em, b1, b2, rfl⟩
    refine ⟨_, rfl, _, _, rfl, rfl, _, rfl, ifd (fun h => ⟨_, fun _ _ z => z, ?_⟩) (fun h => ?_)⟩
    · have hh := pow_half sq k' h
      have hsq : ((sq * sq) ^ (k' / 2).toNat) % m = ((sq * sq % m) ^ (k' / 2).toNat) % m := (pow_mod _ _ _).symm
      refine ⟨_, rfl, _, _, rfl, rfl, (by show (0 : Int) < 2; decide), _, _, rfl, rfl, _, rfl, ifd (fun h2 => ?_) (fun h2 => ?_)⟩
      · refine ⟨_, rfl, _, rfl, _, _, rfl, rfl, CMulW.of b1 b2, _, rfl, _, _, rfl, rfl, hm0, ?_⟩
        refine ⟨_, rfl, _, rfl, _, _, rfl, rfl, CMulW.of b2 b2, _, rfl, _, _, rfl, rfl, hm0, ?_⟩
        refine ⟨_, rfl, _, _, rfl, rfl, CDivW.of (by decide) (by decide +kernel), ?_⟩
        refine ⟨_, ?_, rfl, k' / 2, _, _, rfl, by omega, ?_, Int.emod_emod_of_dvd _ (Int.dvd_refl _), mod_lt3000 hm hb, mod_lt3000 hm hb, rfl⟩
        · omega
        · rw [← e, hh, h2]
          show made * sq % m * (sq * sq % m) ^ (k' / 2).toNat % m = made * ((sq * sq) ^ (k' / 2).toNat * sq ^ 1) % m
          rw [Int.mul_emod, ← hsq, Int.emod_emod_of_dvd _ (Int.dvd_refl _), ← Int.mul_emod, Int.pow_one]
          congr 1
          rw [Int.mul_assoc, Int.mul_comm sq]
      · refine ⟨_, rfl, _, rfl, _, _, rfl, rfl, CMulW.of b2 b2, _, rfl, _, _, rfl, rfl, hm0, ?_⟩
        refine ⟨_, rfl, _, _, rfl, rfl, CDivW.of (by decide) (by decide +kernel), ?_⟩
        refine ⟨_, ?_, rfl, k' / 2, _, _, rfl, by omega, ?_, em, b1, mod_lt3000 hm hb, rfl⟩
        · omega
        · have h3 : k' % 2 = 0 := by omega
          rw [← e, hh, h3]
          show made * (sq * sq % m) ^ (k' / 2).toNat % m = made * ((sq * sq) ^ (k' / 2).toNat * sq ^ 0) % m
          rw [Int.mul_emod, ← hsq, ← Int.mul_emod, Int.pow_zero, Int.mul_one]
    · have h3 : k' = 0 := by omega
      subst h3
      have e2 : made = n ^ k.toNat % m := by
        rw [← e]
        show made = made * sq ^ 0 % m
        rw [Int.pow_zero, Int.mul_one, em]
      refine ⟨_, rfl, ?_⟩
      rw [e2]
      exact q
end
end Sf

namespace Sf
/-! primes by trial -/
def PrP (n : Int) : Prop := 2 ≤ n ∧ ∀ k : Int, 2 ≤ k → k < n → n % k ≠ 0
theorem prp_of_trial {n d : Int} (hn : 2 ≤ n) (hd : 2 ≤ d) (h : ∀ k : Int, 2 ≤ k → k < d → n % k ≠ 0) (hl : n < d * d) : PrP n := by
  refine ⟨hn, fun k h2 hk hz => ?_⟩
  by_cases hkd : k < d
  · exact h k h2 hkd hz
  · have e : n = k * (n / k) := by
      have := Int.emod_add_mul_ediv n k
      omega
    have hm0 : 0 < n / k := by
      rcases Int.lt_or_le 0 (n / k) with z | z
      · exact z
      · have : k * (n / k) ≤ 0 := Int.mul_nonpos_of_nonneg_of_nonpos (by omega) z
        omega
    have hm1 : n / k ≠ 1 := fun z => by
      rw [z] at e
      omega
    have h3 : d * (n / k) ≤ k * (n / k) := Int.mul_le_mul_of_nonneg_right (by omega) (by omega)
    have h4 : d * (n / k) < d * d := by omega
    have h5 : n / k < d := Int.lt_of_mul_lt_mul_left h4 (by omega)
    refine h (n / k) (by omega) h5 ?_
    rw [e]
    exact Int.emod_eq_zero_of_dvd ⟨k, by rw [Int.mul_ediv_cancel_left _ (by omega : k ≠ 0)]; exact Int.mul_comm _ _⟩
/-- no divisor below d; d is 2 or odd -/
def NoDiv (n d : Int) : Prop := 2 ≤ d ∧ (d = 2 ∨ d % 2 = 1) ∧ ∀ k : Int, 2 ≤ k → k < d → n % k ≠ 0
theorem nodiv2 (n : Int) : NoDiv n 2 := ⟨by omega, .inl rfl, fun k h1 h2 => by omega⟩
theorem mod_of_dvd {n a b : Int} (h : n % b = 0) (hb : b % a = 0) : n % a = 0 := by
  have h1 : b ∣ n := Int.dvd_of_emod_eq_zero h
  have h2 : a ∣ b := Int.dvd_of_emod_eq_zero hb
  exact Int.emod_eq_zero_of_dvd (Int.dvd_trans h2 h1)
theorem nodiv_next {n d : Int} (h : NoDiv n d) (hd : n % d ≠ 0) : NoDiv n (if d = 2 then 3 else d + 2) := by
  obtain ⟨h1, h2, h3⟩ := h
  by_cases e : d = 2
  · rw [if_pos e]
    refine ⟨by omega, .inr rfl, fun k a b => ?_⟩
    have : k = d := by omega
    rw [this]
    exact hd
  · rw [if_neg e]
    refine ⟨by omega, .inr (by omega), fun k a b => ?_⟩
    by_cases c : k < d
    · exact h3 k a c
    · by_cases c2 : k = d
      · rw [c2]
        exact hd
      · intro z
        exact h3 2 (by omega) (by omega) (mod_of_dvd z (by omega))
theorem nodiv_prime {n d : Int} (h : NoDiv n d) (hd : n % d = 0) : PrP d := by
  refine ⟨h.1, fun k a b z => ?_⟩
  exact h.2.2 k a b (mod_of_dvd hd z)
theorem nodiv_of {n u d : Int} (h : NoDiv n d) (hu : n % u = 0) : NoDiv u d := ⟨h.1, h.2.1, fun k a b z => h.2.2 k a b (mod_of_dvd hu z)⟩
theorem nodiv_lt {n d : Int} (h : NoDiv n d) (hn : 2 ≤ n) : d ≤ n := by
  rcases Int.lt_or_le n d with z | z
  · exact absurd Int.emod_self (h.2.2 n hn z)
  · exact z
/-! factors -/
def prodF : List (Int × Nat) → Int
  | [] => 1
  | q :: l => q.1 ^ q.2 * prodF l
theorem prodF_append : ∀ l m : List (Int × Nat), prodF (l ++ m) = prodF l * prodF m
  | [], m => by
    show prodF m = 1 * prodF m
    rw [Int.one_mul]
  | q :: l, m => by
    show q.1 ^ q.2 * prodF (l ++ m) = q.1 ^ q.2 * prodF l * prodF m
    rw [prodF_append l m, Int.mul_assoc]
def Sorted (l : List (Int × Nat)) : Prop := l.Pairwise fun a b => a.1 < b.1
def Primes (l : List (Int × Nat)) : Prop := ∀ q ∈ l, PrP q.1 ∧ 1 ≤ q.2
def FactOf (n : Int) (l : List (Int × Nat)) : Prop := prodF l = n ∧ Sorted l ∧ Primes l
theorem pow_pos_int {p : Int} (h : 0 < p) (e : Nat) : 0 < p ^ e := Int.pow_pos h
theorem pow_ge {p : Int} (h : 2 ≤ p) : ∀ {e : Nat}, 1 ≤ e → 2 ≤ p ^ e
  | 0, h0 => by omega
  | e + 1, _ => by
    rw [Int.pow_succ]
    have h1 : 0 < p ^ e := pow_pos_int (by omega) e
    have h2 : 1 * 2 ≤ p ^ e * p := Int.mul_le_mul (by omega) h (by omega) (by omega)
    omega
theorem prodF_len : ∀ {l : List (Int × Nat)}, Primes l → (2 : Int) ^ l.length ≤ prodF l
  | [], _ => Int.le_refl _
  | q :: l, h => by
    have ih := prodF_len (l := l) fun r hr => h r (List.mem_cons_of_mem _ hr)
    obtain ⟨hp, he⟩ := h q List.mem_cons_self
    have h1 : 2 ≤ q.1 ^ q.2 := pow_ge hp.1 he
    show (2 : Int) ^ (l.length + 1) ≤ q.1 ^ q.2 * prodF l
    rw [Int.pow_succ, Int.mul_comm]
    have h0 : (0 : Int) < 2 ^ l.length := pow_pos_int (by omega) _
    exact Int.mul_le_mul h1 ih (by omega) (by omega)
theorem len_of_prod {l : List (Int × Nat)} (h : Primes l) (hb : prodF l ≤ 1000000000) : l.length < 30 := by
  have h1 := prodF_len h
  rcases Nat.lt_or_ge l.length 30 with z | z
  · exact z
  · have e : l.length = 30 + (l.length - 30) := by omega
    have h3 : (2 : Int) ^ 30 = 1073741824 := by decide
    have h4 : (0 : Int) < 2 ^ (l.length - 30) := pow_pos_int (by omega) _
    rw [e, Int.pow_add, h3] at h1
    omega
end Sf

namespace Sf
open PySem PySem.Spec PyProof.Rows L2
/-- what the module's names hold -/
structure Glob (mg : Str → Option Value) : Prop where
  m_isinstance : mg "isinstance" = none
  m_int : mg "int" = none
  m_bool : mg "bool" = none
  m_abs : mg "abs" = none
  m_tuple : mg "tuple" = none
  m_all : mg "all" = none
  m_len : mg "len" = none
  m_str : mg "str" = none
  m_range : mg "range" = none
  m_divmod : mg "divmod" = none
  m_max : mg "max" = none
  m_sorted : mg "sorted" = none
  m_set : mg "set" = none
  m_min : mg "min" = none
  m_gcd : mg "gcd" = some (.builtin "math.gcd")
  m_isqrt : mg "isqrt" = some (.builtin "math.isqrt")
  m_TOO_LONG : ∃ t, mg "TOO_LONG" = some (.int 1000000000000000000000000000000000000000000000000000000000000 t)
  m_MAX_NUMBER : ∃ t, mg "MAX_NUMBER" = some (.int 1000000000 t)
  m_MAX_PRODUCT : ∃ t, mg "MAX_PRODUCT" = some (.int 120 t)
  m_MAX_TRACE : ∃ t, mg "MAX_TRACE" = some (.int 1000 t)
  m_MAX_MANY : ∃ t, mg "MAX_MANY" = some (.int 200 t)
/-- what isinstance(x, int) and not isinstance(x, bool) comes to -/
def IntB (K : PySem.W.Frag) (H : Hp) (x : V) (b : Bool) : Prop := ∃ (t : String) (bi bb : Bool), TyX K H x (.type t) ∧ kitB t "int" = some bi ∧ kitB t "bool" = some bb ∧ b = (bi && !bb)
theorem IntB.int {K : PySem.W.Frag} {H : Hp} (i : Int) : IntB K H (.int i) true := ⟨"int", true, false, .base (.int i), by decide +kernel, by decide +kernel, rfl⟩
theorem IntB.bl {K : PySem.W.Frag} {H : Hp} (i : Bool) : IntB K H (.bl i) false := ⟨"bool", true, true, .base (.bl i), by decide +kernel, by decide +kernel, rfl⟩
theorem IntB.non {K : PySem.W.Frag} {H : Hp} : IntB K H .non false := ⟨"NoneType", false, false, .base .non, by decide +kernel, by decide +kernel, rfl⟩
theorem IntB.str {K : PySem.W.Frag} {H : Hp} (x : Str) : IntB K H (.str x) false := ⟨"str", false, false, .base (.str x), by decide +kernel, by decide +kernel, rfl⟩
theorem IntB.lst {K : PySem.W.Frag} {H : Hp} {a : Addr} {xs : List V} (h : H a = some (.lst xs)) : IntB K H (.ref a) false := ⟨"list", false, false, .base (.lst h), by decide +kernel, by decide +kernel, rfl⟩
theorem IntB.tup {K : PySem.W.Frag} {H : Hp} {a : Addr} {xs : List V} (h : H a = some (.tup xs)) : IntB K H (.ref a) false := ⟨"tuple", false, false, .base (.tup h), by decide +kernel, by decide +kernel, rfl⟩
theorem IntB.dK {K : PySem.W.Frag} {H : Hp} {a : Addr} {xs : List (Key × V)} (h : H a = some (.dK xs)) : IntB K H (.ref a) false := ⟨"dict", false, false, .base (.dK h), by decide +kernel, by decide +kernel, rfl⟩
end Sf

namespace Sf
open PySem PySem.Spec PyProof.Rows L2
section
variable {P : Program} {w : World} {K : PySem.W.Frag} {mg : Str → Option Value} {base : Heap} {f : Addr} {fd : FuncData}
def spIsInt (K : PySem.W.Frag) : Sp := fun vs H Q _ => ∃ (x : V) (b : Bool), vs = [x] ∧ IntB K H x b ∧ Q (.bl b) H
theorem ok_is_integer (F : FnD K "is_integer" "is_integer" s_P_is_integer f fd) (T : Glob mg) : FnOk P w K mg base CX0 1 f fd ["value"] (spIsInt K) := by
  refine F.ok sc_P_is_integer (fun vs H Q E h => ?_) (fun cdv A outer s H vs Q E hr h => ?_)
  · obtain ⟨x, b, rfl, _⟩ := h; rfl
  · obtain ⟨x, b, rfl, ⟨t, bi, bb, ty, h1, h2, rfl⟩, q⟩ := h
    refine ⟨_, PSs.nox (pss_one (ps_ret (pe_and (pe_callB call_isi (by rfl) T.m_isinstance (by decide +kernel) (pa_cons (pv 0) (pa_cons (pe_bltn (v := .ty "int") (u := .type "int") (by rfl) T.m_int (by decide +kernel) rfl) pa_nil))) (pe_one (pe_not (pe_callB call_isi (by rfl) T.m_isinstance (by decide +kernel) (pa_cons (pv 0) (pa_cons (pe_bltn (v := .ty "bool") (u := .type "bool") (by rfl) T.m_bool (by decide +kernel) rfl) pa_nil)))))))), ?_⟩
    refine ⟨_, rfl, _, _, _, _, _, rfl, .ty "int", ty, kit_ty h1, _, rfl, ifb (fun e => ?_) (fun e => ?_)⟩
    · refine ⟨_, rfl, _, _, _, _, _, rfl, .ty "bool", ty, kit_ty h2, _, rfl, ?_⟩
      rw [e] at q
      exact q
    · rw [e] at q
      exact q
end
end Sf

namespace Sf
open PySem PySem.Spec PyProof.Rows L2
section
variable {P : Program} {w : World} {K : PySem.W.Frag} {mg : Str → Option Value} {base : Heap} {f : Addr} {fd : FuncData}
def spIsPrime (K : PySem.W.Frag) : Sp := fun vs H Q _ => ∃ (x : V) (b : Bool), vs = [x] ∧ IntB K H x b ∧ (b = true → ∃ n, x = .int n) ∧ ∀ r : Bool, (r = true ↔ ∃ n, x = .int n ∧ PrP n ∧ n ≤ 1000000000) → Q (.bl r) H
theorem ok_is_prime (F : FnD K "is_prime" "is_prime" s_P_is_prime f fd) (T : Glob mg) (C_P_is_integer : Cal P w K mg base 1 "is_integer" ["value"] (spIsInt K)) (C_P_next_divisor : Cal P w K mg base 1 "next_divisor" ["divisor"] spNext) :
    FnOk P w K mg base CX0 2 f fd ["value"] (spIsPrime K) := by
  refine F.ok sc_P_is_prime (fun vs H Q E h => ?_) (fun cdv A outer s H vs Q E hr h => ?_)
  · obtain ⟨x, b, rfl, _⟩ := h; rfl
  · obtain ⟨x, b, rfl, hx, hi, q⟩ := h
    obtain ⟨tM, hc_MAX_NUMBER⟩ := T.m_MAX_NUMBER
    refine ⟨_, PSs.nox (pss_cons (ps_if (PW.pt (pw_or (pt_not (pt_val (pe_cal C_P_is_integer (hr.mono (by decide)) (pa_cons (pv 0) pa_nil)))) (pw_or (pt_cmp (pc_lt (pv 0) pe_int)) (pw_or1 (pt_cmp (pc_gt (pv 0) (pe_glob (v := .int 1000000000) rfl hc_MAX_NUMBER ⟨_, rfl⟩))))))) (pss_one (ps_ret pe_bl)) pss_nil)
      (pss_cons (ps_set (i := 1) sc_P_is_prime.nd rfl (Or.inl rfl) pe_int)
      (pss_cons (ps_while PassesOwn.never (pt_cmp (pc_le (pe_op op_mulW (pv 1) (pv 1)) (pv 0))) (pss_cons (ps_if (pt_cmp (pc_eqI (pe_op op_mod (pv 0) (pv 1)) pe_int)) (pss_one (ps_ret pe_bl)) pss_nil)
      (pss_one (ps_set (i := 1) sc_P_is_prime.nd rfl (Or.inl rfl) (pe_cal C_P_next_divisor (hr.mono (by decide)) (pa_cons (pv 1) pa_nil))))))
      (pss_one (ps_ret pe_bl))))), ?_⟩
    refine ⟨_, rfl, x, b, rfl, hx, _, rfl, ?_⟩
    cases b with
    | false =>
      refine iteT (q false ⟨fun z => Bool.noConfusion z, fun ⟨n, e, _⟩ => ?_⟩)
      subst e
      obtain ⟨t, bi, bb, ty, k1, k2, k3⟩ := hx
      cases ty with
      | base ty => cases ty with
        | int _ =>
          have e1 : kitB "int" "int" = some true := by decide +kernel
          have e2 : kitB "int" "bool" = some false := by decide +kernel
          rw [e1] at k1
          rw [e2] at k2
          cases k1
          cases k2
          cases k3
    | true =>
      obtain ⟨n, rfl⟩ := hi rfl
      have qf : ¬ (PrP n ∧ n ≤ 1000000000) → Q (.bl false) H := fun hn => q false ⟨fun z => Bool.noConfusion z, fun ⟨m, e, h⟩ => by
        cases e
        exact absurd h hn⟩
      refine iteF ⟨_, rfl, _, _, rfl, rfl, _, rfl, ifd (fun e => qf fun z => ?_) (fun e => ⟨_, rfl, _, _, rfl, rfl, _, rfl, ifd (fun e2 => qf fun z => ?_) (fun e2 => ?_)⟩)⟩
      · have := z.1.1
        omega
      · have := z.2
        omega
      · refine ⟨fun c σ H' => H' = H ∧ ∃ d : Int, σ = [some (.int n), some (.int d)] ∧ NoDiv n d ∧ d ≤ n + 2 ∧ c = (n + 2 - d).toNat, ⟨_, rfl, 2, rfl, nodiv2 n, by omega, rfl⟩, ?_⟩
        rintro c σ _ ⟨rfl, d, rfl, hd, hdn, rfl⟩
        have hd2 := hd.1
        have hdb : d.natAbs < 2 ^ 3000 := Nat.lt_trans (by omega : d.natAbs < 2 ^ 31) (by decide +kernel)
        refine ⟨_, rfl, _, rfl, _, _, rfl, rfl, CMulW.of hdb hdb, _, rfl, _, _, rfl, rfl, _, rfl, ifd (fun h => ⟨_, fun _ _ z => z, ?_⟩) (fun h => ?_)⟩
        · refine ⟨_, rfl, _, rfl, _, _, rfl, rfl, (by omega), _, _, rfl, rfl, _, rfl, ifd (fun h2 => ?_) (fun h2 => ?_)⟩
          · refine qf fun z => ?_
            have h3 : d < n := by
              have : d * 2 ≤ d * d := Int.mul_le_mul_of_nonneg_left hd2 (by omega)
              omega
            exact z.1.2 d hd2 h3 h2
          · refine ⟨_, rfl, d, rfl, ?_⟩
            have hlt : d ≤ n := by
              have : d * 1 ≤ d * d := Int.mul_le_mul_of_nonneg_left (by omega) (by omega)
              omega
            have hnx := nodiv_next hd h2
            refine ⟨_, ?_, rfl, _, rfl, hnx, ?_, rfl⟩
            · split <;> omega
            · split <;> omega
        · refine q true ⟨fun _ => ⟨n, rfl, prp_of_trial (by omega) hd2 hd.2.2 (by omega), by omega⟩, fun _ => rfl⟩
end
end Sf

namespace Sf
open PySem PySem.Spec PyProof.Rows L2
section
variable {P : Program} {w : World} {K : PySem.W.Frag} {mg : Str → Option Value} {base : Heap} {f : Addr} {fd : FuncData}
/-- the residue sign by a power -/
def restSign (n p : Int) : Int := if n % p = 0 then 0 else if p = 2 then (if n % 8 = 1 ∨ n % 8 = 7 then 1 else -1) else if n ^ ((p - 1) / 2).toNat % p = 1 then 1 else -1
def spRestSign : Sp := fun vs H Q _ => ∃ n p : Int, vs = [.int n, .int p] ∧ 2 ≤ p ∧ p.natAbs < 2 ^ 1000 ∧ ∀ H', Same H H' → Q (.int (restSign n p)) H'
theorem ok_rest_sign (F : FnD K "rest_sign" "rest_sign" s_P_rest_sign f fd) (C_P_power_modulo : Cal P w K mg base 1 "power_modulo" ["number", "many", "modulus"] spPowMod) : FnOk P w K mg base CX0 2 f fd ["number", "prime"] spRestSign := by
  refine F.ok sc_P_rest_sign (fun vs H Q E h => ?_) (fun cdv A outer s H vs Q E hr h => ?_)
  · obtain ⟨n, p, rfl, _⟩ := h; rfl
  · obtain ⟨n, p, rfl, hp, hb, q⟩ := h
    refine ⟨_, PSs.nox (pss_cons (ps_if (pt_cmp (pc_eqI (pe_op op_mod (pv 0) (pv 1)) pe_int)) (pss_one (ps_ret pe_int)) pss_nil)
      (pss_cons (ps_if (pt_cmp (pc_eqI (pv 1) pe_int)) (pss_one (ps_ret (pe_ifExp (pt_cmpR op_in_seq (pe_op op_mod (pv 0) pe_int) (pe_tup (pa_cons pe_int (pa_cons pe_int pa_nil))) (by rfl)) pe_int (pe_un un_neg pe_int)))) pss_nil)
      (pss_one (ps_ret (pe_ifExp (pt_cmp (pc_eqI (pe_cal C_P_power_modulo (hr.mono (by decide)) (pa_cons (pv 0) (pa_cons (pe_op op_fdivW (pe_op op_sub (pv 1) pe_int) pe_int) (pa_cons (pv 1) pa_nil)))) pe_int)) pe_int (pe_un un_neg pe_int)))))), ?_⟩
    unfold restSign at q
    refine ⟨_, rfl, _, rfl, _, _, rfl, rfl, (by omega), _, _, rfl, rfl, _, rfl, ifd (fun h => ?_) (fun h => ?_)⟩
    · rw [if_pos h] at q
      exact q H (Same.refl H)
    · rw [if_neg h] at q
      refine ⟨_, rfl, _, _, rfl, rfl, _, rfl, ifd (fun h2 => ?_) (fun h2 => ?_)⟩
      · rw [if_pos h2] at q
        refine ⟨_, rfl, _, _, rfl, rfl, (by show (0 : Int) < 8; decide), (by show 2 ≤ sizeLine; decide), fun a ha => ?_⟩
        refine ⟨a, _, rfl, .inr (.inl (.inl upd_same)), rfl, rfl, _, rfl, ?_⟩
        rw [inV_two]
        refine ifd (fun e => ?_) (fun e => ?_)
        · rw [if_pos e] at q
          exact q _ (same_upd ha)
        · rw [if_neg e] at q
          exact ⟨_, rfl, q _ (same_upd ha)⟩
      · rw [if_neg h2] at q
        refine ⟨_, rfl, _, rfl, _, _, rfl, rfl, _, _, rfl, rfl, CDivW.of (by decide) (by decide +kernel), _, rfl, n, (p - 1) / 2, p, rfl, by omega, by omega, hb, _, _, rfl, rfl, _, rfl, ifd (fun h3 => ?_) (fun h3 => ?_)⟩
        · rw [if_pos h3] at q
          exact q H (Same.refl H)
        · rw [if_neg h3] at q
          exact ⟨_, rfl, q H (Same.refl H)⟩
end
end Sf

namespace Sf
open PySem PySem.Spec PyProof.Rows L2
/-- the sack of draws: three numbers, so many draws made -/
def SackO (n : Nat) (xs : List V) : Prop := ∃ a b c : Int, xs = [.int a, .int b, .int c] ∧ 0 ≤ a ∧ a < 10 ^ 400 ∧ 0 ≤ b ∧ b < 1000000000000000000000000 ∧ 0 ≤ c ∧ c ≤ n
theorem sq_upd {K : PySem.W.Frag} {H : Hp} {a p : Addr} {xs : List V} {o : HO} (h : SqL K H a xs) (n : a ≠ p) : SqL K (upd H p o) a xs := by
  rcases h with (h | ⟨u, h⟩) | h
  · exact .inl (.inl (by rw [upd_ne n]; exact h))
  · exact .inl (.inr ⟨u, by rw [upd_ne n]; exact h⟩)
  · exact .inr h
end Sf

namespace Sf
open PySem PySem.Spec PyProof.Rows L2
/-- all but the thing at p stays -/
def Keep (p : Addr) (H H' : Hp) : Prop := ∀ b o, H b = some o → b ≠ p → H' b = some o
theorem Keep.refl (p : Addr) (H : Hp) : Keep p H H := fun _ _ h _ => h
theorem Keep.trans {p : Addr} {H H1 H2 : Hp} (a : Keep p H H1) (b : Keep p H1 H2) : Keep p H H2 := fun c o h n => b c o (a c o h n) n
theorem Keep.same {p : Addr} {H H' : Hp} (s : Same H H') : Keep p H H' := fun c o h _ => s c o h
theorem Keep.upd {p : Addr} {H : Hp} {o : HO} : Keep p H (upd H p o) := fun c u h n => by rw [upd_ne n]; exact h
theorem Keep.new {p q : Addr} {H : Hp} {o : HO} (h : H q = none) : Keep p H (L2.upd H q o) := Keep.same (same_upd h)
/-- the sack stands at p, n draws made at most -/
def Sk (p : Addr) (n : Nat) (H : Hp) : Prop := ∃ xs, H p = some (.lst xs) ∧ SackO n xs
theorem SackO.mono {n m : Nat} {xs : List V} (h : SackO n xs) (l : n ≤ m) : SackO m xs := by
  obtain ⟨a, b, c, e, h1, h2, h3, h4, h5, h6⟩ := h
  exact ⟨a, b, c, e, h1, h2, h3, h4, h5, by omega⟩
theorem Sk.mono {p : Addr} {n m : Nat} {H : Hp} (h : Sk p n H) (l : n ≤ m) : Sk p m H := let ⟨xs, a, b⟩ := h; ⟨xs, a, b.mono l⟩
theorem Sk.same {p : Addr} {n : Nat} {H H' : Hp} (h : Sk p n H) (s : Same H H') : Sk p n H' := let ⟨xs, a, b⟩ := h; ⟨xs, s _ _ a, b⟩
theorem Sk.ne {p q : Addr} {n : Nat} {H : Hp} (h : Sk p n H) (hq : H q = none) : p ≠ q := let ⟨_, a, _⟩ := h; ne_of_none a hq
theorem Keep.free {p q : Addr} {n : Nat} {H H' : Hp} (k : Keep p H H') (s : Sk p n H') (h : H' q = none) : H q = none := by
  cases e : H q with
  | none => rfl
  | some o =>
    have n : q ≠ p := fun z => by
      obtain ⟨_, a, _⟩ := s
      rw [z, a] at h
      cases h
    rw [k q o e n] at h
    cases h
end Sf

namespace Sf
open PySem PySem.Spec PyProof.Rows L2
/-! lists and tuples of ints as data -/
theorem lay_ints : ∀ ns : List Int, PyData.canLayAll0 (ns.map PyData.int) = true ∧ PyData.depthAll (ns.map PyData.int) = 0
  | [] => ⟨rfl, rfl⟩
  | n :: ns => by
    obtain ⟨h1, h2⟩ := lay_ints ns
    refine ⟨?_, ?_⟩
    · show (true && PyData.canLayAll0 (ns.map PyData.int)) = true
      rw [h1]
      rfl
    · show max 0 (PyData.depthAll (ns.map PyData.int)) = 0
      rw [h2]
      rfl
theorem shp_list (ns : List Int) : SeqAt.shaped (.list (ns.map PyData.int)) = true := by
  obtain ⟨h1, h2⟩ := lay_ints ns
  show (PyData.canLayAll0 (ns.map PyData.int) && decide (PyData.depthAll (ns.map PyData.int) + 1 ≤ 64)) = true
  rw [h1, h2]
  rfl
theorem shp_tup (ns : List Int) : SeqAt.shaped (.tuple (ns.map PyData.int)) = true := by
  obtain ⟨h1, h2⟩ := lay_ints ns
  show (PyData.canLayAll0 (ns.map PyData.int) && decide (PyData.depthAll (ns.map PyData.int) + 1 ≤ 64)) = true
  rw [h1, h2]
  rfl
theorem eqv_ints : ∀ a b : List Int, PyData.eqvAll (a.map PyData.int) (b.map PyData.int) = decide (a = b)
  | [], [] => rfl
  | [], _ :: _ => rfl
  | _ :: _, [] => rfl
  | x :: a, y :: b => by
    show ((x == y) && PyData.eqvAll (a.map PyData.int) (b.map PyData.int)) = _
    rw [eqv_ints a b, Bool.eq_iff_iff]
    simp only [Bool.and_eq_true, beq_iff_eq, decide_eq_true_eq, List.cons.injEq]
theorem dpAll_ints (K : PySem.W.Frag) (H : Hp) : ∀ ns : List Int, DpAll K H (ns.map V.int) (ns.map PyData.int)
  | [] => .nil
  | n :: ns => .cons (.int n) (dpAll_ints K H ns)
theorem dp_list {K : PySem.W.Frag} {H : Hp} {a : Addr} {ns : List Int} (h : SqL K H a (ns.map V.int)) : Dp K H (.ref a) (.list (ns.map PyData.int)) := .lst h (dpAll_ints K H ns)
theorem dp_tup {K : PySem.W.Frag} {H : Hp} {a : Addr} {ns : List Int} (h : SqT K H a (ns.map V.int)) : Dp K H (.ref a) (.tuple (ns.map PyData.int)) := .tup h (dpAll_ints K H ns)
end Sf

namespace Sf
open PySem PySem.Spec PyProof.Rows L2
section
variable {X : Cx} {CX : CXT} {n : Nat} {f C : Addr} {fd : FuncData} {ps : List Str} {sp : Sp} {E : XK} {op : Operator}
/-- no value of ours stands for "not implemented" -/
theorem cmpBack {v : V} {u : Value} {s : Shared} {Q : Value → Shared → Prop} (r : RelV v u) (q : Q u s) : PySem.W.CmpBack Q u s := by
  cases v with
  | non => cases (show u = Value.none from r); exact q
  | bl b => cases (show u = Value.bool b from r); exact q
  | int i => obtain ⟨t, rfl⟩ := (show ∃ t, u = Value.int i t from r); exact q
  | str x => obtain ⟨t, rfl⟩ := (show ∃ t, u = Value.str x t from r); exact q
  | byt b => obtain ⟨t, rfl⟩ := (show ∃ t, u = Value.bytes b t from r); exact q
  | flt b => obtain ⟨t, rfl⟩ := (show ∃ t, u = Value.float b t from r); exact q
  | ref a => cases (show u = Value.ref a from r); exact q
  | ty t => cases (show u = Value.type t from r); exact q
/-- an instance of the class at C -/
def Ins (H : Hp) (a C : Addr) : Prop := ∃ dx fs, H a = some (.ins C dx fs)
theorem ins_inst {pins : List (Addr × Obj)} {σ : L2.St} {H : Hp} {s : Shared} {a : Addr} (I : Inv X pins σ H s) (h : Ins H a C) : ∃ (ox : Obj) (od : Obj), PySem.W.InstAt s.heap a ox C (some od) := by
  obtain ⟨dx, fs, ea⟩ := h
  obtain ⟨mA, O, _⟩ := ins_get I.hok ea
  obtain ⟨od, J, _⟩ := O.look
  exact ⟨_, od, J⟩
/-- x op y, both of one own class that says what op is -/
def rOwn (C : Addr) (sp : Sp) (E : XK) : R2 := fun x y H Q => ∃ a b, x = .ref a ∧ y = .ref b ∧ Ins H a C ∧ Ins H b C ∧ sp [.ref a, .ref b] H Q E
theorem op_own (M : Meth X.K C (PySem.dunder op.info.2) f) (F : FnOk X.prog X.w X.K X.mg X.base CX n f fd ps sp) (hr : Room n X.A) (hb : Binds X.K fd ps []) (hx : Passes CX X E) (hc : PySem.W.selfFirst X.K C = true) : OpR X (binaryOp op) (rOwn C sp E) := by
  intro pins s σ H x y v u Q I rx ry h
  obtain ⟨a, b, rfl, rfl, ha, hb', q⟩ := h
  cases (show v = Value.ref a from rx)
  cases (show u = Value.ref b from ry)
  obtain ⟨ox, od, J⟩ := ins_inst I ha
  obtain ⟨oy, oe, J'⟩ := ins_inst I hb'
  obtain ⟨m, hF⟩ := I.fr
  refine PySem.W.binop_K hF I.ok.mod.kin J J'.type hc M.at_ M.fn (wpAny_mono (run_fn (us := [.ref a, .ref b]) (vs := [.ref a, .ref b]) F hr hb .nil hx I (.cons rfl (.cons rfl .nil)) q) (fun w s' h => ?_) fun _ _ z => z)
  obtain ⟨z, H', I', rz, qz⟩ := id h
  exact cmpBack rz h
/-- x op n, n an int -/
def rOwnI (C : Addr) (sp : Sp) (E : XK) : R2 := fun x y H Q => ∃ a i, x = .ref a ∧ y = .int i ∧ Ins H a C ∧ sp [.ref a, .int i] H Q E
theorem op_ownI {fo ro : Option Value} (M : Meth X.K C (PySem.dunder op.info.2) f) (F : FnOk X.prog X.w X.K X.mg X.base CX n f fd ps sp) (hr : Room n X.A) (hb : Binds X.K fd ps []) (hx : Passes CX X E) (hc : PySem.W.selfFirst X.K C = true)
    (nr : NoAttr X.K C (dunderR op.info.2)) (hsub : PySem.W.subIn X.K (.type "int") (.ref C) = some false) (h1 : PySem.W.findIn X.K (.type "int") (PySem.dunder op.info.2) = some fo) (h2 : PySem.W.findIn X.K (.type "int") (dunderR op.info.2) = some ro) :
    OpR X (binaryOp op) (rOwnI C sp E) := by
  intro pins s σ H x y v u Q I rx ry h
  obtain ⟨a, i, rfl, rfl, ha, q⟩ := h
  cases (show v = Value.ref a from rx)
  obtain ⟨t, rfl⟩ := (show ∃ t, u = Value.int i t from ry)
  obtain ⟨ox, od, J⟩ := ins_inst I ha
  obtain ⟨m, hF⟩ := I.fr
  refine PySem.W.ksp_binT (T := "int") hF I.ok.mod.kin J rfl hc M.at_ M.fn nr (.inl rfl) h1 h2 hsub (wpAny_mono (run_fn (us := [.ref a, .int i t]) (vs := [.ref a, .int i]) F hr hb .nil hx I (.cons rfl (.cons ⟨t, rfl⟩ .nil)) q) (fun w s' h => ?_) fun _ _ z => z)
  obtain ⟨z, H', I', rz, qz⟩ := id h
  exact cmpBack rz h
/-- -x -/
def rOwn1 (C : Addr) (sp : Sp) (E : XK) : V → Hp → VK → Prop := fun x H Q => ∃ a, x = .ref a ∧ Ins H a C ∧ sp [.ref a] H Q E
theorem un_own (M : Meth X.K C "__neg__" f) (F : FnOk X.prog X.w X.K X.mg X.base CX n f fd ps sp) (hr : Room n X.A) (hb : Binds X.K fd ps []) (hx : Passes CX X E) : UnR X (unaryOp .USub) (rOwn1 C sp E) := by
  intro pins s σ H x v Q I rx h
  obtain ⟨a, rfl, ha, q⟩ := h
  cases (show v = Value.ref a from rx)
  obtain ⟨ox, od, J⟩ := ins_inst I ha
  obtain ⟨m, hF⟩ := I.fr
  exact PySem.W.ksp_neg hF I.ok.mod.kin J M.at_ M.fn (run_fn (us := [.ref a]) (vs := [.ref a]) F hr hb .nil hx I (.cons rfl .nil) q)
/-- the truth of an own object -/
theorem tru_own (M : Meth X.K C "__bool__" f) (F : FnOk X.prog X.w X.K X.mg X.base CX n f fd ps sp) (hr : Room n X.A) (hb : Binds X.K fd ps []) (hx : Passes CX X E) :
    TruR X (fun x H Q => ∃ a, x = .ref a ∧ Ins H a C ∧ sp [.ref a] H (fun v H' => ∃ k, v = .bl k ∧ Q k H') E) := by
  intro pins s σ H x v Q I rx h
  obtain ⟨a, rfl, ha, q⟩ := h
  cases (show v = Value.ref a from rx)
  obtain ⟨ox, od, J⟩ := ins_inst I ha
  obtain ⟨m, hF⟩ := I.fr
  refine PySem.W.truthy_K hF I.ok.mod.kin J M.at_ M.fn (wpAny_mono (run_fn (us := [.ref a]) (vs := [.ref a]) F hr hb .nil hx I (.cons rfl .nil) q) (fun w s' h => ?_) fun _ _ z => z)
  obtain ⟨z, H', I', rz, k, rfl, qz⟩ := h
  cases (show w = Value.bool k from rz)
  exact ⟨H', I', qz⟩
/-- x == y by an own __eq__, y of the same class -/
theorem eq_own (M : Meth X.K C "__eq__" f) (F : FnOk X.prog X.w X.K X.mg X.base CX n f fd ps sp) (hr : Room n X.A) (hb : Binds X.K fd ps []) (hx : Passes CX X E) : OpR X (compareOp .Eq) (rOwn C sp E) := by
  intro pins s σ H x y v u Q I rx ry h
  obtain ⟨a, b, rfl, rfl, ha, hb', q⟩ := h
  cases (show v = Value.ref a from rx)
  cases (show u = Value.ref b from ry)
  obtain ⟨ox, od, J⟩ := ins_inst I ha
  obtain ⟨oy, oe, J'⟩ := ins_inst I hb'
  obtain ⟨m, hF⟩ := I.fr
  show wpAny (model X.prog X.w) X.A (richCompare .Eq _ _) (EP X pins σ Q) X.xe s
  refine PySem.W.cmp_K (op := .Eq) (tb := .ref C) hr.units0 hF I.ok.mod.kin J J'.type (by simp [PySem.W.notFirst]) M.at_ M.fn (wpAny_mono (run_fn (us := [.ref a, .ref b]) (vs := [.ref a, .ref b]) F hr hb .nil hx I (.cons rfl (.cons rfl .nil)) q) (fun w s' h => ?_) fun _ _ z => z)
  obtain ⟨z, H', I', rz, qz⟩ := id h
  exact cmpBack rz h
/-- x == n by an own __eq__, n an int -/
theorem eq_ownI (M : Meth X.K C "__eq__" f) (F : FnOk X.prog X.w X.K X.mg X.base CX n f fd ps sp) (hr : Room n X.A) (hb : Binds X.K fd ps []) (hx : Passes CX X E) (hsub : PySem.W.subIn X.K (.type "int") (.ref C) = some false) : OpR X (compareOp .Eq) (rOwnI C sp E) := by
  intro pins s σ H x y v u Q I rx ry h
  obtain ⟨a, i, rfl, rfl, ha, q⟩ := h
  cases (show v = Value.ref a from rx)
  obtain ⟨t, rfl⟩ := (show ∃ t, u = Value.int i t from ry)
  obtain ⟨ox, od, J⟩ := ins_inst I ha
  obtain ⟨m, hF⟩ := I.fr
  show wpAny (model X.prog X.w) X.A (richCompare .Eq _ _) (EP X pins σ Q) X.xe s
  refine PySem.W.cmp_K (op := .Eq) (tb := .type "int") hr.units0 hF I.ok.mod.kin J (PySem.W.Looks.of_pure rfl) (by unfold PySem.W.notFirst; rw [hsub]; simp) M.at_ M.fn (wpAny_mono (run_fn (us := [.ref a, .int i t]) (vs := [.ref a, .int i]) F hr hb .nil hx I (.cons rfl (.cons ⟨t, rfl⟩ .nil)) q) (fun w s' h => ?_) fun _ _ z => z)
  obtain ⟨z, H', I', rz, qz⟩ := id h
  exact cmpBack rz h
/-- a def called somewhere below the running body -/
theorem run_sub {A : Around} {pins : List (Addr × Obj)} {σ : L2.St} {H : Hp} {s : Shared} {Q : VK} {us : List Value} {vs : List V} (F : FnOk X.prog X.w X.K X.mg X.base CX n f fd ps sp) (sb : Sub X n A) (hb : Binds X.K fd ps []) (hx : Passes CX X E)
    (I : Inv X pins σ H s) (r : Vals vs us) (h : sp vs H Q E) : wpAny (model X.prog X.w) A (call (.ref f) us) (EP X pins σ Q) X.xe s := by
  have e0 : Env0 X.prog X.w X.K X.mg X.base A X.stack s H := by
    have e := I.env0
    exact ⟨by rw [sb.fr]; exact e.frames, e.mod, e.bs, e.bsz, e.funs, e.frf, e.hok, e.bare⟩
  have hl : us.length = ps.length := by rw [← r.length]; exact F.len _ _ _ _ h
  refine wpAny_call (codeAny_mono (F.run A X.stack s H ⟨us, []⟩ us vs Q E sb.room e0 (by
    have := hb s us I.kIn (by rw [List.append_nil]; exact hl)
    rw [List.append_nil] at this
    exact this) r h) fun r s' hq => ?_)
  cases r with
  | error e => exact hx pins σ H s e s' I hq
  | ok fl =>
    cases fl with
    | ret u => exact I.after hq
    | next => exact False.elim hq
    | brk => exact False.elim hq
    | cont => exact False.elim hq
section
variable {K : PySem.W.Frag} {s : Shared} {x : Addr} {ox : Obj} {od : Option Obj} {name : Str} {id : String} {A : Around} {Ee : Value → Shared → Prop}
theorem ifBound_B {M : Model} {args : List Value} {Q : Option Value → Shared → Prop} (Y : K.In s.heap) (I : PySem.W.InstAt s.heap x ox C od) (hs : PySem.W.findIn K (.ref C) name = some (some (.builtin id)))
    (hb : ∀ self, bindSpecial (.builtin id) self = pure (.builtin id, [self])) (h : wpAny M A (call (.builtin id) (.ref x :: args)) (fun v => Q (some v)) Ee s) : wpAny M A (callSpecialIfBound? (.ref x) name args) Q Ee s := by
  simp only [callSpecialIfBound?, bindSpecialIfBound?]
  refine wpAny_holding (wpAny_bind (wpAny_bind (wpAny_bind (I.type.here ((PySem.W.looks_findIn Y hs).here ?_)))))
  have z : wpAny M A (call (.builtin id) ([.ref x] ++ args) >>= fun v => pure (some v)) Q Ee s := wpAny_bind (wpAny_mono h (fun _ _ w => wpAny_pure w) fun _ _ w => w)
  refine wpAny_bind (wpAny_askSetting (wpAny_ite ?_))
  split
  · exact wpAny_bind ((PySem.W.Looks.of_pure (hb _)).here (wpAny_pure (by exact z)))
  · exact wpAny_tryCatch (wpAny_bind ((PySem.W.Looks.of_pure (hb _)).here (wpAny_pure (by exact z))))
end
/-- x != y: object.__ne__ asks the own __eq__ -/
theorem ne_own_core {a : Addr} {b : V} {bu tb : Value} {pins : List (Addr × Obj)} {σ : L2.St} {H : Hp} {s : Shared} {Q : VK} (M : Meth X.K C "__eq__" f) (F : FnOk X.prog X.w X.K X.mg X.base CX n f fd ps sp) (hr : Room (n + 1) X.A) (hb : Binds X.K fd ps []) (hx : Passes CX X E)
    (hn : PySem.W.findIn X.K (.ref C) "__ne__" = some (some (.builtin "object.__ne__"))) (hm : PySem.W.mroIn X.K C (.type "object") = some true) (I : Inv X pins σ H s) (ha : Ins H a C) (rb : RelV b bu)
    (hT : PySem.W.Looks (model X.prog X.w) s.heap (typeOf bu) tb) (hF : PySem.W.notFirst X.K C tb = true)
    (q : sp [.ref a, b] H (fun v H' => ∃ k, v = .bl k ∧ Q (.bl (!k)) H') E) : wpAny (model X.prog X.w) X.A (richCompare .NotEq (.ref a) bu) (EP X pins σ Q) X.xe s := by
  obtain ⟨ox, od, J⟩ := ins_inst I ha
  have Y := I.kIn
  have one : wpAny (model X.prog X.w) X.A (tryCompare (.ref a) "__ne__" bu) (fun r s' => ∃ k : Bool, r = some (Value.bool k) ∧ EP X pins σ Q (.bool k) s') X.xe s := by
    unfold tryCompare
    refine wpAny_bind (ifBound_B Y J hn PySem.F.cmp_object.ne.bind ?_)
    refine wpAny_call (codeAny_call_builtin PySem.F.cmp_object.ne.plain PySem.F.cmpEntry_ne (PySem.W.check_slot (i := "object.__ne__") (owner := "object") (n := "__ne__") PySem.F.cmpKind_ne PySem.F.cmpSplit_ne (J.type.andThen (PySem.W.looks_mroIn Y hm)) (PySem.F.cmpArgs_ne _ _) ?_))
    unfold Builtin.«object.__ne__»
    refine wpAny_bind (m := slotArgs "__ne__" 1 _) (wpAny_pure ?_)
    refine wpAny_bind (m := cRoomFor _ _) (wpAny_cRoomFor hr.in1.units0 ?_)
    refine wpAny_bind (m := callSpecialIfBound? (.ref a) (Str.ofString "__eq__") _) (PySem.W.ifBound_K Y J M.at_ M.fn (wpAny_mono (run_sub (us := [.ref a, bu]) (vs := [.ref a, b]) F (Sub.in1 ⟨hr, rfl⟩) hb hx I (.cons rfl (.cons rb .nil)) q) (fun w s' h => ?_) fun _ _ z => z))
    obtain ⟨z, H', I', rz, k, rfl, qz⟩ := h
    cases (show w = Value.bool k from rz)
    refine wpAny_bind (m := truthy (.bool _)) (wpAny_truthy_bool ?_)
    refine wpAny_pure ?_
    exact wpAny_pure ⟨!k, rfl, .bl (!k), H', I', rfl, qz⟩
  unfold richCompare
  simp only [oneThing_ref]
  refine wpAny_holding (wpAny_bind (wpAny_cRoomFor hr.units0 ?_))
  refine wpAny_bind (J.type.here (wpAny_bind (hT.here ?_)))
  have fin : ∀ (r : Option Value) (s' : Shared), (∃ k : Bool, r = some (Value.bool k) ∧ EP X pins σ Q (.bool k) s') → ∃ v, r = some v ∧ EP X pins σ Q v s' := fun r s' ⟨k, e, h⟩ => ⟨_, e, h⟩
  split
  · rename_i c
    have e : PySem.W.subIn X.K tb (.ref C) = some false := by
      rcases Bool.or_eq_true_iff.mp hF with e | e
      · rw [beq_iff_eq.mp e] at c; simp at c
      · exact beq_iff_eq.mp e
    refine wpAny_bind ((PySem.W.looks_subIn Y e).here ?_)
    simp only [Bool.false_eq_true, if_false]
    refine wpAny_bind (wpAny_mono one (fun r s' z => ?_) fun _ _ e => e)
    obtain ⟨v, rfl, hq⟩ := fin r s' z
    exact wpAny_pure hq
  · refine wpAny_bind (wpAny_pure ?_)
    simp only [Bool.false_eq_true, if_false]
    refine wpAny_bind (wpAny_mono one (fun r s' z => ?_) fun _ _ e => e)
    obtain ⟨v, rfl, hq⟩ := fin r s' z
    exact wpAny_pure hq
/-- x != y, both of one own class -/
def rOwnNe (C : Addr) (sp : Sp) (E : XK) : R2 := fun x y H Q => ∃ a b, x = .ref a ∧ y = .ref b ∧ Ins H a C ∧ Ins H b C ∧ sp [.ref a, .ref b] H (fun v H' => ∃ k, v = .bl k ∧ Q (.bl (!k)) H') E
theorem ne_own (M : Meth X.K C "__eq__" f) (F : FnOk X.prog X.w X.K X.mg X.base CX n f fd ps sp) (hr : Room (n + 1) X.A) (hb : Binds X.K fd ps []) (hx : Passes CX X E)
    (hn : PySem.W.findIn X.K (.ref C) "__ne__" = some (some (.builtin "object.__ne__"))) (hm : PySem.W.mroIn X.K C (.type "object") = some true) : OpR X (compareOp .NotEq) (rOwnNe C sp E) := by
  intro pins s σ H x y v u Q I rx ry h
  obtain ⟨a, b, rfl, rfl, ha, hb', q⟩ := h
  cases (show v = Value.ref a from rx)
  obtain ⟨oy, oe, J'⟩ := ins_inst I hb'
  cases (show u = Value.ref b from ry)
  exact ne_own_core (b := .ref b) M F hr hb hx hn hm I ha rfl J'.type (by simp [PySem.W.notFirst]) q
/-- x != n, n an int -/
def rOwnNeI (C : Addr) (sp : Sp) (E : XK) : R2 := fun x y H Q => ∃ a i, x = .ref a ∧ y = .int i ∧ Ins H a C ∧ sp [.ref a, .int i] H (fun v H' => ∃ k, v = .bl k ∧ Q (.bl (!k)) H') E
theorem ne_ownI (M : Meth X.K C "__eq__" f) (F : FnOk X.prog X.w X.K X.mg X.base CX n f fd ps sp) (hr : Room (n + 1) X.A) (hb : Binds X.K fd ps []) (hx : Passes CX X E)
    (hn : PySem.W.findIn X.K (.ref C) "__ne__" = some (some (.builtin "object.__ne__"))) (hm : PySem.W.mroIn X.K C (.type "object") = some true) (hsub : PySem.W.subIn X.K (.type "int") (.ref C) = some false) : OpR X (compareOp .NotEq) (rOwnNeI C sp E) := by
  intro pins s σ H x y v u Q I rx ry h
  obtain ⟨a, i, rfl, rfl, ha, q⟩ := h
  cases (show v = Value.ref a from rx)
  obtain ⟨t, rfl⟩ := (show ∃ t, u = Value.int i t from ry)
  exact ne_own_core (b := .int i) M F hr hb hx hn hm I ha ⟨t, rfl⟩ (PySem.W.Looks.of_pure rfl) (by unfold PySem.W.notFirst; rw [hsub]; simp) q
/-- bool(x), x of an own class -/
theorem bool_own (M : Meth X.K C "__bool__" f) (F : FnOk X.prog X.w X.K X.mg X.base CX n f fd ps sp) (hr : Room (n + 3) X.A) (hb : Binds X.K fd ps []) (hx : Passes CX X E) :
    CallR X (.type "bool") (fun xs H Q => ∃ a, xs = [.ref a] ∧ Ins H a C ∧ sp [.ref a] H (fun v H' => ∃ k, v = .bl k ∧ Q v H') E) := by
  intro pins s σ H xs us Q I r h
  obtain ⟨a, rfl, ha, q⟩ := h
  rw [Vals.ref1 r]
  obtain ⟨ox, od, J⟩ := ins_inst I ha
  obtain ⟨m, hF⟩ := I.fr
  refine callType_codes (T := "bool") (Bi := Builtin.«object.__init__») (Q₁ := fun r t => ∃ k : Bool, r = .bool k ∧ EP X pins σ Q r t) PySem.F.called_bool (PySem.F.typeCall_bool_1 _) PySem.F.entry_object_init ?_ ?_
  · refine codeAny_of_tree ?_
    show wpAny _ X.A.in1.in1 (checkBuiltinCall "bool.__new__" ⟨[.type "bool", .ref a], []⟩ >>= fun _ => again (.builtin "bool.__new__" ⟨[.type "bool", .ref a], []⟩)) _ _ s
    refine wpAny_bind (wpAny_of_eq (PySem.F.newCall_bool_1 _) (wpAny_pure ⟨plainId_quiet (by decide +kernel) _, codeAny_builtin PySem.F.entry_bool_new ?_⟩))
    rw [Around.under_plainId (by decide +kernel) _]
    have key : wpAny (model X.prog X.w) X.A.in1.in1 (truthy (.ref a)) (fun k t => EP X pins σ Q (.bool k) t) X.xe s := by
      refine PySem.W.truthy_K hF I.ok.mod.kin J M.at_ M.fn (wpAny_mono (run_sub (us := [.ref a]) (vs := [.ref a]) F (Sub.in1 (Sub.in1 ⟨hr.mono (by omega), rfl⟩)) hb hx I (.cons rfl .nil) q) (fun w s' h => ?_) fun _ _ z => z)
      obtain ⟨z, H', I', rz, k, rfl, qz⟩ := h
      cases (show w = Value.bool k from rz)
      exact ⟨.bl k, H', I', rfl, qz⟩
    have f1 := PySem.F.conv_sub_bool
    unfold Builtin.«bool.__new__»
    generalize hTR : truthy = TR at key ⊢
    wp_walk
    refine wpAny_mono key (fun k t h => ?_) fun _ _ z => z
    exact wpAny_pure ⟨k, rfl, h⟩
  · rintro obj t ⟨k, rfl, h⟩
    exact ⟨PySem.typeIs_bool _ _, PySem.F.args_object_init_2 _ _, object_init_meets PySem.F.called_bool.init.lookup PySem.F.called_bool.made (by decide) X.prog X.w X.A.in1 _ t ⟨PySem.typeIs_bool _ _, rfl, h⟩⟩
/-- str(x), x of an own class -/
theorem str_own (M : Meth X.K C "__str__" f) (F : FnOk X.prog X.w X.K X.mg X.base CX n f fd ps sp) (hr : Room (n + 3) X.A) (hb : Binds X.K fd ps []) (hx : Passes CX X E) :
    CallR X (.type "str") (fun xs H Q => ∃ a, xs = [.ref a] ∧ Ins H a C ∧ sp [.ref a] H (fun v H' => ∃ k, v = .str k ∧ Q v H') E) := by
  intro pins s σ H xs us Q I r h
  obtain ⟨a, rfl, ha, q⟩ := h
  rw [Vals.ref1 r]
  obtain ⟨ox, od, J⟩ := ins_inst I ha
  have Y := I.kIn
  refine callType_codes (T := "str") (Bi := Builtin.«object.__init__») (Q₁ := fun r t => ∃ y u, r = .str y u ∧ EP X pins σ Q r t) PySem.F.called_str (PySem.F.typeCall_str_1 _) PySem.F.entry_object_init ?_ ?_
  · refine codeAny_of_tree ?_
    show wpAny _ X.A.in1.in1 (checkBuiltinCall "str.__new__" ⟨[.type "str", .ref a], []⟩ >>= fun _ => again (.builtin "str.__new__" ⟨[.type "str", .ref a], []⟩)) _ _ s
    refine wpAny_bind (wpAny_of_eq (PySem.F.newCall_str_1 _) (wpAny_pure ⟨plainId_quiet (by decide +kernel) _, codeAny_builtin PySem.F.entry_str_new ?_⟩))
    rw [Around.under_plainId (by decide +kernel) _]
    have key : wpAny (model X.prog X.w) X.A.in1.in1 (PySem.Builtin.Str.strOf (.ref a)) (fun v t => ∃ y u, v = Value.str y u ∧ EP X pins σ Q v t) X.xe s := by
      unfold PySem.Builtin.Str.strOf
      rw [show PySem.Builtin.Str.isExactStr (.ref a) = false from rfl]
      refine wpAny_bind (m := cRoomFor _ _) (wpAny_cRoomFor hr.in1.in1.units0 ?_)
      refine wpAny_bind (m := callSpecial? (.ref a) (Str.ofString "__str__")) (PySem.W.special_fn Y J M.at_ (beq_iff_eq.mp M.fn) (wpAny_mono (run_sub (us := [.ref a]) (vs := [.ref a]) F (Sub.in1 (Sub.in1 ⟨hr.mono (by omega), rfl⟩)) hb hx I (.cons rfl .nil) q) (fun w s' h => ?_) fun _ _ z => z))
      obtain ⟨z, H', I', rz, k, rfl, qz⟩ := h
      obtain ⟨u, rfl⟩ := (show ∃ t, w = Value.str k t from rz)
      exact wpAny_pure ⟨k, u, rfl, .str k, H', I', ⟨u, rfl⟩, qz⟩
    have f1 : isSubtype (.type "str") (.type "str") = pure true := isSubtype_str_str
    unfold Builtin.«str.__new__»
    generalize hTR : PySem.Builtin.Str.strOf = TR at key ⊢
    wp_walk
    refine wpAny_mono key (fun v t h => ?_) fun _ _ z => z
    obtain ⟨y, u, rfl, h⟩ := h
    exact wpAny_pure ⟨y, u, rfl, h⟩
  · rintro obj t ⟨y, u, rfl, h⟩
    exact ⟨PySem.typeIs_str _ _ _, PySem.F.args_object_init_2 _ _, object_init_meets PySem.F.called_str.init.lookup PySem.F.called_str.made (by decide) X.prog X.w X.A.in1 _ t ⟨PySem.typeIs_str _ _ _, rfl, h⟩⟩
end
end Sf

namespace Sf
open PySem PySem.Spec PyProof.Rows L2
section
variable {X : Cx} {o : Expr} {f : Str} {pos : Pos} {to : TE}
/-- o.f = .. as a target -/
def gAttr (K : PySem.W.Frag) (to : TE) (f : Str) : TG := fun y σ H Q => to σ H fun x H1 => ∃ a C dx fs, x = .ref a ∧ H1 a = some (.ins C dx fs) ∧ Cls K C ∧ NoAttr K C f ∧ fs.length < 1000 ∧ Q σ (upd H1 a (.ins C dx (putF f y fs)))
theorem pg_attr (ho : PE X o to) : PG X (.Attribute o f pos) (gAttr X.K to f) := by
  refine ⟨fun pins s σ H v u Q I r h => ?_⟩
  rw [arm_assign_Attribute]
  refine wpAny_bind (wpAny_holding (thn (ho.run pins s σ H _ I h) fun ov s1 ⟨x, H1, I1, r1, a, C, dx, fs, ex, ea, c, nn, l, q⟩ => ?_))
  subst ex
  cases (show ov = Value.ref a from r1)
  refine wpAny_bind (wpAny_standAt (wpAny_bind (wpAny_holding (setattr_ok I1 ea c nn l r fun s2 I2 => ?_))))
  exact wpAny_release ⟨σ, _, I2, q⟩
end
end Sf

namespace Sf
open PySem PySem.Spec PyProof.Rows L2
section
variable {X : Cx}
def CDivZ (_ j : Int) : Prop := j ≠ 0 ∧ j.natAbs.log2 < 9000
/-- // by a divisor of any sign -/
theorem op_fdivZ : OpR X (binaryOp .FloorDiv) (rI CDivZ fun i j => .int (i.fdiv j)) := opI fun _ _ _ _ _ _ _ hc q => floordiv_int hc.1 q (.inl (PyProof.noPylong_of_log2 hc.2))
theorem CDivZ.of {i j : Int} (h : j ≠ 0) (hb : j.natAbs < 2 ^ 8000) : CDivZ i j := ⟨h, Nat.lt_of_lt_of_le ((Nat.log2_lt (by omega)).mpr hb) (by decide)⟩
theorem gcd_args5 (a b c d e : Value) : argsOk "math.gcd" ⟨[a, b, c, d, e], []⟩ := by unfold argsOk; kernel_rfl
theorem gcd_run5 (a b c d e : Int) (ta tb tc td te : Tok) : Gives (Builtin.«math.gcd» ⟨[.int a ta, .int b tb, .int c tc, .int d td, .int e te], []⟩) (.int ((((((Nat.gcd 0 a.natAbs).gcd b.natAbs).gcd c.natAbs).gcd d.natAbs).gcd e.natAbs : Nat) : Int)) :=
  .of_wp fun M A E s Q h => by
    obtain ⟨hp, g, d, tk, os⟩ := s
    wp_walk
    exact ⟨_, rfl, h⟩
/-- gcd of five integers -/
def rGcd5 : List V → Hp → VK → Prop := fun vs H Q => ∃ a b c d e : Int, vs = [.int a, .int b, .int c, .int d, .int e] ∧ Q (.int (((((a.natAbs.gcd b.natAbs).gcd c.natAbs).gcd d.natAbs).gcd e.natAbs : Nat) : Int)) H
theorem cr_gcd5 : CallR X (.builtin "math.gcd") rGcd5 := by
  intro pins s σ H xs us Q I r h
  obtain ⟨a, b, c, d, e, rfl, q⟩ := h
  cases r with
  | cons r1 r => cases r with
    | cons r2 r => cases r with
      | cons r3 r => cases r with
        | cons r4 r => cases r with
          | cons r5 r =>
            cases r
            obtain ⟨t1, rfl⟩ := r1
            obtain ⟨t2, rfl⟩ := r2
            obtain ⟨t3, rfl⟩ := r3
            obtain ⟨t4, rfl⟩ := r4
            obtain ⟨t5, rfl⟩ := r5
            have g := gcd_run5 a b c d e t1 t2 t3 t4 t5
            rw [Nat.gcd_zero_left] at g
            exact call_function_meets PySem.W.MGF.kind_gcd PySem.W.MGF.plain_gcd PySem.W.MGF.entry_gcd (gcd_args5 _ _ _ _ _) g.meets ⟨.int _, H, I.tok _, ⟨_, rfl⟩, q⟩
/-- x(e, ..), x a name of the module that holds a built-in function -/
theorem pe_callGB {r : List V → Hp → VK → Prop} {t : TA} {x : Str} {id : String} {e : Expr} {es : List Expr} {p pos : Pos} (hc : CallR X (.builtin id) r) (hg : Gl X x) (hm : X.mg x = some (.builtin id)) (ha : PA X (e :: es) t) (hdb : (x == ("__debug__" : Str)) = false := by decide)
    (he : starEach (e :: es) X.env = (false, eval e X.env) :: starEach es X.env := by rfl) (hpl : (backTo pos (starEach es X.env)).any (·.1) = false := by rfl) : PE X (.Call (.Name x p) (e :: es) [] pos) (tCB r t) := by
  refine ⟨fun pins s σ H Q I h => ?_⟩
  refine wpAny_Call_Name_kw (ld_glob I hg hm ?_ hdb)
  exact PyProof.Rows.callWith_builtin1 (thn (ha.run pos pins s σ H _ I h) fun us s1 ⟨vs, H1, I1, r1, q1⟩ => hc pins s1 σ H1 vs us Q I1 r1 q1) he hpl
end
end Sf

namespace Sf
open PySem PySem.Spec PyProof.Rows L2
/-- an own class, ready to be called with so many arguments; ds fills up -/
structure CalC (P : Program) (w : World) (K : PySem.W.Frag) (mg : Str → Option Value) (base : Heap) (k : Nat) (x : Str) (C : Addr) (ps : List Str) (ds : List V) (sp : Sp) where
  f : Addr
  fd : FuncData
  us : List Value
  ok : FnOk P w K mg base CX0 k f fd ps sp
  mkr : Mk K C f
  g : mg x = some (.ref C)
  b : Binds K fd ps us
  d : Vals ds us
/-- a method, ready to be called -/
structure CalM (P : Program) (w : World) (K : PySem.W.Frag) (mg : Str → Option Value) (base : Heap) (k : Nat) (m : Str) (C : Addr) (ps : List Str) (sp : Sp) where
  f : Addr
  fd : FuncData
  ok : FnOk P w K mg base CX0 k f fd ps sp
  me : Meth K C m f
  b : Binds K fd ps []
theorem _root_.L2.Meth.cast {K : PySem.W.Frag} {C f : Addr} {m m' : Str} (M : Meth K C m f) (e : m = m') : Meth K C m' f := e ▸ M
section
variable {X : Cx} {k : Nat} {x m : Str} {C : Addr} {ps : List Str} {ds : List V} {sp : Sp} {e o : Expr} {es : List Expr} {t : TA} {ta : TE} {p pos apos : Pos}
theorem pe_new (N : CalC X.prog X.w X.K X.mg X.base k x C ps ds sp) (hr : Room (k + 1) X.A) (ha : PA X (e :: es) t) (hg : Gl X x := by rfl) (hdb : (x == ("__debug__" : Str)) = false := by decide)
    (he : starEach (e :: es) X.env = (false, eval e X.env) :: starEach es X.env := by rfl) (hpl : (backTo pos (starEach es X.env)).any (·.1) = false := by rfl) :
    PE X (.Call (.Name x p) (e :: es) [] pos) (tMake C sp ds E0 t) :=
  pe_make N.mkr N.ok hr hg N.g N.b N.d pass0 ha hdb he hpl
end
/-- what the text says of a class whose objects are told by fields alone -/
structure OwnK (K : PySem.W.Frag) (C : Addr) : Prop where
  cls : Cls K C
  sf : PySem.W.selfFirst K C = true
  si : PySem.W.subIn K (.type "int") (.ref C) = some false
  ne : PySem.W.findIn K (.ref C) "__ne__" = some (some (.builtin "object.__ne__"))
  mo : PySem.W.mroIn K C (.type "object") = some true
  ca : PySem.W.findIn K (.ref C) "__class__" = some (some (.builtin "object.__class__"))
  cg : PySem.W.specialIn K (.builtin "object.__class__") "__get__" = some (some (.builtin "getset_descriptor.__get__"))
  ct : PySem.W.takesIn K (.builtin "object.__class__") = some true
  kk : PySem.W.kitOne K (.ref C) (.ref C) = some true
  ki : PySem.W.kitOne K (.type "int") (.ref C) = some false
theorem OwnK.ty {K : PySem.W.Frag} {C : Addr} {H : Hp} {a : Addr} (o : OwnK K C) (h : Ins H a C) : TyX K H (.ref a) (.ref C) := by
  obtain ⟨dx, fs, e⟩ := h
  exact .base (.ins e o.cls o.ca o.cg o.ct o.mo)
theorem ownB_ok {K : PySem.W.Frag} {x : Str} (c : Cls K (He.ga K x)) (h : ownB K x = true) : OwnK K (He.ga K x) := by
  obtain ⟨h1, h⟩ := He.ba h
  obtain ⟨h2, h⟩ := He.ba h
  obtain ⟨h3, h⟩ := He.ba h
  obtain ⟨h4, h⟩ := He.ba h
  obtain ⟨h5, h⟩ := He.ba h
  obtain ⟨h6, h⟩ := He.ba h
  obtain ⟨h7, h⟩ := He.ba h
  obtain ⟨h8, h9⟩ := He.ba h
  exact ⟨c, h1, of_decide_eq_true h2, He.eqO_ok h3, of_decide_eq_true h4, He.eqO_ok h5, He.eqO_ok h6, of_decide_eq_true h7, of_decide_eq_true h8, of_decide_eq_true h9⟩
/-- e.f where K is told from outside (within a comprehension) -/
theorem pe_fldK {X : Cx} {K : PySem.W.Frag} {e : Expr} {f : Str} {pos : Pos} {ta : TE} (hK : X.K = K) (he : PE X e ta) (hb : attributeBase e f X.env (eval e X.env) = eval e X.env) : PE X (.Attribute e f pos) (tFld K ta f) := hK ▸ pe_fld he hb
theorem pg_tupK {X : Cx} {K : PySem.W.Frag} {es : List Expr} {k : Nat} {t : TGs} {n : Nat} {pos : Pos} (hK : X.K = K) (hc : X.calm = true) (h : PGs X es t)
    (hn : (assignEach es X.env).length = n := by rfl) (hst : (assignEach es X.env).findIdx? (·.1) = none := by rfl) : PG X (.Tuple es k pos) (gTup K n t) := hK ▸ pg_tup hc h hn hst
theorem walk_zipT {K : PySem.W.Frag} {a b : Addr} {xs ys : List V} {n : Nat} (h1 : xs.length = n) (h2 : ys.length = n) : Walk (RZ.ItzT K a b) n (fun H => SqT K H a xs ∧ SqT K H b ys) (YPair (fun i => xs[i]?) (fun i => ys[i]?)) :=
  ⟨fun i H hi q => ⟨xs, ys, xs[i], ys[i], q.1, q.2, by simp, by simp⟩, fun H q => ⟨xs, ys, q.1, q.2, .inl (Nat.le_of_eq h1)⟩, fun i H x H' hi q y => by
    obtain ⟨T, u, v, e, hT, eH, g1, g2⟩ := y
    exact ⟨T, u, v, e, hT, eH, g1 xs q.1, g2 ys q.2⟩⟩
theorem ifnb {b : Bool} {A B : Prop} (h1 : b = false → A) (h2 : b = true → B) : if (!b) = true then A else B := by
  cases b with
  | false => exact h1 rfl
  | true => exact h2 rfl
end Sf

namespace Sf
open PySem PySem.Spec PyProof.Rows L2
def sgnI (t : Int) : Int := if t = 0 then 0 else if t > 0 then 1 else -1
/-- lowest terms -/
def LowT (t b t' b' : Int) : Prop := 0 < b' ∧ t * b' = t' * b ∧ t'.natAbs.gcd b'.natAbs = 1
theorem low_of {t b : Int} (hb : b ≠ 0) : (((t.natAbs.gcd b.natAbs : Nat) : Int) ≠ 0) ∧ LowT t b (t.fdiv (if b < 0 then -((t.natAbs.gcd b.natAbs : Nat) : Int) else ((t.natAbs.gcd b.natAbs : Nat) : Int))) (b.fdiv (if b < 0 then -((t.natAbs.gcd b.natAbs : Nat) : Int) else ((t.natAbs.gcd b.natAbs : Nat) : Int))) := by
  have g0 : 0 < t.natAbs.gcd b.natAbs := Nat.gcd_pos_of_pos_right _ (by omega)
  obtain ⟨u, hu⟩ := (Int.natAbs_dvd_natAbs.mp (show t.natAbs.gcd b.natAbs ∣ t.natAbs from Nat.gcd_dvd_left _ _) : ((t.natAbs.gcd b.natAbs : Nat) : Int) ∣ t)
  obtain ⟨v, hv⟩ := (Int.natAbs_dvd_natAbs.mp (show t.natAbs.gcd b.natAbs ∣ b.natAbs from Nat.gcd_dvd_right _ _) : ((t.natAbs.gcd b.natAbs : Nat) : Int) ∣ b)
  refine ⟨by omega, ?_⟩
  have hc : (t.natAbs / (t.natAbs.gcd b.natAbs)).gcd (b.natAbs / (t.natAbs.gcd b.natAbs)) = 1 := by
    rw [Nat.gcd_div (Nat.gcd_dvd_left _ _) (Nat.gcd_dvd_right _ _), Nat.div_self g0]
  generalize t.natAbs.gcd b.natAbs = g at *
  have gi : (0 : Int) < g := by omega
  have eu : t.natAbs / g = u.natAbs := by
    rw [hu, Int.natAbs_mul, Int.natAbs_natCast, Nat.mul_div_cancel_left _ g0]
  have ev : b.natAbs / g = v.natAbs := by
    rw [hv, Int.natAbs_mul, Int.natAbs_natCast, Nat.mul_div_cancel_left _ g0]
  rw [eu, ev] at hc
  by_cases c : b < 0
  · rw [if_pos c]
    have e1 : t.fdiv (-(g : Int)) = -u := by
      rw [show t = (-(g : Int)) * (-u) by rw [Int.neg_mul_neg]; exact hu]
      exact Int.mul_fdiv_cancel_left _ (by omega)
    have e2 : b.fdiv (-(g : Int)) = -v := by
      rw [show b = (-(g : Int)) * (-v) by rw [Int.neg_mul_neg]; exact hv]
      exact Int.mul_fdiv_cancel_left _ (by omega)
    rw [e1, e2]
    refine ⟨?_, ?_, by rw [Int.natAbs_neg, Int.natAbs_neg]; exact hc⟩
    · by_cases v0 : 0 ≤ v
      · have := Int.mul_nonneg (Int.le_of_lt gi) v0
        omega
      · omega
    · rw [hu, hv]; grind
  · rw [if_neg c]
    have e1 : t.fdiv (g : Int) = u := by
      rw [hu]
      exact Int.mul_fdiv_cancel_left _ (by omega)
    have e2 : b.fdiv (g : Int) = v := by
      rw [hv]
      exact Int.mul_fdiv_cancel_left _ (by omega)
    rw [e1, e2]
    refine ⟨?_, ?_, hc⟩
    · by_cases v0 : v ≤ 0
      · have := Int.mul_nonneg (Int.le_of_lt gi) (show 0 ≤ -v by omega)
        rw [Int.mul_neg] at this
        omega
      · omega
    · rw [hu, hv]; grind
section
variable {P : Program} {w : World} {K : PySem.W.Frag} {mg : Str → Option Value} {base : Heap} {f : Addr} {fd : FuncData} {CR : Addr}
def spPassed (K : PySem.W.Frag) : Sp := fun vs H Q _ => ∃ (x : V) (b : Bool), vs = [x] ∧ IntB K H x b ∧ (b = true ↔ ∃ n, x = .int n) ∧ ∀ r : Bool, (r = true ↔ ∃ n : Int, x = .int n ∧ n.natAbs < 10 ^ 60) → Q (.bl r) H
theorem ok_is_passed (F : FnD K "is_passed" "is_passed" s_P_is_passed f fd) (T : Glob mg) (C_P_is_integer : Cal P w K mg base 1 "is_integer" ["value"] (spIsInt K)) : FnOk P w K mg base CX0 2 f fd ["value"] (spPassed K) := by
  refine F.ok sc_P_is_passed (fun vs H Q E h => ?_) (fun cdv A outer s H vs Q E hr h => ?_)
  · obtain ⟨x, b, rfl, _⟩ := h; rfl
  · obtain ⟨x, b, rfl, hb, hi, q⟩ := h
    obtain ⟨tM, hc_TOO_LONG⟩ := T.m_TOO_LONG
    refine ⟨_, PSs.nox (pss_one (ps_ret (pe_and (pe_cal C_P_is_integer (hr.mono (by decide)) (pa_cons (pv 0) pa_nil)) (pe_one (pe_cmp (pc_lt (pe_callB call_abs (by rfl) T.m_abs (by decide +kernel) (pa_cons (pv 0) pa_nil)) (pe_glob (v := .int 1000000000000000000000000000000000000000000000000000000000000) rfl hc_TOO_LONG ⟨_, rfl⟩)) rfl))))), ?_⟩
    refine ⟨_, rfl, x, b, rfl, hb, ?_⟩
    cases b with
    | false =>
      refine ⟨_, rfl, ?_⟩
      exact q false ⟨fun z => Bool.noConfusion z, fun ⟨n, e, _⟩ => hi.mpr ⟨n, e⟩⟩
    | true =>
      obtain ⟨n, rfl⟩ := hi.mp rfl
      refine ⟨_, rfl, _, rfl, n, rfl, _, _, rfl, rfl, ?_⟩
      have e60 : (10 : Nat) ^ 60 = 1000000000000000000000000000000000000000000000000000000000000 := by decide +kernel
      refine q _ ?_
      rw [decide_eq_true_iff, e60]
      constructor
      · intro h
        refine ⟨n, rfl, ?_⟩
        split at h <;> omega
      · rintro ⟨m, e, h⟩
        cases e
        split <;> omega
def spLowest : Sp := fun vs H Q _ => ∃ t b : Int, vs = [.int t, .int b] ∧ b ≠ 0 ∧ b.natAbs < 2 ^ 8000 ∧ ∀ (t' b' : Int) (a : Addr), LowT t b t' b' → H a = none → Q (.ref a) (upd H a (.tup [.int t', .int b']))
theorem ok_lowest_terms (F : FnD K "lowest_terms" "lowest_terms" s_P_lowest_terms f fd) (T : Glob mg) : FnOk P w K mg base CX0 1 f fd ["top", "bottom"] spLowest := by
  refine F.ok sc_P_lowest_terms (fun vs H Q E h => ?_) (fun cdv A outer s H vs Q E hr h => ?_)
  · obtain ⟨t, b, rfl, _⟩ := h; rfl
  · obtain ⟨t, b, rfl, b0, bb, q⟩ := h
    refine ⟨_, PSs.nox (pss_cons (ps_set (i := 2) sc_P_lowest_terms.nd rfl (Or.inl rfl) (pe_callGB cr_gcd (by rfl) T.m_gcd (pa_cons (pv 0) (pa_cons (pv 1) pa_nil))))
      (Evl.pss_cut (ps_if (pt_cmp (pc_lt (pv 1) pe_int)) (pss_one (ps_set (i := 2) sc_P_lowest_terms.nd rfl (Or.inl rfl) (pe_un un_neg (pv 2)))) pss_nil)
      (pss_one (ps_ret (pe_tup (pa_cons (pe_op op_fdivZ (pv 0) (pv 2)) (pa_cons (pe_op op_fdivZ (pv 1) (pv 2)) pa_nil))))))), ?_⟩
    obtain ⟨g0, hl⟩ := low_of (t := t) b0
    have gb : t.natAbs.gcd b.natAbs < 2 ^ 8000 := Nat.lt_of_le_of_lt (Nat.le_of_dvd (by omega) (Nat.gcd_dvd_right _ _)) bb
    refine ⟨_, rfl, _, rfl, t, b, rfl, ?_⟩
    generalize ((t.natAbs.gcd b.natAbs : Nat)) = g at *
    refine ⟨fun σ' H' => σ' = [some (.int t), some (.int b), some (.int (if b < 0 then -(g : Int) else (g : Int)))] ∧ H = H', ?_, ?_⟩
    · refine ⟨_, rfl, _, _, rfl, rfl, _, rfl, ifd (fun h => ?_) (fun h => ?_)⟩
      · rw [if_pos h]
        exact ⟨_, rfl, _, rfl, rfl, rfl⟩
      · rw [if_neg h]
        exact ⟨rfl, rfl⟩
    · rintro σ' _ ⟨rfl, rfl⟩
      have c0 : (if b < 0 then -(g : Int) else (g : Int)) ≠ 0 := by split <;> omega
      have cb : (if b < 0 then -(g : Int) else (g : Int)).natAbs < 2 ^ 8000 := by split <;> omega
      generalize (if b < 0 then -(g : Int) else (g : Int)) = c at *
      exact ⟨_, rfl, _, rfl, _, _, rfl, rfl, CDivZ.of c0 cb, _, rfl, _, rfl, _, _, rfl, rfl, CDivZ.of c0 cb, (by show 2 ≤ sizeLine; decide), fun a ha => q _ _ a hl ha⟩
def spSignOf : Sp := fun vs H Q _ => ∃ t : Int, vs = [.int t] ∧ Q (.int (sgnI t)) H
theorem ok_sign_of (F : FnD K "sign_of" "sign_of" s_P_sign_of f fd) : FnOk P w K mg base CX0 1 f fd ["number"] spSignOf := by
  refine F.ok sc_P_sign_of (fun vs H Q E h => ?_) (fun cdv A outer s H vs Q E hr h => ?_)
  · obtain ⟨t, rfl, _⟩ := h; rfl
  · obtain ⟨t, rfl, q⟩ := h
    refine ⟨_, PSs.nox (pss_cons (ps_if (pt_cmp (pc_eqI (pv 0) pe_int)) (pss_one (ps_ret pe_int)) pss_nil)
      (pss_one (ps_ret (pe_ifExp (pt_cmp (pc_gt (pv 0) pe_int)) pe_int (pe_un un_neg pe_int))))), ?_⟩
    unfold sgnI at q
    refine ⟨_, rfl, _, _, rfl, rfl, _, rfl, ifd (fun h => ?_) (fun h => ?_)⟩
    · rw [if_pos h] at q
      exact q
    · rw [if_neg h] at q
      refine ⟨_, rfl, _, _, rfl, rfl, _, rfl, ifd (fun h2 => ?_) (fun h2 => ?_)⟩
      · rw [if_pos h2] at q
        exact q
      · rw [if_neg h2] at q
        exact ⟨_, rfl, q⟩
/-- a ratio in lowest terms -/
def RatioAt (CR : Addr) (H : Hp) (a : Addr) (t b : Int) : Prop := ∃ dx, H a = some (.ins CR dx [("top", .int t), ("bottom", .int b), ("sign", .int (sgnI t))])
theorem RatioAt.ins {H : Hp} {a : Addr} {t b : Int} (h : RatioAt CR H a t b) : Ins H a CR := let ⟨dx, e⟩ := h; ⟨dx, _, e⟩
theorem RatioAt.same {H H' : Hp} {a : Addr} {t b : Int} (h : RatioAt CR H a t b) (s : Same H H') : RatioAt CR H' a t b := let ⟨dx, e⟩ := h; ⟨dx, s _ _ e⟩
structure RatioK (K : PySem.W.Frag) (CR : Addr) : Prop where
  own : OwnK K CR
  nt : NoAttr K CR "top"
  nb : NoAttr K CR "bottom"
  ns : NoAttr K CR "sign"
structure RatInitP (CR : Addr) (vs : List V) (H : Hp) (Q : VK) : Prop where
  ex : ∃ (a dx : Addr) (t b : Int), vs = [.ref a, .int t, .int b] ∧ b ≠ 0 ∧ t.natAbs < 10 ^ 60 ∧ b.natAbs < 10 ^ 60 ∧ H a = some (.ins CR dx []) ∧ ∀ (t' b' : Int) (H' : Hp), LowT t b t' b' → Keep a H H' → RatioAt CR H' a t' b' → Q .non H'
def spRatInit (CR : Addr) : Sp := fun vs H Q _ => RatInitP CR vs H Q
theorem ok_Ratio_init (F : FnDD K "__init__" "Ratio.__init__" s_P_Ratio___init__ [.int 1] f fd) (R : RatioK K CR) (C_P_is_passed : Cal P w K mg base 2 "is_passed" ["value"] (spPassed K)) (C_P_lowest_terms : Cal P w K mg base 1 "lowest_terms" ["top", "bottom"] spLowest) (C_P_sign_of : Cal P w K mg base 1 "sign_of" ["number"] spSignOf) :
    FnOk P w K mg base CX0 3 f fd ["self", "top", "bottom"] (spRatInit CR) := by
  refine F.ok sc_P_Ratio___init__ (fun vs H Q E h => ?_) (fun cdv A outer s H vs Q E hr h => ?_)
  · obtain ⟨a, dx, t, b, rfl, _⟩ := h.ex; rfl
  · obtain ⟨a, dx, t, b, rfl, b0, tb, bb, ha, q⟩ := h.ex
    refine ⟨_, PSs.nox (pss_cons (ps_if (pt_not (pt_val (pe_cal C_P_is_passed (hr.mono (by decide)) (pa_cons (pv 1) pa_nil)))) (pss_one ps_never) pss_nil)
      (pss_cons (ps_if (PW.pt (pw_or (pt_not (pt_val (pe_cal C_P_is_passed (hr.mono (by decide)) (pa_cons (pv 2) pa_nil)))) (pw_or1 (pt_cmp (pc_eqI (pv 2) pe_int))))) (pss_one ps_never) pss_nil)
      (pss_cons (ps_asg (pe_cal C_P_lowest_terms (hr.mono (by decide)) (pa_cons (pv 1) (pa_cons (pv 2) pa_nil))) (pg_tup (by rfl) (pgs_cons (pg_attr (pv 0)) (pgs_cons (pg_attr (pv 0)) pgs_nil))))
      (pss_one (ps_fld (pv 0) (pe_cal C_P_sign_of (hr.mono (by decide)) (pa_cons (pe_fld (pv 0) rfl) pa_nil)) rfl))))), ?_⟩
    refine ⟨_, rfl, .int t, true, rfl, .int t, ⟨fun _ => ⟨t, rfl⟩, fun _ => rfl⟩, fun r hr2 => ⟨_, rfl, ?_⟩⟩
    have e : r = true := hr2.mpr ⟨t, rfl, tb⟩
    subst e
    refine ⟨_, rfl, .int b, true, rfl, .int b, ⟨fun _ => ⟨b, rfl⟩, fun _ => rfl⟩, fun r hr2 => ⟨_, rfl, ?_⟩⟩
    have e : r = true := hr2.mpr ⟨b, rfl, bb⟩
    subst e
    refine ⟨_, rfl, _, _, rfl, rfl, _, rfl, ifd (fun h => absurd h b0) (fun _ => ?_)⟩
    refine ⟨_, rfl, _, rfl, t, b, rfl, b0, Nat.lt_trans bb (by decide +kernel), fun t' b' c hl hc => ?_⟩
    have nac : a ≠ c := ne_of_none ha hc
    refine ⟨c, _, rfl, .inl (.inl upd_same), rfl, _, _, rfl, _, rfl, a, CR, dx, [], rfl, by rw [upd_ne nac]; exact ha, R.own.cls, R.nt, by decide, ?_⟩
    refine ⟨_, _, rfl, _, rfl, a, CR, dx, _, rfl, upd_same, R.own.cls, R.nb, (by show 1 < 1000; decide), rfl, ?_⟩
    refine ⟨_, rfl, a, CR, dx, _, .int t', rfl, upd_same, R.own.cls, R.nt, rfl, t', rfl, ?_⟩
    refine ⟨_, rfl, a, CR, dx, _, rfl, upd_same, R.own.cls, R.ns, (by show 2 < 1000; decide), ?_⟩
    refine q t' b' _ hl (fun d o e n => ?_) ⟨dx, upd_same⟩
    rw [upd_ne n, upd_ne n, upd_ne n, upd_ne (ne_of_none e hc)]
    exact e
def spMadeRatio (CR : Addr) : Sp := fun vs H Q _ => ∃ t b : Int, vs = [.int t, .int b] ∧ b ≠ 0 ∧ b.natAbs < 2 ^ 8000 ∧ ∀ (t' b' : Int) (a : Addr) (H' : Hp), LowT t b t' b' → H a = none → Same H H' → RatioAt CR H' a t' b' → Q (.ref a) H'
theorem ok_made_ratio (F : FnD K "made_ratio" "made_ratio" s_P_made_ratio f fd) (R : RatioK K CR) (C_P_lowest_terms : Cal P w K mg base 1 "lowest_terms" ["top", "bottom"] spLowest) (C_P_sign_of : Cal P w K mg base 1 "sign_of" ["number"] spSignOf)
    (N_Ratio_1 : CalC P w K mg base 3 "Ratio" CR ["self", "top", "bottom"] [.int 1] (spRatInit CR)) : FnOk P w K mg base CX0 5 f fd ["top", "bottom"] (spMadeRatio CR) := by
  refine F.ok sc_P_made_ratio (fun vs H Q E h => ?_) (fun cdv A outer s H vs Q E hr h => ?_)
  · obtain ⟨t, b, rfl, _⟩ := h; rfl
  · obtain ⟨t, b, rfl, b0, bb, q⟩ := h
    refine ⟨_, PSs.nox (pss_cons (ps_set (i := 2) sc_P_made_ratio.nd rfl (Or.inl rfl) (pe_cal C_P_lowest_terms (hr.mono (by decide)) (pa_cons (pv 0) (pa_cons (pv 1) pa_nil))))
      (pss_cons (ps_set (i := 3) sc_P_made_ratio.nd rfl (Or.inl rfl) (pe_new N_Ratio_1 (hr.mono (by decide)) (pa_cons pe_int pa_nil)))
      (pss_cons (ps_fld (pv 3) (pe_ix ix_tup (pv 2) pe_int (fun _ _ => rfl)) rfl)
      (pss_cons (ps_fld (pv 3) (pe_ix ix_tup (pv 2) pe_int (fun _ _ => rfl)) rfl)
      (pss_cons (ps_fld (pv 3) (pe_cal C_P_sign_of (hr.mono (by decide)) (pa_cons (pe_ix ix_tup (pv 2) pe_int (fun _ _ => rfl)) pa_nil)) rfl)
      (pss_one (ps_ret (pv 3)))))))), ?_⟩
    refine ⟨_, rfl, _, rfl, t, b, rfl, b0, bb, fun t' b' c hl hc => ?_⟩
    refine fun x dx hx hdx nd => ⟨x, dx, 0, 1, rfl, by decide, by decide +kernel, by decide +kernel, upd_same, fun t0 b1 H1 _ k1 ⟨dx2, r1⟩ => ⟨rfl, ?_⟩⟩
    have ncx : c ≠ x := ne_of_none upd_same hx
    have ncd : c ≠ dx := ne_of_none upd_same hdx
    have hcH : H1 c = some (.tup [.int t', .int b']) := k1 _ _ (by rw [upd_ne ncx, upd_ne ncd, upd_same]) ncx
    have hT : ∀ {H' : Hp} {o : HO}, H' c = some (.tup [.int t', .int b']) → (upd H' x o) c = some (.tup [.int t', .int b']) := fun {H' o} h => by
      rw [upd_ne ncx]
      exact h
    refine ⟨_, rfl, c, _, 0, .int t', rfl, rfl, SqT.of hcH, rfl, _, rfl, x, CR, dx2, _, rfl, r1, R.own.cls, R.nt, (by show 3 < 1000; decide), ?_⟩
    refine ⟨_, rfl, c, _, 1, .int b', rfl, rfl, SqT.of (hT hcH), rfl, _, rfl, x, CR, dx2, _, rfl, upd_same, R.own.cls, R.nb, (by show 3 < 1000; decide), ?_⟩
    refine ⟨_, rfl, c, _, 0, .int t', rfl, rfl, SqT.of (hT (hT hcH)), rfl, t', rfl, _, rfl, x, CR, dx2, _, rfl, upd_same, R.own.cls, R.ns, (by show 3 < 1000; decide), ?_⟩
    have hxH : H x = none := by
      have z := hx
      rw [upd_ne ncx.symm] at z
      exact z
    refine ⟨_, rfl, q t' b' x _ hl hxH (fun d o e => ?_) ⟨dx2, upd_same⟩⟩
    have nd1 : d ≠ x := ne_of_none e hxH
    have hdH : H dx = none := by
      have z := hdx
      rw [upd_ne ncd.symm] at z
      exact z
    rw [upd_ne nd1, upd_ne nd1, upd_ne nd1]
    refine k1 _ _ ?_ nd1
    rw [upd_ne nd1, upd_ne (ne_of_none e hdH), upd_ne (ne_of_none e hc)]
    exact e
end
end Sf

namespace Sf
open PySem PySem.Spec PyProof.Rows L2
section
variable {P : Program} {w : World} {K : PySem.W.Frag} {mg : Str → Option Value} {base : Heap} {f : Addr} {fd : FuncData} {CR : Addr}
/-- a ratio, or an integer that can be passed -/
inductive RatV (CR : Addr) (H : Hp) : V → Int → Int → Prop
  | rat {a : Addr} {t b : Int} (h : RatioAt CR H a t b) : RatV CR H (.ref a) t b
  | int {t : Int} (h : t.natAbs < 10 ^ 60) : RatV CR H (.int t) t 1
theorem RatV.same {H H' : Hp} {x : V} {t b : Int} (h : RatV CR H x t b) (s : Same H H') : RatV CR H' x t b := by
  cases h with
  | rat h => exact .rat (h.same s)
  | int h => exact .int h
def spRatV (CR : Addr) (v : V) : Sp := fun vs H Q _ => ∃ (x : V) (t b : Int), vs = [x] ∧ RatV CR H x t b ∧ Q v H
theorem ok_is_fraction (F : FnD K "is_fraction" "is_fraction" s_P_is_fraction f fd) (T : Glob mg) (R : RatioK K CR) (G_Ratio : mg "Ratio" = some (.ref CR)) (C_P_is_passed : Cal P w K mg base 2 "is_passed" ["value"] (spPassed K)) : FnOk P w K mg base CX0 3 f fd ["value"] (spRatV CR (.bl true)) := by
  refine F.ok sc_P_is_fraction (fun vs H Q E h => ?_) (fun cdv A outer s H vs Q E hr h => ?_)
  · obtain ⟨x, t, b, rfl, _⟩ := h; rfl
  · obtain ⟨x, t, b, rfl, hx, q⟩ := h
    refine ⟨_, PSs.nox (pss_one (ps_ret (pe_or (pe_callB call_isi (by rfl) T.m_isinstance (by decide +kernel) (pa_cons (pv 0) (pa_cons (pe_glob (v := .ref _) rfl G_Ratio rfl) pa_nil))) (pe_one (pe_cal C_P_is_passed (hr.mono (by decide)) (pa_cons (pv 0) pa_nil)))))), ?_⟩
    cases hx with
    | rat hx =>
      exact ⟨_, rfl, _, .ref CR, _, _, true, rfl, .own CR, R.own.ty hx.ins, R.own.kk, _, rfl, q⟩
    | int hb =>
      refine ⟨_, rfl, _, .ref CR, _, _, false, rfl, .own CR, .base (.int _), R.own.ki, _, rfl, ?_⟩
      refine ⟨_, rfl, .int t, true, rfl, .int t, ⟨fun _ => ⟨t, rfl⟩, fun _ => rfl⟩, fun r hr2 => ?_⟩
      have e : r = true := hr2.mpr ⟨t, rfl, hb⟩
      subst e
      exact q
theorem ok_check_ratio (F : FnD K "check_ratio" "check_ratio" s_P_check_ratio f fd) (C_P_is_fraction : Cal P w K mg base 3 "is_fraction" ["value"] (spRatV CR (.bl true))) : FnOk P w K mg base CX0 4 f fd ["value"] (spRatV CR .non) := by
  refine F.ok sc_P_check_ratio (fun vs H Q E h => ?_) (fun cdv A outer s H vs Q E hr h => ?_)
  · obtain ⟨x, t, b, rfl, _⟩ := h; rfl
  · obtain ⟨x, t, b, rfl, hx, q⟩ := h
    refine ⟨_, PSs.nox (pss_one (ps_if (pt_not (pt_val (pe_cal C_P_is_fraction (hr.mono (by decide)) (pa_cons (pv 0) pa_nil)))) (pss_one ps_never) pss_nil)), ?_⟩
    exact ⟨_, rfl, x, t, b, rfl, hx, _, rfl, q⟩
def spTermsOf (CR : Addr) : Sp := fun vs H Q _ => ∃ (x : V) (t b : Int), vs = [x] ∧ RatV CR H x t b ∧ ∀ a, H a = none → Q (.ref a) (upd H a (.tup [.int t, .int b]))
theorem ok_terms_of (F : FnD K "terms_of" "terms_of" s_P_terms_of f fd) (T : Glob mg) (R : RatioK K CR) (G_Ratio : mg "Ratio" = some (.ref CR)) : FnOk P w K mg base CX0 1 f fd ["ratio"] (spTermsOf CR) := by
  refine F.ok sc_P_terms_of (fun vs H Q E h => ?_) (fun cdv A outer s H vs Q E hr h => ?_)
  · obtain ⟨x, t, b, rfl, _⟩ := h; rfl
  · obtain ⟨x, t, b, rfl, hx, q⟩ := h
    refine ⟨_, PSs.nox (pss_cons (ps_if (pt_val (pe_callB call_isi (by rfl) T.m_isinstance (by decide +kernel) (pa_cons (pv 0) (pa_cons (pe_glob (v := .ref _) rfl G_Ratio rfl) pa_nil)))) (pss_one (ps_ret (pe_tup (pa_cons (pe_fld (pv 0) rfl) (pa_cons (pe_fld (pv 0) rfl) pa_nil))))) pss_nil)
      (pss_one (ps_ret (pe_tup (pa_cons (pv 0) (pa_cons pe_int pa_nil)))))), ?_⟩
    cases hx with
    | @rat a _ _ hx =>
      obtain ⟨dx, e⟩ := hx
      refine ⟨_, rfl, _, .ref CR, _, _, true, rfl, .own CR, R.own.ty ⟨dx, _, e⟩, R.own.kk, _, rfl, ?_⟩
      exact ⟨_, rfl, a, CR, dx, _, .int t, rfl, e, R.own.cls, R.nt, rfl, _, rfl, a, CR, dx, _, .int b, rfl, e, R.own.cls, R.nb, rfl, (by show 2 ≤ sizeLine; decide), fun c hc => q c hc⟩
    | int hb =>
      refine ⟨_, rfl, _, .ref CR, _, _, false, rfl, .own CR, .base (.int _), R.own.ki, _, rfl, ?_⟩
      exact ⟨_, rfl, (by show 2 ≤ sizeLine; decide), fun c hc => q c hc⟩
structure RatOpP (CR : Addr) (g h : Int → Int → Int → Int → Int) (vs : List V) (H : Hp) (Q : VK) : Prop where
  ex : ∃ (a : Addr) (y : V) (t b t2 b2 : Int), vs = [.ref a, y] ∧ RatioAt CR H a t b ∧ RatV CR H y t2 b2 ∧ t.natAbs < 2 ^ 3000 ∧ b.natAbs < 2 ^ 3000 ∧ t2.natAbs < 2 ^ 3000 ∧ b2.natAbs < 2 ^ 3000 ∧ h t b t2 b2 ≠ 0 ∧
    ∀ (t' b' : Int) (x : Addr) (H' : Hp), LowT (g t b t2 b2) (h t b t2 b2) t' b' → H x = none → Same H H' → RatioAt CR H' x t' b' → Q (.ref x) H'
def spRatOp (CR : Addr) (g h : Int → Int → Int → Int → Int) : Sp := fun vs H Q _ => RatOpP CR g h vs H Q
theorem mul3000 {x y : Int} (hx : x.natAbs < 2 ^ 3000) (hy : y.natAbs < 2 ^ 3000) : (x * y).natAbs < 2 ^ 6000 := by
  rw [Int.natAbs_mul, show (6000 : Nat) = 3000 + 3000 from rfl, Nat.pow_add]
  exact Nat.mul_lt_mul'' hx hy
theorem mul8000 {x y : Int} (hx : x.natAbs < 2 ^ 3000) (hy : y.natAbs < 2 ^ 3000) : (x * y).natAbs < 2 ^ 8000 := Nat.lt_of_lt_of_le (mul3000 hx hy) (Nat.pow_le_pow_right (by decide) (by decide))
theorem ok_Ratio_add (F : FnD K "__add__" "Ratio.__add__" s_P_Ratio___add__ f fd) (R : RatioK K CR) (C_P_is_fraction : Cal P w K mg base 3 "is_fraction" ["value"] (spRatV CR (.bl true))) (C_P_terms_of : Cal P w K mg base 1 "terms_of" ["ratio"] (spTermsOf CR)) (C_P_made_ratio : Cal P w K mg base 5 "made_ratio" ["top", "bottom"] (spMadeRatio CR)) :
    FnOk P w K mg base CX0 6 f fd ["self", "other"] (spRatOp CR (fun t b t2 b2 => t * b2 + t2 * b) (fun _ b _ b2 => b * b2)) := by
  refine F.ok sc_P_Ratio___add__ (fun vs H Q E h => ?_) (fun cdv A outer s H vs Q E hr h => ?_)
  · obtain ⟨a, y, t, b, t2, b2, rfl, _⟩ := h.ex; rfl
  · obtain ⟨a, y, t, b, t2, b2, rfl, ⟨dx, ha⟩, hy, h1, h2, h3, h4, h5, q⟩ := h.ex
    refine ⟨_, PSs.nox (pss_cons (ps_if (pt_not (pt_val (pe_cal C_P_is_fraction (hr.mono (by decide)) (pa_cons (pv 1) pa_nil)))) (pss_one ps_never) pss_nil)
      (pss_cons (ps_asg (pe_cal C_P_terms_of (hr.mono (by decide)) (pa_cons (pv 1) pa_nil)) (pg_tup (by rfl) (pgs_cons (pg_name (i := 2) sc_P_Ratio___add__.nd rfl (Or.inl rfl)) (pgs_cons (pg_name (i := 3) sc_P_Ratio___add__.nd rfl (Or.inl rfl)) pgs_nil))))
      (pss_one (ps_ret (pe_cal C_P_made_ratio (hr.mono (by decide)) (pa_cons (pe_op op_add (pe_op op_mulW (pe_fld (pv 0) rfl) (pv 3)) (pe_op op_mulW (pv 2) (pe_fld (pv 0) rfl))) (pa_cons (pe_op op_mulW (pe_fld (pv 0) rfl) (pv 3)) pa_nil))))))), ?_⟩
    refine ⟨_, rfl, y, t2, b2, rfl, hy, _, rfl, ?_⟩
    refine ⟨_, rfl, y, t2, b2, rfl, hy, fun c hc => ⟨c, _, rfl, .inl (.inl upd_same), rfl, _, _, rfl, _, _, rfl, rfl, ?_⟩⟩
    have hac : (upd H c (.tup [.int t2, .int b2])) a = _ := (upd_ne (ne_of_none ha hc)).trans ha
    refine ⟨_, rfl, a, CR, dx, _, .int t, rfl, hac, R.own.cls, R.nt, rfl, _, rfl, _, _, rfl, rfl, CMulW.of h1 h4, _, rfl, _, rfl, a, CR, dx, _, .int b, rfl, hac, R.own.cls, R.nb, rfl, _, _, rfl, rfl, CMulW.of h3 h2, _, _, rfl, rfl, ?_⟩
    refine ⟨_, rfl, a, CR, dx, _, .int b, rfl, hac, R.own.cls, R.nb, rfl, _, rfl, _, _, rfl, rfl, CMulW.of h2 h4, ?_⟩
    exact ⟨_, _, rfl, h5, mul8000 h2 h4, fun t' b' x H' hl hx e hR => q t' b' x H' hl ((same_upd hc).free hx) ((same_upd hc).trans e) hR⟩
theorem ok_Ratio_sub (F : FnD K "__sub__" "Ratio.__sub__" s_P_Ratio___sub__ f fd) (R : RatioK K CR) (C_P_is_fraction : Cal P w K mg base 3 "is_fraction" ["value"] (spRatV CR (.bl true))) (C_P_terms_of : Cal P w K mg base 1 "terms_of" ["ratio"] (spTermsOf CR)) (C_P_made_ratio : Cal P w K mg base 5 "made_ratio" ["top", "bottom"] (spMadeRatio CR)) :
    FnOk P w K mg base CX0 6 f fd ["self", "other"] (spRatOp CR (fun t b t2 b2 => t * b2 - t2 * b) (fun _ b _ b2 => b * b2)) := by
  refine F.ok sc_P_Ratio___sub__ (fun vs H Q E h => ?_) (fun cdv A outer s H vs Q E hr h => ?_)
  · obtain ⟨a, y, t, b, t2, b2, rfl, _⟩ := h.ex; rfl
  · obtain ⟨a, y, t, b, t2, b2, rfl, ⟨dx, ha⟩, hy, h1, h2, h3, h4, h5, q⟩ := h.ex
    refine ⟨_, PSs.nox (pss_cons (ps_if (pt_not (pt_val (pe_cal C_P_is_fraction (hr.mono (by decide)) (pa_cons (pv 1) pa_nil)))) (pss_one ps_never) pss_nil)
      (pss_cons (ps_asg (pe_cal C_P_terms_of (hr.mono (by decide)) (pa_cons (pv 1) pa_nil)) (pg_tup (by rfl) (pgs_cons (pg_name (i := 2) sc_P_Ratio___sub__.nd rfl (Or.inl rfl)) (pgs_cons (pg_name (i := 3) sc_P_Ratio___sub__.nd rfl (Or.inl rfl)) pgs_nil))))
      (pss_one (ps_ret (pe_cal C_P_made_ratio (hr.mono (by decide)) (pa_cons (pe_op op_sub (pe_op op_mulW (pe_fld (pv 0) rfl) (pv 3)) (pe_op op_mulW (pv 2) (pe_fld (pv 0) rfl))) (pa_cons (pe_op op_mulW (pe_fld (pv 0) rfl) (pv 3)) pa_nil))))))), ?_⟩
    refine ⟨_, rfl, y, t2, b2, rfl, hy, _, rfl, ?_⟩
    refine ⟨_, rfl, y, t2, b2, rfl, hy, fun c hc => ⟨c, _, rfl, .inl (.inl upd_same), rfl, _, _, rfl, _, _, rfl, rfl, ?_⟩⟩
    have hac : (upd H c (.tup [.int t2, .int b2])) a = _ := (upd_ne (ne_of_none ha hc)).trans ha
    refine ⟨_, rfl, a, CR, dx, _, .int t, rfl, hac, R.own.cls, R.nt, rfl, _, rfl, _, _, rfl, rfl, CMulW.of h1 h4, _, rfl, _, rfl, a, CR, dx, _, .int b, rfl, hac, R.own.cls, R.nb, rfl, _, _, rfl, rfl, CMulW.of h3 h2, _, _, rfl, rfl, ?_⟩
    refine ⟨_, rfl, a, CR, dx, _, .int b, rfl, hac, R.own.cls, R.nb, rfl, _, rfl, _, _, rfl, rfl, CMulW.of h2 h4, ?_⟩
    exact ⟨_, _, rfl, h5, mul8000 h2 h4, fun t' b' x H' hl hx e hR => q t' b' x H' hl ((same_upd hc).free hx) ((same_upd hc).trans e) hR⟩
theorem ok_Ratio_mul (F : FnD K "__mul__" "Ratio.__mul__" s_P_Ratio___mul__ f fd) (R : RatioK K CR) (C_P_is_fraction : Cal P w K mg base 3 "is_fraction" ["value"] (spRatV CR (.bl true))) (C_P_terms_of : Cal P w K mg base 1 "terms_of" ["ratio"] (spTermsOf CR)) (C_P_made_ratio : Cal P w K mg base 5 "made_ratio" ["top", "bottom"] (spMadeRatio CR)) :
    FnOk P w K mg base CX0 6 f fd ["self", "other"] (spRatOp CR (fun t b t2 b2 => t * t2) (fun _ b _ b2 => b * b2)) := by
  refine F.ok sc_P_Ratio___mul__ (fun vs H Q E h => ?_) (fun cdv A outer s H vs Q E hr h => ?_)
  · obtain ⟨a, y, t, b, t2, b2, rfl, _⟩ := h.ex; rfl
  · obtain ⟨a, y, t, b, t2, b2, rfl, ⟨dx, ha⟩, hy, h1, h2, h3, h4, h5, q⟩ := h.ex
    refine ⟨_, PSs.nox (pss_cons (ps_if (pt_not (pt_val (pe_cal C_P_is_fraction (hr.mono (by decide)) (pa_cons (pv 1) pa_nil)))) (pss_one ps_never) pss_nil)
      (pss_cons (ps_asg (pe_cal C_P_terms_of (hr.mono (by decide)) (pa_cons (pv 1) pa_nil)) (pg_tup (by rfl) (pgs_cons (pg_name (i := 2) sc_P_Ratio___mul__.nd rfl (Or.inl rfl)) (pgs_cons (pg_name (i := 3) sc_P_Ratio___mul__.nd rfl (Or.inl rfl)) pgs_nil))))
      (pss_one (ps_ret (pe_cal C_P_made_ratio (hr.mono (by decide)) (pa_cons (pe_op op_mulW (pe_fld (pv 0) rfl) (pv 2)) (pa_cons (pe_op op_mulW (pe_fld (pv 0) rfl) (pv 3)) pa_nil))))))), ?_⟩
    refine ⟨_, rfl, y, t2, b2, rfl, hy, _, rfl, ?_⟩
    refine ⟨_, rfl, y, t2, b2, rfl, hy, fun c hc => ⟨c, _, rfl, .inl (.inl upd_same), rfl, _, _, rfl, _, _, rfl, rfl, ?_⟩⟩
    have hac : (upd H c (.tup [.int t2, .int b2])) a = _ := (upd_ne (ne_of_none ha hc)).trans ha
    refine ⟨_, rfl, a, CR, dx, _, .int t, rfl, hac, R.own.cls, R.nt, rfl, _, rfl, _, _, rfl, rfl, CMulW.of h1 h3, ?_⟩
    refine ⟨_, rfl, a, CR, dx, _, .int b, rfl, hac, R.own.cls, R.nb, rfl, _, rfl, _, _, rfl, rfl, CMulW.of h2 h4, ?_⟩
    exact ⟨_, _, rfl, h5, mul8000 h2 h4, fun t' b' x H' hl hx e hR => q t' b' x H' hl ((same_upd hc).free hx) ((same_upd hc).trans e) hR⟩
def spRatNeg (CR : Addr) : Sp := fun vs H Q _ => ∃ (a : Addr) (t b : Int), vs = [.ref a] ∧ RatioAt CR H a t b ∧ b ≠ 0 ∧ b.natAbs < 2 ^ 8000 ∧ ∀ (t' b' : Int) (x : Addr) (H' : Hp), LowT (-t) b t' b' → H x = none → Same H H' → RatioAt CR H' x t' b' → Q (.ref x) H'
theorem ok_Ratio_neg (F : FnD K "__neg__" "Ratio.__neg__" s_P_Ratio___neg__ f fd) (R : RatioK K CR) (C_P_made_ratio : Cal P w K mg base 5 "made_ratio" ["top", "bottom"] (spMadeRatio CR)) : FnOk P w K mg base CX0 6 f fd ["self"] (spRatNeg CR) := by
  refine F.ok sc_P_Ratio___neg__ (fun vs H Q E h => ?_) (fun cdv A outer s H vs Q E hr h => ?_)
  · obtain ⟨a, t, b, rfl, _⟩ := h; rfl
  · obtain ⟨a, t, b, rfl, ⟨dx, ha⟩, b0, bb, q⟩ := h
    refine ⟨_, PSs.nox (pss_one (ps_ret (pe_cal C_P_made_ratio (hr.mono (by decide)) (pa_cons (pe_un un_neg (pe_fld (pv 0) rfl)) (pa_cons (pe_fld (pv 0) rfl) pa_nil))))), ?_⟩
    exact ⟨_, rfl, a, CR, dx, _, .int t, rfl, ha, R.own.cls, R.nt, rfl, t, rfl, _, rfl, a, CR, dx, _, .int b, rfl, ha, R.own.cls, R.nb, rfl, -t, b, rfl, b0, bb, q⟩
def spRatBool (CR : Addr) : Sp := fun vs H Q _ => ∃ (a : Addr) (t b : Int), vs = [.ref a] ∧ RatioAt CR H a t b ∧ Q (.bl (t != 0)) H
theorem ok_Ratio_bool (F : FnD K "__bool__" "Ratio.__bool__" s_P_Ratio___bool__ f fd) (T : Glob mg) (R : RatioK K CR) : FnOk P w K mg base CX0 1 f fd ["self"] (spRatBool CR) := by
  refine F.ok sc_P_Ratio___bool__ (fun vs H Q E h => ?_) (fun cdv A outer s H vs Q E hr h => ?_)
  · obtain ⟨a, t, b, rfl, _⟩ := h; rfl
  · obtain ⟨a, t, b, rfl, ⟨dx, ha⟩, q⟩ := h
    refine ⟨_, PSs.nox (pss_one (ps_ret (pe_callTy call_bool1 (by rfl) T.m_bool (by decide +kernel) (pa_cons (pe_fld (pv 0) rfl) pa_nil)))), ?_⟩
    exact ⟨_, rfl, a, CR, dx, _, .int t, rfl, ha, R.own.cls, R.nt, rfl, .inl ⟨t, rfl, q⟩⟩
structure RatEqP (CR : Addr) (vs : List V) (H : Hp) (Q : VK) : Prop where
  ex : ∃ (a : Addr) (y : V) (t b t2 b2 : Int), vs = [.ref a, y] ∧ RatioAt CR H a t b ∧ RatV CR H y t2 b2 ∧ ∀ r : Bool, (r = true ↔ t = t2 ∧ b = b2) → Q (.bl r) H
def spRatEq (CR : Addr) : Sp := fun vs H Q _ => RatEqP CR vs H Q
theorem ok_Ratio_eq (F : FnD K "__eq__" "Ratio.__eq__" s_P_Ratio___eq__ f fd) (T : Glob mg) (R : RatioK K CR) (G_Ratio : mg "Ratio" = some (.ref CR)) (C_P_is_integer : Cal P w K mg base 1 "is_integer" ["value"] (spIsInt K)) : FnOk P w K mg base CX0 2 f fd ["self", "value"] (spRatEq CR) := by
  refine F.ok sc_P_Ratio___eq__ (fun vs H Q E h => ?_) (fun cdv A outer s H vs Q E hr h => ?_)
  · obtain ⟨a, y, t, b, t2, b2, rfl, _⟩ := h.ex; rfl
  · obtain ⟨a, y, t, b, t2, b2, rfl, ⟨dx, ha⟩, hy, q⟩ := h.ex
    refine ⟨_, PSs.nox (pss_cons (ps_if (pt_val (pe_callB call_isi (by rfl) T.m_isinstance (by decide +kernel) (pa_cons (pv 1) (pa_cons (pe_glob (v := .ref _) rfl G_Ratio rfl) pa_nil)))) (pss_one (ps_ret (pe_and (pe_cmp (pc_eqI (pe_fld (pv 0) rfl) (pe_fld (pv 1) rfl)) rfl) (pe_one (pe_cmp (pc_eqI (pe_fld (pv 0) rfl) (pe_fld (pv 1) rfl)) rfl))))) pss_nil)
      (pss_one (ps_ret (pe_and (pe_cal C_P_is_integer (hr.mono (by decide)) (pa_cons (pv 1) pa_nil)) (pe_and (pe_cmp (pc_eqI (pe_fld (pv 0) rfl) pe_int) rfl) (pe_one (pe_cmp (pc_eqI (pe_fld (pv 0) rfl) (pv 1)) rfl))))))), ?_⟩
    cases hy with
    | @rat a2 _ _ hy =>
      obtain ⟨dx2, hb⟩ := hy
      refine ⟨_, rfl, _, .ref CR, _, _, true, rfl, .own CR, R.own.ty ⟨dx2, _, hb⟩, R.own.kk, _, rfl, ?_⟩
      refine ⟨_, rfl, a, CR, dx, _, .int t, rfl, ha, R.own.cls, R.nt, rfl, _, rfl, a2, CR, dx2, _, .int t2, rfl, hb, R.own.cls, R.nt, rfl, _, _, rfl, rfl, _, rfl, ifd (fun h1 => ?_) (fun h1 => ?_)⟩
      · refine ⟨_, rfl, a, CR, dx, _, .int b, rfl, ha, R.own.cls, R.nb, rfl, _, rfl, a2, CR, dx2, _, .int b2, rfl, hb, R.own.cls, R.nb, rfl, _, _, rfl, rfl, ?_⟩
        refine q _ ?_
        rw [decide_eq_true_iff]
        exact ⟨fun h => ⟨h1, h⟩, fun h => h.2⟩
      · refine q _ ⟨fun h => ?_, fun h => absurd h.1 h1⟩
        exact Bool.noConfusion h
    | int hb =>
      refine ⟨_, rfl, _, .ref CR, _, _, false, rfl, .own CR, .base (.int _), R.own.ki, _, rfl, ?_⟩
      refine ⟨_, rfl, .int t2, true, rfl, .int t2, _, rfl, ?_⟩
      refine ⟨_, rfl, a, CR, dx, _, .int b, rfl, ha, R.own.cls, R.nb, rfl, _, _, rfl, rfl, _, rfl, ifd (fun h1 => ?_) (fun h1 => ?_)⟩
      · refine ⟨_, rfl, a, CR, dx, _, .int t, rfl, ha, R.own.cls, R.nt, rfl, _, rfl, _, _, rfl, rfl, ?_⟩
        refine q _ ?_
        rw [decide_eq_true_iff]
        exact ⟨fun h => ⟨h, h1⟩, fun h => h.1⟩
      · refine q _ ⟨fun h => ?_, fun h => absurd h.2 h1⟩
        exact Bool.noConfusion h
theorem ok_Ratio_over (F : FnD K "over" "Ratio.over" s_P_Ratio_over f fd) (R : RatioK K CR) (C_P_check_ratio : Cal P w K mg base 4 "check_ratio" ["value"] (spRatV CR .non)) (C_P_terms_of : Cal P w K mg base 1 "terms_of" ["ratio"] (spTermsOf CR)) (C_P_made_ratio : Cal P w K mg base 5 "made_ratio" ["top", "bottom"] (spMadeRatio CR)) :
    FnOk P w K mg base CX0 6 f fd ["self", "other"] (spRatOp CR (fun t _ _ b2 => t * b2) (fun _ b t2 _ => b * t2)) := by
  refine F.ok sc_P_Ratio_over (fun vs H Q E h => ?_) (fun cdv A outer s H vs Q E hr h => ?_)
  · obtain ⟨a, y, t, b, t2, b2, rfl, _⟩ := h.ex; rfl
  · obtain ⟨a, y, t, b, t2, b2, rfl, ⟨dx, ha⟩, hy, h1, h2, h3, h4, h5, q⟩ := h.ex
    refine ⟨_, PSs.nox (pss_cons (ps_expr (pe_cal C_P_check_ratio (hr.mono (by decide)) (pa_cons (pv 1) pa_nil)))
      (pss_cons (ps_asg (pe_cal C_P_terms_of (hr.mono (by decide)) (pa_cons (pv 1) pa_nil)) (pg_tup (by rfl) (pgs_cons (pg_name (i := 2) sc_P_Ratio_over.nd rfl (Or.inl rfl)) (pgs_cons (pg_name (i := 3) sc_P_Ratio_over.nd rfl (Or.inl rfl)) pgs_nil))))
      (pss_cons (ps_if (pt_cmp (pc_eqI (pv 2) pe_int)) (pss_one ps_never) pss_nil)
      (pss_one (ps_ret (pe_cal C_P_made_ratio (hr.mono (by decide)) (pa_cons (pe_op op_mulW (pe_fld (pv 0) rfl) (pv 3)) (pa_cons (pe_op op_mulW (pe_fld (pv 0) rfl) (pv 2)) pa_nil)))))))), ?_⟩
    refine ⟨_, rfl, y, t2, b2, rfl, hy, ?_⟩
    refine ⟨_, rfl, y, t2, b2, rfl, hy, fun c hc => ⟨c, _, rfl, .inl (.inl upd_same), rfl, _, _, rfl, _, _, rfl, rfl, ?_⟩⟩
    have hac : (upd H c (.tup [.int t2, .int b2])) a = _ := (upd_ne (ne_of_none ha hc)).trans ha
    refine ⟨_, rfl, _, _, rfl, rfl, _, rfl, ifd (fun z => absurd (by rw [z]; exact Int.mul_zero b) h5) (fun _ => ?_)⟩
    refine ⟨_, rfl, a, CR, dx, _, .int t, rfl, hac, R.own.cls, R.nt, rfl, _, rfl, _, _, rfl, rfl, CMulW.of h1 h4, _, rfl, a, CR, dx, _, .int b, rfl, hac, R.own.cls, R.nb, rfl, _, rfl, _, _, rfl, rfl, CMulW.of h2 h3, ?_⟩
    exact ⟨_, _, rfl, h5, mul8000 h2 h3, fun t' b' x H' hl hx e hR => q t' b' x H' hl ((same_upd hc).free hx) ((same_upd hc).trans e) hR⟩
end
end Sf

namespace Sf
open PySem PySem.Spec PyProof.Rows L2
section
variable {X : Cx}
theorem gcd_args3 (a b c : Value) : argsOk "math.gcd" ⟨[a, b, c], []⟩ := by unfold argsOk; kernel_rfl
theorem gcd_run3 (a b c : Int) (ta tb tc : Tok) : Gives (Builtin.«math.gcd» ⟨[.int a ta, .int b tb, .int c tc], []⟩) (.int ((((Nat.gcd 0 a.natAbs).gcd b.natAbs).gcd c.natAbs : Nat) : Int)) :=
  .of_wp fun M A E s Q h => by
    obtain ⟨hp, g, d, tk, os⟩ := s
    wp_walk
    exact ⟨_, rfl, h⟩
/-- gcd of three integers -/
def rGcd3 : List V → Hp → VK → Prop := fun vs H Q => ∃ a b c : Int, vs = [.int a, .int b, .int c] ∧ Q (.int (((a.natAbs.gcd b.natAbs).gcd c.natAbs : Nat) : Int)) H
theorem cr_gcd3 : CallR X (.builtin "math.gcd") rGcd3 := by
  intro pins s σ H xs us Q I r h
  obtain ⟨a, b, c, rfl, q⟩ := h
  cases r with
  | cons r1 r => cases r with
    | cons r2 r => cases r with
      | cons r3 r =>
        cases r
        obtain ⟨t1, rfl⟩ := r1
        obtain ⟨t2, rfl⟩ := r2
        obtain ⟨t3, rfl⟩ := r3
        have g := gcd_run3 a b c t1 t2 t3
        rw [Nat.gcd_zero_left] at g
        exact call_function_meets PySem.W.MGF.kind_gcd PySem.W.MGF.plain_gcd PySem.W.MGF.entry_gcd (gcd_args3 _ _ _) g.meets ⟨.int _, H, I.tok _, ⟨_, rfl⟩, q⟩
/-- the root of an integer, rounded down -/
def rIsqrt : List V → Hp → VK → Prop := fun vs H Q => ∃ n : Nat, vs = [.int n] ∧ n < 2 ^ 60 ∧ Q (.int (PySem.Float64.isqrt n : Nat)) H
theorem cr_isqrt : CallR X (.builtin "math.isqrt") rIsqrt := by
  intro pins s σ H xs us Q I r h
  obtain ⟨n, rfl, hn, q⟩ := h
  cases r with
  | cons r1 r =>
    cases r
    obtain ⟨t1, rfl⟩ := r1
    have l60 : n.log2 < 60 := by
      by_cases z : n = 0
      · rw [z]; decide
      · exact (Nat.log2_lt z).mpr hn
    have g := PySem.W.mg_run_isqrt (n : Int) t1 (by omega) (by rw [Int.toNat_natCast]; omega) (by rw [Int.toNat_natCast]; omega)
    rw [Int.toNat_natCast] at g
    exact call_function_meets PySem.W.MGF.kind_isqrt PySem.W.MGF.plain_isqrt PySem.W.MGF.entry_isqrt (PySem.W.MGF.args_isqrt _) g.meets ⟨.int _, H, I.tok _, ⟨_, rfl⟩, q⟩
end
end Sf

namespace Sf
open PySem PySem.Spec PyProof.Rows L2
/-! a op b op c op d -/
def tChain3 (r r' r'' : R2) (ta tb tc td : TE) : TE := fun σ H Q => ta σ H fun x H1 => tb σ H1 fun y H2 => r x y H2 fun z H3 => ∃ k, z = V.bl k ∧
  if k = true then tc σ H3 fun y2 H4 => r' y y2 H4 fun z2 H5 => ∃ k2, z2 = V.bl k2 ∧ if k2 = true then td σ H5 fun y3 H6 => r'' y2 y3 H6 Q else Q (.bl false) H5 else Q (.bl false) H3
section
variable {X : Cx} {a b c d : Expr} {ta tb tc td : TE} {pos : Pos} {op op' op'' : CmpOp} {r r' r'' : R2}
theorem pe_chain3 (ho : OpR X (compareOp op) r) (ho' : OpR X (compareOp op') r') (ho'' : OpR X (compareOp op'') r'') (ha : PE X a ta) (hb : PE X b tb) (hc : PE X c tc) (hd : PE X d td) (hm : lastMarks [op, op', op''] [b, c, d] = false := by rfl) :
    PE X (.Compare a [op, op', op''] [b, c, d] pos) (tChain3 r r' r'' ta tb tc td) where
  run := fun pins s σ H Q I h => by
    refine Compare_chain (thn (ha.run pins s σ H _ I h) ?_) hm
    rintro v s1 ⟨x, H1, I1, r1, q1⟩
    refine chain_link (thn (hb.run pins s1 σ H1 _ I1 q1) ?_)
    rintro u s2 ⟨y, H2, I2, r2, q2⟩
    refine thn (ho pins s2 σ H2 x y v u _ I2 r1 r2 q2) ?_
    rintro e s3 ⟨z, H3, I3, r3, k, rfl, q3⟩
    cases r3
    refine wpAny_truthy_bool ?_
    cases k with
    | false => exact ite_ff ⟨.bl false, H3, I3, rfl, q3⟩
    | true =>
      refine ite_tt ?_
      refine chain_link (thn (hc.run pins s3 σ H3 _ I3 q3) ?_)
      rintro u2 s4 ⟨y2, H4, I4, r4, q4⟩
      refine thn (ho' pins s4 σ H4 y y2 u u2 _ I4 r2 r4 q4) ?_
      rintro e2 s5 ⟨z2, H5, I5, r5, k2, rfl, q5⟩
      cases r5
      refine wpAny_truthy_bool ?_
      cases k2 with
      | false => exact ite_ff ⟨.bl false, H5, I5, rfl, q5⟩
      | true =>
        refine ite_tt ?_
        refine chain_last (thn (hd.run pins s5 σ H5 _ I5 q5) ?_)
        rintro u3 s6 ⟨y3, H6, I6, r6, q6⟩
        exact ho'' pins s6 σ H6 y2 y3 u2 u3 _ I6 r4 r6 q6
end
end Sf

namespace Sf
open PySem PySem.Spec PyProof.Rows L2
/-! sorted(set of tuples of integers), also below 0 -/
def BdS (B : Int) (ns : List Int) : Prop := TS.Bd (2 * B) (ns.map (· + B))
def codeS (B : Int) (ns : List Int) : Int := TS.code (2 * B) (ns.map (· + B))
def OkS (h : Heap) (d : Nat) (B : Int) (vs : List Value) : Prop := ∀ v ∈ vs, ∃ ns, TS.TupInts h v ns ∧ ns.length = d ∧ BdS B ns
theorem OkS.keeps {h h' : Heap} {d : Nat} {B : Int} {vs : List Value} (x : OkS h d B vs) (k : ∀ (b : Addr) (o : Obj), h.get? b = some o → o.cls = .type "tuple" → h'.get? b = some o) : OkS h' d B vs := fun v hv => by
  obtain ⟨ns, t, l, b⟩ := x v hv
  exact ⟨ns, t.keeps k, l, b⟩
section
variable {prog : Program} {w : World} {A : Around}
theorem lex_intsS {s : Shared} {Q : Bool → Shared → Prop} {B : Int} {b : Bool} {xs : List Value} {ns : List Int} (hx : IntsAre xs ns) : ∀ {ys : List Value} {ms : List Int} (i : Nat), IntsAre ys ms → ns.length = ms.length → BdS B ns → BdS B ms →
    Q (decide (codeS B ns < codeS B ms)) s → PySem.W.KatLex prog w A b false Q (xs.zip ys) i s := by
  induction hx with
  | nil =>
    intro ys ms i hy hl h1 h2 h
    cases hy with
    | nil =>
      have e := decide_eq_false (Int.lt_irrefl (codeS B []))
      rw [e] at h
      exact PySem.W.kat_nil h
    | cons q u hy => cases hl
  | cons p t hx ih =>
    rename_i xs ns
    intro ys ms i hy hl h1 h2 h
    cases hy with
    | nil => cases hl
    | @cons q u ys ms hy =>
      have hl' : ns.length = ms.length := by simpa using hl
      have hl2 : (ns.map (· + B)).length = (ms.map (· + B)).length := by rw [List.length_map, List.length_map]; exact hl'
      refine PySem.W.kat_cons (wpAny_eqBool_int ?_)
      by_cases e : p = q
      · subst e
        rw [beq_self_eq_true]
        refine PySem.W.kat_yes (ih (i + 1) hy hl' h1.tail h2.tail ?_)
        rw [show decide (codeS B ns < codeS B ms) = decide (codeS B (p :: ns) < codeS B (p :: ms)) from (decide_eq_decide.mpr (TS.code_same hl2)).symm]
        exact h
      · rw [beq_eq_false_iff_ne.mpr e]
        refine PySem.W.kat_no (TS.oneLt_ints (b && i == 0) ?_)
        rw [show decide (p < q) = decide (codeS B (p :: ns) < codeS B (q :: ms)) from ?_]
        · exact h
        refine decide_eq_decide.mpr ⟨fun x => TS.code_lt hl2 h1.tail h2.tail (show p + B < q + B by omega), fun x => ?_⟩
        rcases Int.lt_trichotomy p q with y | y | y
        · exact y
        · exact absurd y e
        · have : codeS B (q :: ms) < codeS B (p :: ns) := TS.code_lt hl2.symm h2.tail h1.tail (show q + B < p + B by omega)
          have x2 := x
          omega
theorem firstsS {h : Heap} {d : Nat} {B : Int} (hd : 1 ≤ d) : ∀ vs : List Value, OkS h d B vs → ∃ fs, PySem.W.KatTups h vs fs ∧ fs.length = vs.length ∧ ∀ f ∈ fs, ∃ n t, f = Value.int n t
  | [], _ => ⟨[], PySem.W.KatTups.nil, rfl, fun f hf => by cases hf⟩
  | v :: vs, x => by
    obtain ⟨fs, k, hl, hi⟩ := firstsS hd vs fun u hu => x u (List.mem_cons_of_mem v hu)
    obtain ⟨ns, ⟨a, xs, rfl, ⟨o, ho, hc, n, hdt⟩, i⟩, hn, _⟩ := x v List.mem_cons_self
    have e : ∃ y ys, xs.toList = y :: ys := by
      cases q : xs.toList with
      | nil =>
        rw [q] at i
        have := i.length
        simp at this
        omega
      | cons y ys => exact ⟨y, ys, rfl⟩
    obtain ⟨y, ys, e⟩ := e
    obtain ⟨m, t, hy⟩ := i.all y (by rw [e]; exact List.mem_cons_self)
    refine ⟨y :: fs, PySem.W.KatTups.cons ho hc hdt ?_ k, by simp [hl], fun f hf => ?_⟩
    · have z := congrArg (fun l => l[0]?) e
      simpa using z
    · rcases List.mem_cons.mp hf with rfl | hf
      · exact ⟨m, t, hy⟩
      · exact hi f hf
theorem kind_tupsS {E : Value → Shared → Prop} {s : Shared} {d : Nat} {B : Int} {vs : List Value} (hd : 1 ≤ d) (h2 : 2 ≤ vs.length) (x : OkS s.heap d B vs) (r : Value → Int)
    (hr : ∀ v ∈ vs, ∀ ns, TS.TupInts s.heap v ns → r v = codeS B ns) (Q : SortKind → Shared → Prop) (h : ∀ κ, TS.Cmp prog w A s κ (pairsOf vs) r → Q κ s) : wpAny (model prog w) A (keyKind' vs.toArray) Q E s := by
  obtain ⟨fs, k, hl, hi⟩ := firstsS hd vs x
  refine PySem.W.kat_kind k (by omega) (fun f hf => ?_) rfl (h (tuples' (Value.type "int" != Value.type "tuple")) fun p q hp hq Q' E' hQ => ?_)
  · obtain ⟨n, t, rfl⟩ := hi f hf
    exact PySem.W.Looks.of_pure rfl
  · rw [pairsOf_toList] at hp hq
    obtain ⟨ns, tp, lp, bp⟩ := x p.fst (mem_zip_self hp).right
    obtain ⟨ms, tq, lq, bq⟩ := x q.fst (mem_zip_self hq).right
    have ep := hr p.fst (mem_zip_self hp).right ns tp
    have eq2 := hr q.fst (mem_zip_self hq).right ms tq
    rw [ep, eq2] at hQ
    obtain ⟨a, xs, e1, ⟨o, ho, hc, n, hdt⟩, i⟩ := tp
    obtain ⟨a', ys, e2, ⟨o', ho', hc', n', hdt'⟩, i'⟩ := tq
    rw [e1, e2]
    refine PySem.W.kat_lt ho hdt ho' hdt' ?_
    have l1 := i.length
    have l2 := i'.length
    rw [Array.length_toList] at l1 l2
    have sz := lex_intsS (prog := prog) (w := w) (A := A) (b := (Value.type "int" != Value.type "tuple")) i 0 i' (by omega) bp bq hQ
    rw [decide_eq_false (by omega : ¬ xs.size < ys.size)]
    exact sz
theorem sort_tupsS {E : Value → Shared → Prop} {s : Shared} {a : Addr} {vs : List Value} {n d : Nat} {B : Int} {P : Fin → Shared → Prop} (ho : s.heap.get? a = some (seqObj "list" vs.toArray n)) (h64 : vs.length < 64) (hd : 1 ≤ d) (x : OkS s.heap d B vs) (r : Value → Int)
    (hr : ∀ v ∈ vs, ∀ ns, TS.TupInts s.heap v ns → r v = codeS B ns) (h : ∀ out : Array Value, out.toList.Perm vs → out.toList.Pairwise (fun u v => r u ≤ r v) → P (.done (.ret .none)) { heap := sortedHeap s.heap a vs out, gens := s.gens, drawn := s.drawn, toks := s.toks, os := s.os }) :
    wpAny (model prog w) A (PySem.Builtin.«list.sort» { pos := [.ref a] }) P E s := by
  have keep : ∀ (b : Addr) (o : Obj), s.heap.get? b = some o → o.cls = .type "tuple" → (TS.midHeap s.heap a vs).get? b = some o := fun b o e hc => by
    refine TS.midHeap_old (fun z => ?_) e
    subst z
    rw [ho] at e
    have e' := Option.some.inj e
    rw [← e'] at hc
    have c' : Value.type "list" = Value.type "tuple" := hc
    injection c' with c2
    exact absurd c2 (by decide)
  refine SK.plain_sort ho h64 (fun h2 Q hQ => kind_tupsS hd h2 (x.keeps keep) r (fun v hv ns t => ?_) Q hQ) fun ps out h1 h2 h3 => ?_
  · obtain ⟨ns0, t0, _⟩ := x v hv
    have e := t.ints.symm.trans (t0.keeps keep).ints
    rw [e]
    exact hr v hv ns0 t0
  · obtain ⟨p, o⟩ := TS.out_rank h1 h2 h3
    exact h out p o
theorem call_sort_tupsS {E : Value → Shared → Prop} {s : Shared} {a : Addr} {vs : List Value} {n d : Nat} {B : Int} {Q : Value → Shared → Prop} (ho : s.heap.get? a = some (seqObj "list" vs.toArray n)) (h64 : vs.length < 64) (hd : 1 ≤ d) (x : OkS s.heap d B vs)
    (h : ∀ out : Array Value, out.toList.Perm vs → out.toList.Pairwise (fun u v => codeS B (TS.intsOf s.heap u) ≤ codeS B (TS.intsOf s.heap v)) → Q .none { heap := sortedHeap s.heap a vs out, gens := s.gens, drawn := s.drawn, toks := s.toks, os := s.os }) :
    wpAny (model prog w) A (call (.builtin "list.sort") [.ref a]) Q E s :=
  wpAny_call_entry slot_list_sort ⟨seqObj "list" vs.toArray n, ho, rfl⟩ entry_list_sort (sort_tupsS ho h64 hd x (fun v => codeS B (TS.intsOf s.heap v)) (fun v _ ns t => by rw [t.ints]) fun out h1 h2 => ⟨.none, rfl, h out h1 h2⟩) (args_list_sort (.ref a))
theorem sorted_setS {E : Value → Shared → Prop} {s : Shared} {a : Addr} {L : List (Addr × List Int)} {es : Array (Int × Value)} {ep : Nat} {t : SetTable} {Q : Value → Shared → Prop} (R : SetTR prog w s.heap a L es ep t) (hh : A.handled = none) {d : Nat} {B : Int} (hd1 : 1 ≤ d)
    (hB : ∀ p ∈ L, p.2.length = d ∧ BdS B p.2)
    (hQ : ∀ (s' : Shared) (p : Nat) (out : Array Value) (c : Nat) (L' : List (Addr × List Int)), (∀ (b : Addr) (o : Obj), s.heap.get? b = some o → s'.heap.get? b = some o) → s'.gens = s.gens → s'.os = s.os → s.heap.objs.size ≤ p → s'.heap.get? p = some (seqObj "list" out c) →
      out.toList = L'.map (fun q => Value.ref q.1) → L'.Perm L → L'.Pairwise (fun q r => codeS B q.2 ≤ codeS B r.2) → Q (.ref p) s') :
    wpAny (model prog w) A (call (.builtin "sorted") [.ref a]) Q E s := by
  obtain ⟨o, ho, hex, hd⟩ := R.ob
  have hsz := R.size
  have hfew := R.few
  refine PySem.Calls.call_function_entry kind_sorted plain_sorted entry_sorted (args_sorted1 (.ref a)) ?_
  refine wpAny_bind (wpAny_pure (wpAny_bind (L2.collect_set hh ⟨o, ho, hex.left, hd⟩ R.fits (Nat.lt_of_lt_of_le (by omega : es.size < 64) (by decide)) R.tab.ris R.led fun s1 vs k1 hz g1 o1 pm => ?_)))
  have hes : es.toList.map (fun x => x.2) = L.map (fun q => Value.ref q.1) := by
    rw [R.rows]
    show ((L.map fun p => (L2.thash prog w p.2, Value.ref p.1))).map (fun x => x.2) = _
    rw [List.map_map]
    rfl
  rw [hes] at pm
  have ord : ∀ vs : List Value, (∀ v ∈ vs, ∃ q ∈ L, v = Value.ref q.1) → ∃ L1 : List (Addr × List Int), vs = L1.map (fun q => Value.ref q.1) ∧ ∀ q ∈ L1, q ∈ L := by
    intro vs
    induction vs with
    | nil => exact fun _ => ⟨[], rfl, fun q hq => by cases hq⟩
    | cons v vs ih =>
      intro hv
      obtain ⟨q, hq, e⟩ := hv v List.mem_cons_self
      obtain ⟨L1, e1, hs⟩ := ih fun u hu => hv u (List.mem_cons_of_mem v hu)
      refine ⟨q :: L1, by rw [List.map_cons, e, ← e1], fun r hr => ?_⟩
      rcases List.mem_cons.mp hr with z | z
      · rw [z]; exact hq
      · exact hs r z
  have one : ∀ q ∈ L, ∀ r ∈ L, q.1 = r.1 → q = r := fun q hq r hr e => by
    have a1 := R.tup q hq
    have a2 := R.tup r hr
    rw [e] at a1
    exact Prod.ext e (PySem.IsTupleKey.inj a1 a2)
  have perm_of : ∀ L1 : List (Addr × List Int), (∀ q ∈ L1, q ∈ L) → (L1.map (fun q => Value.ref q.1)).Perm (L.map (fun q => Value.ref q.1)) → L1.Perm L := fun L1 hs pm1 => by
    have nL := L2.nodup_of_map R.nd
    have nref : (L.map (fun q => Value.ref q.1)).Nodup := List.pairwise_map.mpr (List.Pairwise.imp_of_mem (fun {q r} hq hr hne e => hne (one q hq r hr (by injection e))) nL)
    have n1 := L2.nodup_of_map ((List.Perm.nodup_iff pm1).mpr nref)
    refine (List.perm_ext_iff_of_nodup n1 nL).mpr fun q => ⟨hs q, fun hq => ?_⟩
    obtain ⟨r, hr, e⟩ := List.mem_map.mp (pm1.mem_iff.mpr (List.mem_map.mpr ⟨q, hq, rfl⟩))
    have e1 : r.1 = q.1 := by injection e
    rw [← one r (hs r hr) q hq e1]
    exact hr
  have hvl : vs.length < 64 := by
    rw [pm.length_eq, List.length_map]
    exact hfew
  refine wpAny_bind (wpAny_newList ?_ (by rw [PySem.sizeLine_eq]; omega))
  have hoL : (s1.heap.push (seqObj "list" vs.toArray 0)).get? s1.heap.objs.size = some (seqObj "list" vs.toArray 0) := PySem.Heap.get?_push_size s1.heap rfl
  have tk : ∀ q ∈ L, TS.TupInts (s1.heap.push (seqObj "list" vs.toArray 0)) (.ref q.1) q.2 := fun q hq => L2.tupInts_of (L2.isT_keep (R.tup q hq) fun b u e => PySem.Heap.get?_push_of_some (seqObj "list" vs.toArray 0) (k1 b u e))
  have x : OkS (s1.heap.push (seqObj "list" vs.toArray 0)) d B vs := fun v hv => by
    obtain ⟨q, hq, e⟩ := List.mem_map.mp (pm.mem_iff.mp hv)
    rw [← e]
    exact ⟨q.2, tk q hq, (hB q hq).1, (hB q hq).2⟩
  refine wpAny_bind (wpAny_holding (call_sort_tupsS (s := { heap := s1.heap.push (seqObj "list" vs.toArray 0), gens := s1.gens, drawn := s1.drawn, toks := s1.toks, os := s1.os }) hoL hvl hd1 x fun out a1 a2 => ?_))
  obtain ⟨c, hc⟩ := sortedHeap_at (out := out) hoL
  obtain ⟨L', e', hs'⟩ := ord out.toList fun v hv => by
    obtain ⟨q, hq, e⟩ := List.mem_map.mp (pm.mem_iff.mp (a1.mem_iff.mp hv))
    exact ⟨q, hq, e.symm⟩
  have pL := perm_of L' hs' (by rw [← e']; exact a1.trans pm)
  have pw : L'.Pairwise (fun q r => codeS B q.2 ≤ codeS B r.2) := by
    rw [e'] at a2
    refine List.Pairwise.imp_of_mem (fun {q r} hq hr hle => ?_) (List.pairwise_map.mp a2)
    have f1 := (tk q (hs' q hq)).ints
    have f2 := (tk r (hs' r hr)).ints
    rw [← f1, ← f2]
    exact hle
  refine wpAny_pure ⟨.ref s1.heap.objs.size, rfl, hQ _ s1.heap.objs.size out c L' (fun b u e => ?_) g1 o1 hz hc e' pL pw⟩
  have q := k1 b u e
  have hlt := PySem.Heap.lt_size q
  show (sortedHeap (s1.heap.push (seqObj "list" vs.toArray 0)) s1.heap.objs.size vs out).get? b = some u
  rw [sortedHeap_old (Nat.ne_of_lt hlt) (by rw [size_push']; exact Nat.lt_succ_of_lt hlt)]
  exact PySem.Heap.get?_push_of_some (seqObj "list" vs.toArray 0) q
end
/-- sorted(s) of a set of tuples of d integers, each between -B and B -/
def rSortedS2 (K : PySem.W.Frag) (P : Program) (w : World) : List V → Hp → VK → Prop := fun vs H Q => ∃ (a : Addr) (L : List (Addr × List Int)) (d : Nat) (B : Int), vs = [.ref a] ∧ H a = some (SetTO P w a L) ∧ (∀ p ∈ L, SqT K H p.1 (p.2.map V.int)) ∧ 1 ≤ d ∧ (∀ p ∈ L, p.2.length = d ∧ BdS B p.2) ∧
  ∀ (L' : List (Addr × List Int)) (p : Addr), L'.Perm L → (L'.map (·.2)).Nodup → L'.length < 64 → L'.Pairwise (fun q r => codeS B q.2 ≤ codeS B r.2) → H p = none → Q (.ref p) (upd H p (.lst (L'.map fun q => V.ref q.1)))
theorem cr_sortedS2 {X : Cx} (hc : X.calm = true) : CallR X (.builtin "sorted") (rSortedS2 X.K X.prog X.w) := by
  intro pins s σ H vs us Q I r h
  obtain ⟨a, L, d, B, rfl, ha, hk, hd, hB, q⟩ := h
  have R0 := (I.hok a (SetTO X.prog X.w a L) ha).left
  obtain ⟨es, ep, t, R⟩ := SetT0.full R0 fun p hp => Inv.isT I (hk p hp)
  rw [Vals.ref1 r]
  refine sorted_setS R (I.ok.hd hc) hd hB fun s' p out c L' k g o hp hg hout pm pw => ?_
  have hfew : L'.length < 64 := by rw [pm.length_eq]; exact R.few
  have hlen : (L'.map fun q => V.ref q.1).length ≤ sizeLine := by
    rw [List.length_map, sizeLine_eq]
    omega
  have hn := HOk.fresh I.hok hp
  have hv : Vals (L'.map fun q => V.ref q.1) out.toList := by
    rw [hout]
    exact vals_of_refs L'
  have J : L2.Inv X pins σ (upd H p (.lst (L'.map fun q => V.ref q.1))) { heap := s'.heap, gens := s'.gens, drawn := s'.drawn, toks := s'.toks, os := s.os } :=
    Inv.call (ch := []) I (Un.laid k hp hn) (HOk.laid I.hok k hp ⟨hlen, out.toList, c, hv, hg⟩) (by rw [g]; exact I.bare) (fun x z => by cases z)
  have e : s' = { heap := s'.heap, gens := s'.gens, drawn := s'.drawn, toks := s'.toks, os := s.os } := by rw [← o]
  rw [e]
  exact ⟨.ref p, _, J, rfl, q L' p pm (((pm.map (fun x => x.2)).nodup_iff).mpr R.nd) hfew pw hn⟩
end Sf

namespace Sf
open PySem PySem.Spec PyProof.Rows L2
section
variable {P : Program} {w : World} {K : PySem.W.Frag} {mg : Str → Option Value} {base : Heap} {f : Addr} {fd : FuncData}
/-- three integers in a tuple -/
def ThreeI (H : Hp) (t : Addr) (a b c : Int) : Prop := H t = some (.tup [.int a, .int b, .int c])
def spTripI : Sp := fun vs H Q _ => ∃ (t : Addr) (a b c : Int), vs = [.ref t] ∧ ThreeI H t a b c ∧ ∀ H', Same H H' → Q (.bl true) H'
theorem ok_is_triple (F : FnD K "is_triple" "is_triple" s_P_is_triple f fd) (T : Glob mg) (C_P_is_integer : Cal P w K mg base 1 "is_integer" ["value"] (spIsInt K)) : FnOk P w K mg base CX0 2 f fd ["value"] spTripI := by
  refine F.ok sc_P_is_triple (fun vs H Q E h => ?_) (fun cdv A outer s H vs Q E hr h => ?_)
  · obtain ⟨t, a, b, c, rfl, _⟩ := h; rfl
  · obtain ⟨e, a, b, c, rfl, he, q⟩ := h
    refine ⟨_, PSs.nox (pss_one (ps_ret (pe_and (pe_callB call_isi (by rfl) T.m_isinstance (by decide +kernel) (pa_cons (pv 0) (pa_cons (pe_bltn (v := .ty "tuple") (u := .type "tuple") (by rfl) T.m_tuple (by decide +kernel) rfl) pa_nil))) (pe_and (pe_cmp (pc_eqI (pe_callB call_len_seq (by rfl) T.m_len (by decide +kernel) (pa_cons (pv 0) pa_nil)) pe_int) rfl) (pe_one (pe_callB (cr_all rfl) (by rfl) T.m_all (by decide +kernel) (pa_cons (pe_lc rfl sc_P_is_triple.nd (own := [("part", 1)]) (pi_tup (pv 0)) (blkOk_by (N := ["value", "part"]) (sc := defScope s_P_is_triple) (by decide +kernel)) (fun _ _ _ _ _ => pg_name (i := 1) sc_P_is_triple.nd rfl (Or.inl rfl)) (fun _ _ _ _ _ => pts_nil) (fun _ _ _ _ _ => (pe_cal C_P_is_integer (hr.mono (by decide)) (pa_cons (pv 1) pa_nil)))) pa_nil))))))), ?_⟩
    refine ⟨_, rfl, _, .ty "tuple", _, _, true, rfl, .ty "tuple", .base (.tup he), (by show kitB "tuple" "tuple" = some true; decide +kernel), _, rfl, ?_⟩
    refine ⟨_, rfl, e, _, rfl, .inr (SqT.of he), _, _, rfl, rfl, _, rfl, ifd (fun h3 => ?_) (fun h3 => absurd rfl h3)⟩
    refine ⟨_, rfl, e, rfl, ⟨_, SqT.of he⟩, fun D hD => lc_tup (K := K) (a := e) (xs := [.int a, .int b, .int c]) (fun i H' => Same H H' ∧ H' D = some (.lst (List.replicate i (.bl true)))) ⟨same_upd hD, upd_same⟩ (fun i H' _ hp => SqT.of (hp.1 _ _ he)) (fun i v H' hv' hp => ?_) (fun H' hp => ?_)⟩
    · obtain ⟨e1, hd⟩ := hp
      refine ⟨rfl, ?_⟩
      have hi := (List.getElem?_eq_some_iff.mp hv').1
      have hi3 : i < 3 := hi
      have hvi : IntB K H' v true := by
        have c : v = .int a ∨ v = .int b ∨ v = .int c := by simpa using List.mem_of_getElem? hv'
        rcases c with rfl | rfl | rfl <;> exact .int _
      refine ⟨_, rfl, v, true, rfl, hvi, ?_⟩
      refine ⟨_, hd, ?_, ?_, ?_⟩
      · rw [List.length_replicate]
        exact Nat.lt_of_lt_of_le hi3 (by decide)
      · intro b o eb
        rw [upd_ne (ne_of_none eb hD)]
        exact e1 _ _ eb
      · rw [upd_same, List.replicate_succ']
    · obtain ⟨e1, hd⟩ := hp
      exact ⟨D, _, rfl, SqL.of (show H' D = some (.lst ([true, true, true].map V.bl)) from hd), q _ e1⟩
structure TwoP (vs : List V) (H : Hp) (Q : VK) : Prop where
  ex : ∃ (t : Addr) (a b c : Int), vs = [.ref t] ∧ ThreeI H t a b c ∧ 0 < a ∧ b * b < 4 * a * c ∧ a.natAbs < 1000000 ∧ b.natAbs < 1000000 ∧ c.natAbs < 1000000 ∧ ∀ H', Same H H' → Q (.bl true) H'
def spTwo : Sp := fun vs H Q _ => TwoP vs H Q
theorem ok_is_two_form (F : FnD K "is_two_form" "is_two_form" s_P_is_two_form f fd) (T : Glob mg) (C_P_is_triple : Cal P w K mg base 2 "is_triple" ["value"] spTripI) : FnOk P w K mg base CX0 3 f fd ["value"] spTwo := by
  refine F.ok sc_P_is_two_form (fun vs H Q E h => ?_) (fun cdv A outer s H vs Q E hr h => ?_)
  · obtain ⟨t, a, b, c, rfl, _⟩ := h.ex; rfl
  · obtain ⟨t, a, b, c, rfl, ht, ha, hD, ba, bb, bc, q⟩ := h.ex
    refine ⟨_, PSs.nox (pss_one (ps_ret (pe_and (pe_cal C_P_is_triple (hr.mono (by decide)) (pa_cons (pv 0) pa_nil)) (pe_and (pe_cmp (pc_gt (pe_ix ix_tup (pv 0) pe_int (fun _ _ => rfl)) pe_int) rfl) (pe_one (pe_cmp (pc_gt (pe_op op_mulW (pe_op op_mulW pe_int (pe_ix ix_tup (pv 0) pe_int (fun _ _ => rfl))) (pe_ix ix_tup (pv 0) pe_int (fun _ _ => rfl))) (pe_op op_mulW (pe_ix ix_tup (pv 0) pe_int (fun _ _ => rfl)) (pe_ix ix_tup (pv 0) pe_int (fun _ _ => rfl)))) rfl)))))), ?_⟩
    refine ⟨_, rfl, t, a, b, c, rfl, ht, fun H1 e1 => ?_⟩
    have h1 := e1 _ _ ht
    have hS := SqT.of (K := K) h1
    have wa : a.natAbs < 2 ^ 3000 := lt3000s (by omega) (by omega)
    have wb : b.natAbs < 2 ^ 3000 := lt3000s (by omega) (by omega)
    have wc : c.natAbs < 2 ^ 3000 := lt3000s (by omega) (by omega)
    have w4 : (4 * a).natAbs < 2 ^ 3000 := lt3000s (by omega) (by omega)
    refine ⟨_, rfl, (if_pos rfl).mpr ?_⟩
    refine ⟨_, rfl, t, _, 0, .int a, rfl, rfl, hS, rfl, _, _, rfl, rfl, ?_⟩
    refine ⟨_, rfl, ifd (fun _ => ?_) (fun h => absurd ha h)⟩
    refine ⟨_, rfl, t, _, 0, .int a, rfl, rfl, hS, rfl, _, _, rfl, rfl, CMulW.of (by decide +kernel) wa, ?_⟩
    refine ⟨_, rfl, t, _, 2, .int c, rfl, rfl, hS, rfl, _, _, rfl, rfl, CMulW.of w4 wc, ?_⟩
    refine ⟨_, rfl, t, _, 1, .int b, rfl, rfl, hS, rfl, _, rfl, t, _, 1, .int b, rfl, rfl, hS, rfl, _, _, rfl, rfl, CMulW.of wb wb, _, _, rfl, rfl, ?_⟩
    show Q (.bl (decide (b * b < 4 * a * c))) H1
    rw [decide_eq_true hD]
    exact q _ e1
/-- reduced: -a < b <= a <= c, and b not below 0 where a = c -/
abbrev RedQ (a b c : Int) : Prop := -a < b ∧ b ≤ a ∧ a ≤ c ∧ (a < c ∨ 0 ≤ b)
structure RedP (vs : List V) (H : Hp) (Q : VK) : Prop where
  ex : ∃ (t : Addr) (a b c : Int), vs = [.ref t] ∧ ThreeI H t a b c ∧ 0 < a ∧ b * b < 4 * a * c ∧ a.natAbs < 1000000 ∧ b.natAbs < 1000000 ∧ c.natAbs < 1000000 ∧ ∀ H', Same H H' → Q (.bl (decide (RedQ a b c))) H'
def spRed : Sp := fun vs H Q _ => RedP vs H Q
theorem ok_is_reduced (F : FnD K "is_reduced" "is_reduced" s_P_is_reduced f fd) (C_P_is_two_form : Cal P w K mg base 3 "is_two_form" ["value"] spTwo) : FnOk P w K mg base CX0 4 f fd ["value"] spRed := by
  refine F.ok sc_P_is_reduced (fun vs H Q E h => ?_) (fun cdv A outer s H vs Q E hr h => ?_)
  · obtain ⟨t, a, b, c, rfl, _⟩ := h.ex; rfl
  · obtain ⟨t, a, b, c, rfl, ht, ha, hD, ba, bb, bc, q⟩ := h.ex
    refine ⟨_, PSs.nox (pss_cons (ps_if (pt_not (pt_val (pe_cal C_P_is_two_form (hr.mono (by decide)) (pa_cons (pv 0) pa_nil)))) (pss_one (ps_ret pe_bl)) pss_nil)
      (pss_cons (ps_asg (pv 0) (pg_tup (by rfl) (pgs_cons (pg_name (i := 1) sc_P_is_reduced.nd rfl (Or.inl rfl)) (pgs_cons (pg_name (i := 2) sc_P_is_reduced.nd rfl (Or.inl rfl)) (pgs_cons (pg_name (i := 3) sc_P_is_reduced.nd rfl (Or.inl rfl)) pgs_nil)))))
      (pss_one (ps_ret (pe_and (pe_chain3 op_lt op_le op_le (pe_un un_neg (pv 1)) (pv 2) (pv 1) (pv 3)) (pe_one (pe_or (pe_cmp (pc_lt (pv 1) (pv 3)) rfl) (pe_one (pe_cmp (pc_ge (pv 2) pe_int) rfl))))))))), ?_⟩
    refine ⟨_, rfl, ⟨t, a, b, c, rfl, ht, ha, hD, ba, bb, bc, fun H1 e1 => ?_⟩⟩
    have h1 := e1 _ _ ht
    replace q : ∀ r : Bool, (r = true ↔ RedQ a b c) → Q (.bl r) H1 := fun r hr => by
      have z := q _ e1
      rw [show decide (RedQ a b c) = r by rw [Bool.eq_iff_iff, decide_eq_true_iff]; exact hr.symm] at z
      exact z
    refine ⟨_, rfl, iteF ?_⟩
    refine ⟨_, rfl, t, _, rfl, .inl (.inl h1), rfl, _, _, rfl, _, _, rfl, _, _, rfl, rfl, ?_⟩
    refine ⟨_, rfl, _, rfl, _, rfl, _, _, rfl, rfl, _, rfl, ifd (fun h1 => ?_) (fun h1 => ⟨_, rfl, (if_neg (by decide)).mpr (q _ ⟨fun z => Bool.noConfusion z, fun z => absurd z.1 h1⟩)⟩)⟩
    refine ⟨_, rfl, _, _, rfl, rfl, _, rfl, ifd (fun h2 => ?_) (fun h2 => ⟨_, rfl, (if_neg (by decide)).mpr (q _ ⟨fun z => Bool.noConfusion z, fun z => absurd z.2.1 h2⟩)⟩)⟩
    refine ⟨_, rfl, _, _, rfl, rfl, _, rfl, ifd (fun h3 => ?_) (fun h3 => q _ ⟨fun z => Bool.noConfusion z, fun z => absurd z.2.2.1 h3⟩)⟩
    refine ⟨_, rfl, _, rfl, _, _, rfl, rfl, _, rfl, ifd (fun h4 => ?_) (fun h4 => ?_)⟩
    · exact q _ ⟨fun _ => ⟨h1, h2, h3, .inl h4⟩, fun _ => rfl⟩
    · refine ⟨_, rfl, _, _, rfl, rfl, q _ ?_⟩
      rw [decide_eq_true_iff]
      exact ⟨fun h5 => ⟨h1, h2, h3, .inr h5⟩, fun z => z.2.2.2.resolve_left h4⟩
end
end Sf

namespace Sf
/-! class numbers, as the program counts them -/
def okAB (n a s : Nat) : Bool :=
  let d := (s - a) + (a - s)
  let N := n + d * d
  let c := N / (4 * a)
  Nat.beq (N % (4 * a)) 0 && (Nat.beq ((a.gcd d).gcd c) 1 && (Nat.ble a c && (Nat.blt a c || Nat.ble a s)))
def cntA (n a : Nat) (m : Nat) : Nat := Nat.rec 0 (fun i ih => ih + cond (okAB n a (i + 1)) 1 0) m
def cntB (n : Nat) (A : Nat) : Nat := Nat.rec 0 (fun j ih => ih + cntA n (j + 1) (2 * (j + 1))) A
theorem cntA_zero (n a : Nat) : cntA n a 0 = 0 := rfl
theorem cntA_succ (n a m : Nat) : cntA n a (m + 1) = cntA n a m + cond (okAB n a (m + 1)) 1 0 := rfl
theorem cntB_zero (n : Nat) : cntB n 0 = 0 := rfl
theorem cntB_succ (n m : Nat) : cntB n (m + 1) = cntB n m + cntA n (m + 1) (2 * (m + 1)) := rfl
theorem cntA_le (n a : Nat) : ∀ m, cntA n a m ≤ m
  | 0 => Nat.le_refl _
  | m + 1 => by
    rw [cntA_succ]
    have := cntA_le n a m
    cases okAB n a (m + 1) <;> simp only [cond_true, cond_false] <;> omega
theorem cntB_le (n : Nat) : ∀ m, m ≤ 30 → cntB n m ≤ 60 * m
  | 0, _ => Nat.le_refl _
  | m + 1, h => by
    rw [cntB_succ]
    have h1 := cntB_le n m (by omega)
    have h2 := cntA_le n (m + 1) (2 * (m + 1))
    omega
theorem isqrt_le : ∀ n : Fin 700, PySem.Float64.isqrt n.1 ≤ 30 := by decide +kernel
def cls (n : Nat) : Nat := cntB n (PySem.Float64.isqrt (n / 3))
theorem cls_root {n : Nat} (h : n ≤ 2000) : PySem.Float64.isqrt (n / 3) ≤ 30 := isqrt_le ⟨n / 3, by omega⟩
theorem okAB_iff {n a s : Nat} (b : Int) (ha : 0 < a) (hs : 0 < s) (h2 : s ≤ 2 * a) (e : b = (s : Int) - a) : okAB n a s = true ↔
    ((n + b * b) % (4 * a) = 0 ∧ (((a.gcd b.natAbs).gcd ((n + b * b) / (4 * a)).natAbs : Nat) : Int) = 1 ∧ (-(a : Int) < b ∧ b ≤ a ∧ (a : Int) ≤ (n + b * b) / (4 * a) ∧ ((a : Int) < (n + b * b) / (4 * a) ∨ 0 ≤ b))) := by
  have hd : (s - a) + (a - s) = b.natAbs := by omega
  have hN : ((n : Int) + b * b) = ((n + b.natAbs * b.natAbs : Nat) : Int) := by
    rw [Int.natCast_add, Int.natCast_mul, Int.natAbs_mul_self']
  unfold okAB
  rw [hd, hN]
  have h4 : ((4 : Int) * (a : Int)) = ((4 * a : Nat) : Int) := by omega
  rw [h4, ← Int.natCast_ediv, ← Int.natCast_emod, Int.natAbs_natCast]
  dsimp only
  generalize (n + b.natAbs * b.natAbs) % (4 * a) = r
  generalize (n + b.natAbs * b.natAbs) / (4 * a) = c
  simp only [Bool.and_eq_true, Bool.or_eq_true, Nat.ble_eq, Nat.blt_eq]
  generalize (a.gcd b.natAbs).gcd c = g
  rw [Nat.beq_eq, Nat.beq_eq]
  clear hN hd h4
  omega
/-- 24 h / w, and the sum over the square divisors -/
def unitsN (n : Nat) : Nat := if n = 3 then 6 else if n = 4 then 4 else 2
end Sf

namespace Sf
/-! the reduced forms as lists: the program's, and the law's -/
theorem isqrt_spec3 : ∀ n : Fin 700, PySem.Float64.isqrt n.1 * PySem.Float64.isqrt n.1 ≤ n.1 ∧ n.1 < (PySem.Float64.isqrt n.1 + 1) * (PySem.Float64.isqrt n.1 + 1) := by decide +kernel
def rowP (n a m : Nat) : List (List Int) := Nat.rec [] (fun k ih => ih ++ cond (okAB n a (k + 1)) [[(a : Int), (k : Int) + 1 - a, ((n : Int) + ((k : Int) + 1 - a) * ((k : Int) + 1 - a)) / (4 * a)]] []) m
def colP (n A : Nat) : List (List Int) := Nat.rec [] (fun j ih => ih ++ rowP n (j + 1) (2 * (j + 1))) A
theorem rowP_succ (n a m : Nat) : rowP n a (m + 1) = rowP n a m ++ cond (okAB n a (m + 1)) [[(a : Int), (m : Int) + 1 - a, ((n : Int) + ((m : Int) + 1 - a) * ((m : Int) + 1 - a)) / (4 * a)]] [] := rfl
theorem colP_succ (n m : Nat) : colP n (m + 1) = colP n m ++ rowP n (m + 1) (2 * (m + 1)) := rfl
def formsP (n : Nat) : List (List Int) := colP n (PySem.Float64.isqrt (n / 3))
theorem rowP_len (n a : Nat) : ∀ m, (rowP n a m).length = cntA n a m
  | 0 => rfl
  | m + 1 => by
    rw [rowP_succ, cntA_succ, List.length_append, rowP_len n a m]
    cases okAB n a (m + 1) <;> rfl
theorem colP_len (n : Nat) : ∀ m, (colP n m).length = cntB n m
  | 0 => rfl
  | m + 1 => by rw [colP_succ, cntB_succ, List.length_append, colP_len n m, rowP_len]
theorem formsP_len (n : Nat) : (formsP n).length = cls n := colP_len n _
theorem rowP_mem {n a : Nat} {f : List Int} : ∀ m, f ∈ rowP n a m ↔ ∃ k, k < m ∧ okAB n a (k + 1) = true ∧ f = [(a : Int), (k : Int) + 1 - a, ((n : Int) + ((k : Int) + 1 - a) * ((k : Int) + 1 - a)) / (4 * a)]
  | 0 => ⟨fun h => (by cases h), fun ⟨k, h, _⟩ => absurd h (Nat.not_lt_zero k)⟩
  | m + 1 => by
    rw [rowP_succ, List.mem_append, rowP_mem m]
    constructor
    · rintro (⟨k, h1, h2, h3⟩ | h)
      · exact ⟨k, Nat.lt_succ_of_lt h1, h2, h3⟩
      · cases e : okAB n a (m + 1) with
        | false => rw [e] at h; cases h
        | true =>
          rw [e, cond_true] at h
          exact ⟨m, Nat.lt_succ_self m, e, List.mem_singleton.mp h⟩
    · rintro ⟨k, h1, h2, h3⟩
      rcases Nat.lt_or_ge k m with c | c
      · exact .inl ⟨k, c, h2, h3⟩
      · have : k = m := by omega
        subst this
        refine .inr ?_
        rw [h2, cond_true, h3]
        exact List.mem_singleton.mpr rfl
theorem colP_mem {n : Nat} {f : List Int} : ∀ m, f ∈ colP n m ↔ ∃ a, 1 ≤ a ∧ a ≤ m ∧ f ∈ rowP n a (2 * a)
  | 0 => ⟨fun h => (by cases h), fun ⟨a, h1, h2, _⟩ => (by omega)⟩
  | m + 1 => by
    rw [colP_succ, List.mem_append, colP_mem m]
    constructor
    · rintro (⟨a, h1, h2, h3⟩ | h)
      · exact ⟨a, h1, by omega, h3⟩
      · exact ⟨m + 1, by omega, Nat.le_refl _, h⟩
    · rintro ⟨a, h1, h2, h3⟩
      rcases Nat.lt_or_ge a (m + 1) with c | c
      · exact .inl ⟨a, h1, by omega, h3⟩
      · have : a = m + 1 := by omega
        subst this
        exact .inr h3
/-- what a form of the program is -/
def IsF (n : Nat) (a b c : Int) : Prop := 0 < a ∧ 4 * a * c = n + b * b ∧ (((a.natAbs.gcd b.natAbs).gcd c.natAbs : Nat) : Int) = 1 ∧ RedQ a b c
theorem formsP_mem {n : Nat} (hn : n ≤ 2000) {f : List Int} : f ∈ formsP n ↔ ∃ a b c : Int, f = [a, b, c] ∧ IsF n a b c := by
  unfold formsP
  rw [colP_mem]
  constructor
  · rintro ⟨a, h1, h2, h3⟩
    obtain ⟨k, hk, ho, e⟩ := (rowP_mem _).mp h3
    have g := (okAB_iff (n := n) (a := a) (s := k + 1) ((k : Int) + 1 - a) (by omega) (by omega) (by omega) (by omega)).mp ho
    refine ⟨_, _, _, e, by omega, ?_, ?_, g.2.2⟩
    · have := Int.emod_add_mul_ediv ((n : Int) + ((k : Int) + 1 - a) * ((k : Int) + 1 - a)) (4 * a)
      rw [g.1] at this
      omega
    · rw [Int.natAbs_natCast]
      exact g.2.1
  · rintro ⟨a, b, c, rfl, ha, hD, hg, hr⟩
    obtain ⟨A, rfl⟩ : ∃ A : Nat, a = A := ⟨a.toNat, by omega⟩
    obtain ⟨h1, h2, h3, h4⟩ := id hr
    have hb : b * b ≤ A * A := by
      have := Int.natAbs_mul_self' b
      have h5 : b.natAbs ≤ A := by omega
      have h6 := Nat.mul_le_mul h5 h5
      rw [← this]
      omega
    have hac : (A : Int) * A ≤ A * c := Int.mul_le_mul_of_nonneg_left h3 (by omega)
    have h4ac : 4 * (A : Int) * c = 4 * (A * c) := Int.mul_assoc _ _ _
    have h3A : A * A ≤ n / 3 := by
      have : 3 * (A * A) ≤ n := by omega
      omega
    have hle : A ≤ PySem.Float64.isqrt (n / 3) := by
      have hs := (isqrt_spec3 ⟨n / 3, by omega⟩).2
      rcases Nat.lt_or_ge (PySem.Float64.isqrt (n / 3)) A with c | c
      · have := Nat.mul_le_mul (c : PySem.Float64.isqrt (n / 3) + 1 ≤ A) c
        have hs2 : n / 3 < (PySem.Float64.isqrt (n / 3) + 1) * (PySem.Float64.isqrt (n / 3) + 1) := hs
        have this2 : (PySem.Float64.isqrt (n / 3) + 1) * (PySem.Float64.isqrt (n / 3) + 1) ≤ A * A := this
        omega
      · exact c
    obtain ⟨k, ek⟩ : ∃ k : Nat, b = (k : Int) + 1 - A := ⟨(b + A - 1).toNat, by omega⟩
    have hdiv : ((n : Int) + b * b) / (4 * A) = c := by
      rw [← hD]
      exact Int.mul_ediv_cancel_left _ (by omega)
    have hmod : ((n : Int) + b * b) % (4 * A) = 0 := by
      rw [← hD]
      exact Int.mul_emod_right _ _
    refine ⟨A, by omega, hle, (rowP_mem _).mpr ⟨k, by omega, ?_, ?_⟩⟩
    · refine (okAB_iff b (by omega) (by omega) (by omega) (by omega)).mpr ⟨hmod, ?_, ?_⟩
      · rw [hdiv]
        rw [Int.natAbs_natCast] at hg
        exact hg
      · rw [hdiv]
        exact hr
    · rw [← ek, hdiv]
theorem IsF.bd {n : Nat} (hn : n ≤ 2000) {a b c : Int} (h : IsF n a b c) : a ≤ 30 ∧ -30 ≤ b ∧ b ≤ 30 ∧ 0 < c ∧ c ≤ 3000 := by
  obtain ⟨ha, hD, hg, h1, h2, h3, h4⟩ := h
  have h0 : b.natAbs ≤ a.natAbs := by omega
  have hb : b * b ≤ a * a := by
    have := Int.natAbs_mul_self' b
    have h6 := Nat.mul_le_mul h0 h0
    have h7 := Int.natAbs_mul_self' a
    omega
  have hac : a * a ≤ a * c := Int.mul_le_mul_of_nonneg_left h3 (by omega)
  have h4ac : 4 * a * c = 4 * (a * c) := Int.mul_assoc _ _ _
  have hA : a ≤ 30 := by
    rcases Int.lt_or_le 30 a with z | z
    · have : (31 : Int) * 31 ≤ a * a := Int.mul_le_mul (by omega) (by omega) (by omega) (by omega)
      omega
    · exact z
  have hcc : c ≤ a * c := by
    have : 1 * c ≤ a * c := Int.mul_le_mul_of_nonneg_right (by omega) (by omega)
    omega
  refine ⟨hA, by omega, by omega, by omega, ?_⟩
  have : a * a ≤ 30 * 30 := Int.mul_le_mul hA hA (by omega) (by omega)
  omega
end Sf

namespace Sf
/-! the program's list goes up -/
def Lt2 (f g : List Int) : Prop := ∃ a b c a' b' c' : Int, f = [a, b, c] ∧ g = [a', b', c'] ∧ (a < a' ∨ (a = a' ∧ b < b'))
theorem rowP_lt (n a : Nat) : ∀ m, (rowP n a m).Pairwise Lt2
  | 0 => List.Pairwise.nil
  | m + 1 => by
    rw [rowP_succ]
    refine List.pairwise_append.mpr ⟨rowP_lt n a m, ?_, fun f hf g hg => ?_⟩
    · cases okAB n a (m + 1) with
      | false => exact List.Pairwise.nil
      | true => exact List.pairwise_singleton _ _
    · cases e : okAB n a (m + 1) with
      | false => rw [e] at hg; cases hg
      | true =>
        rw [e, cond_true] at hg
        obtain ⟨k, hk, _, rfl⟩ := (rowP_mem m).mp hf
        exact ⟨_, _, _, _, _, _, rfl, List.mem_singleton.mp hg, .inr ⟨rfl, by omega⟩⟩
theorem colP_lt (n : Nat) : ∀ m, (colP n m).Pairwise Lt2
  | 0 => List.Pairwise.nil
  | m + 1 => by
    rw [colP_succ]
    refine List.pairwise_append.mpr ⟨colP_lt n m, rowP_lt n _ _, fun f hf g hg => ?_⟩
    obtain ⟨a, h1, h2, h3⟩ := (colP_mem m).mp hf
    obtain ⟨k, _, _, e1⟩ := (rowP_mem _).mp h3
    obtain ⟨l, _, _, e2⟩ := (rowP_mem _).mp hg
    exact ⟨_, _, _, _, _, _, e1, e2, .inl (by omega)⟩
theorem bdS3 {B a b c : Int} (h1 : -B ≤ a ∧ a < B) (h2 : -B ≤ b ∧ b < B) (h3 : -B ≤ c ∧ c < B) : BdS B [a, b, c] := by
  intro m hm
  have c : m = a + B ∨ m = b + B ∨ m = c + B := by simpa using hm
  omega
theorem lt2_code {B : Int} {f g : List Int} (h : Lt2 f g) (h1 : BdS B f) (h2 : BdS B g) : codeS B f < codeS B g := by
  obtain ⟨a, b, c, a', b', c', rfl, rfl, h⟩ := h
  rcases h with h | ⟨rfl, h⟩
  · exact TS.code_lt rfl h1.tail h2.tail (show a + B < a' + B by omega)
  · exact (TS.code_same (B := 2 * B) (d := a + B) (r := [b + B, c + B]) (q := [b' + B, c' + B]) rfl).mpr (TS.code_lt rfl h1.tail.tail h2.tail.tail (show b + B < b' + B by omega))
theorem formsP_bd {n : Nat} (hn : n ≤ 2000) {f : List Int} (h : f ∈ formsP n) : f.length = 3 ∧ BdS 10000 f := by
  obtain ⟨a, b, c, rfl, g⟩ := (formsP_mem hn).mp h
  obtain ⟨h1, h2, h3, h4, h5⟩ := g.bd hn
  have := g.1
  exact ⟨rfl, bdS3 (by omega) (by omega) (by omega)⟩
theorem formsP_code {n : Nat} (hn : n ≤ 2000) : (formsP n).Pairwise (fun f g => codeS 10000 f < codeS 10000 g) :=
  List.Pairwise.imp_of_mem (fun {f g} hf hg h => lt2_code h (formsP_bd hn hf).2 (formsP_bd hn hg).2) (colP_lt n _)
theorem inj_pw {l : List (List Int)} {g : List Int → Int} (h : l.Pairwise (fun x y => g x < g y)) : ∀ a ∈ l, ∀ b ∈ l, g a = g b → a = b := by
  induction h with
  | nil => intro a ha; cases ha
  | cons h1 _ ih =>
    intro a ha b hb e
    rcases List.mem_cons.mp ha with c1 | c1
    · rcases List.mem_cons.mp hb with c2 | c2
      · rw [c1, c2]
      · have := h1 b c2
        rw [c1] at e
        omega
    · rcases List.mem_cons.mp hb with c2 | c2
      · have := h1 a c1
        rw [c2] at e
        omega
      · exact ih a c1 b c2 e
/-- what a sorted set of the forms is -/
theorem sorted_is {n : Nat} (hn : n ≤ 2000) {l : List (List Int)} (nd : l.Nodup) (pw : l.Pairwise (fun f g => codeS 10000 f ≤ codeS 10000 g)) (hm : ∀ f, f ∈ l ↔ f ∈ formsP n) : l = formsP n := by
  have hc := formsP_code hn
  have nf : (formsP n).Nodup := List.Pairwise.imp (fun {a b} h e => by rw [e] at h; omega) hc
  have pf : (formsP n).Pairwise (fun f g => codeS 10000 f ≤ codeS 10000 g) := List.Pairwise.imp (fun {a b} h => Int.le_of_lt h) hc
  have pm := (List.perm_ext_iff_of_nodup nd nf).mpr hm
  exact List.Perm.eq_of_pairwise (le := fun f g => codeS 10000 f ≤ codeS 10000 g) (fun a b ha hb h1 h2 => inj_pw hc a ((hm a).mp ha) b hb (by omega)) pw pf pm
end Sf

namespace Sf
/-! the law's list -/
def t1 (a b c : Nat) : Bool := Nat.ble b a && (Nat.ble a c && Nat.beq ((a.gcd b).gcd c) 1)
def t2 (a b c : Nat) : Bool := Nat.blt b a && (Nat.ble a c && ((Nat.beq b 0 || !Nat.beq a c) && Nat.beq ((a.gcd b).gcd c) 1))
def twoL (a b c : Nat) : List (List Int) := cond (t1 a b c) [[(a : Int), (b : Int), (c : Int)]] [] ++ cond (t2 a b c) [[(a : Int), -(b : Int), (c : Int)]] []
def twoN (a b c : Nat) : Nat := cond (t1 a b c) 1 0 + cond (t2 a b c) 1 0
def rowT (n b a : Nat) : Bool := Nat.ble (4 * a * a) (b * b + n) && Nat.beq ((b * b + n) / 4 % a) 0
def rowL (n b m : Nat) : List (List Int) := Nat.rec [] (fun i ih => ih ++ cond (rowT n b (max 1 b + i)) (twoL (max 1 b + i) b ((b * b + n) / 4 / (max 1 b + i))) []) m
def rowN (n b m : Nat) : Nat := Nat.rec 0 (fun i ih => ih + cond (rowT n b (max 1 b + i)) (twoN (max 1 b + i) b ((b * b + n) / 4 / (max 1 b + i))) 0) m
def colL (n B : Nat) : List (List Int) := Nat.rec [] (fun b ih => ih ++ cond (Nat.beq ((b * b + n) % 4) 0) (rowL n b 30) []) B
def colN (n B : Nat) : Nat := Nat.rec 0 (fun b ih => ih + cond (Nat.beq ((b * b + n) % 4) 0) (rowN n b 30) 0) B
theorem rowL_succ (n b i : Nat) : rowL n b (i + 1) = rowL n b i ++ cond (rowT n b (max 1 b + i)) (twoL (max 1 b + i) b ((b * b + n) / 4 / (max 1 b + i))) [] := rfl
theorem colL_succ (n b : Nat) : colL n (b + 1) = colL n b ++ cond (Nat.beq ((b * b + n) % 4) 0) (rowL n b 30) [] := rfl
theorem twoL_len (a b c : Nat) : (twoL a b c).length = twoN a b c := by
  unfold twoL twoN
  rw [List.length_append]
  cases t1 a b c <;> cases t2 a b c <;> rfl
theorem rowL_len (n b : Nat) : ∀ m, (rowL n b m).length = rowN n b m
  | 0 => rfl
  | m + 1 => by
    rw [rowL_succ, List.length_append, rowL_len n b m]
    show _ = rowN n b m + cond (rowT n b (max 1 b + m)) (twoN (max 1 b + m) b ((b * b + n) / 4 / (max 1 b + m))) 0
    cases rowT n b (max 1 b + m) with
    | false => rfl
    | true => rw [cond_true, cond_true, twoL_len]
theorem colL_len (n : Nat) : ∀ m, (colL n m).length = colN n m
  | 0 => rfl
  | m + 1 => by
    rw [colL_succ, List.length_append, colL_len n m]
    show _ = colN n m + cond (Nat.beq ((m * m + n) % 4) 0) (rowN n m 30) 0
    cases Nat.beq ((m * m + n) % 4) 0 with
    | false => rfl
    | true => rw [cond_true, cond_true, rowL_len]
theorem rowL_mem {n b : Nat} {f : List Int} : ∀ m, f ∈ rowL n b m ↔ ∃ i, i < m ∧ rowT n b (max 1 b + i) = true ∧ f ∈ twoL (max 1 b + i) b ((b * b + n) / 4 / (max 1 b + i))
  | 0 => ⟨fun h => (by cases h), fun ⟨k, h, _⟩ => absurd h (Nat.not_lt_zero k)⟩
  | m + 1 => by
    rw [rowL_succ, List.mem_append, rowL_mem m]
    constructor
    · rintro (⟨k, h1, h2, h3⟩ | h)
      · exact ⟨k, Nat.lt_succ_of_lt h1, h2, h3⟩
      · cases e : rowT n b (max 1 b + m) with
        | false => rw [e] at h; cases h
        | true =>
          rw [e, cond_true] at h
          exact ⟨m, Nat.lt_succ_self m, e, h⟩
    · rintro ⟨k, h1, h2, h3⟩
      rcases Nat.lt_or_ge k m with c | c
      · exact .inl ⟨k, c, h2, h3⟩
      · have : k = m := by omega
        subst this
        refine .inr ?_
        rw [h2, cond_true]
        exact h3
theorem colL_mem {n : Nat} {f : List Int} : ∀ m, f ∈ colL n m ↔ ∃ b, b < m ∧ (b * b + n) % 4 = 0 ∧ f ∈ rowL n b 30
  | 0 => ⟨fun h => (by cases h), fun ⟨k, h, _⟩ => absurd h (Nat.not_lt_zero k)⟩
  | m + 1 => by
    rw [colL_succ, List.mem_append, colL_mem m]
    constructor
    · rintro (⟨k, h1, h2, h3⟩ | h)
      · exact ⟨k, Nat.lt_succ_of_lt h1, h2, h3⟩
      · cases e : Nat.beq ((m * m + n) % 4) 0 with
        | false => rw [e] at h; cases h
        | true =>
          rw [e, cond_true] at h
          exact ⟨m, Nat.lt_succ_self m, Nat.eq_of_beq_eq_true e, h⟩
    · rintro ⟨k, h1, h2, h3⟩
      rcases Nat.lt_or_ge k m with c | c
      · exact .inl ⟨k, c, h2, h3⟩
      · have : k = m := by omega
        subst this
        refine .inr ?_
        rw [show Nat.beq ((k * k + n) % 4) 0 = true by rw [Nat.beq_eq]; exact h2, cond_true]
        exact h3
/-- behind the last a that is small enough nothing follows -/
theorem rowL_stop {n b i : Nat} (h : b * b + n < 4 * (max 1 b + i) * (max 1 b + i)) : ∀ j, rowL n b (i + j) = rowL n b i
  | 0 => rfl
  | j + 1 => by
    show rowL n b (i + j + 1) = _
    have h2 : 4 * (max 1 b + i) * (max 1 b + i) ≤ 4 * (max 1 b + (i + j)) * (max 1 b + (i + j)) := Nat.mul_le_mul (by omega) (by omega)
    have e : rowT n b (max 1 b + (i + j)) = false := by
      cases z : rowT n b (max 1 b + (i + j)) with
      | false => rfl
      | true =>
        unfold rowT at z
        rw [Bool.and_eq_true, Nat.ble_eq] at z
        omega
    rw [rowL_succ, e, cond_false, List.append_nil, rowL_stop h j]
def lawL (n : Nat) : List (List Int) := colL n (PySem.Float64.isqrt (n / 3) + 1)
theorem lawL_few : ∀ n : Fin 2001, colN n.1 (PySem.Float64.isqrt (n.1 / 3) + 1) < 64 := by decide +kernel
theorem lawL_len {n : Nat} (h : n ≤ 2000) : (lawL n).length < 64 := by
  unfold lawL
  rw [colL_len]
  exact lawL_few ⟨n, by omega⟩
end Sf

namespace Sf
/-! both lists hold the same forms -/
theorem twoL_mem {a b c : Nat} {f : List Int} : f ∈ twoL a b c ↔ (t1 a b c = true ∧ f = [(a : Int), (b : Int), (c : Int)]) ∨ (t2 a b c = true ∧ f = [(a : Int), -(b : Int), (c : Int)]) := by
  unfold twoL
  rw [List.mem_append]
  cases t1 a b c <;> cases t2 a b c <;> simp
theorem t1_iff {a b c : Nat} : t1 a b c = true ↔ b ≤ a ∧ a ≤ c ∧ (a.gcd b).gcd c = 1 := by
  unfold t1
  rw [Bool.and_eq_true, Bool.and_eq_true, Nat.ble_eq, Nat.ble_eq, Nat.beq_eq]
theorem t2_iff {a b c : Nat} : t2 a b c = true ↔ b < a ∧ a ≤ c ∧ (b = 0 ∨ a ≠ c) ∧ (a.gcd b).gcd c = 1 := by
  unfold t2
  rw [Bool.and_eq_true, Bool.and_eq_true, Bool.and_eq_true, Bool.or_eq_true, Nat.blt_eq, Nat.ble_eq, Nat.beq_eq, Nat.beq_eq, Bool.not_eq_true', ← Bool.not_eq_true, Nat.beq_eq]
theorem rowT_iff {n b a : Nat} : rowT n b a = true ↔ 4 * a * a ≤ b * b + n ∧ (b * b + n) / 4 % a = 0 := by
  unfold rowT
  rw [Bool.and_eq_true, Nat.ble_eq, Nat.beq_eq]
theorem lawL_mem {n : Nat} (hn : n ≤ 2000) (n1 : 1 ≤ n) {f : List Int} : f ∈ lawL n ↔ f ∈ formsP n := by
  rw [formsP_mem hn]
  unfold lawL
  rw [colL_mem]
  constructor
  · rintro ⟨b, hb, hW, h⟩
    obtain ⟨i, hi, hT, h2⟩ := (rowL_mem _).mp h
    generalize ea : max 1 b + i = a at hT h2
    have ha : 0 < a := by omega
    obtain ⟨h3, h4⟩ := rowT_iff.mp hT
    have hc : 4 * a * ((b * b + n) / 4 / a) = b * b + n := by
      have e1 := Nat.div_add_mod ((b * b + n) / 4) a
      have e2 := Nat.div_add_mod (b * b + n) 4
      rw [Nat.mul_assoc]
      omega
    generalize (b * b + n) / 4 / a = c at h2 hc
    have hcI : 4 * (a : Int) * c = n + (b : Int) * b := by
      have := congrArg (fun z : Nat => (z : Int)) hc
      push_cast at this
      omega
    rcases twoL_mem.mp h2 with ⟨ht, e⟩ | ⟨ht, e⟩
    · obtain ⟨g1, g2, g3⟩ := t1_iff.mp ht
      refine ⟨_, _, _, e, by omega, hcI, ?_, by omega, by omega, by omega, .inr (by omega)⟩
      rw [Int.natAbs_natCast, Int.natAbs_natCast, Int.natAbs_natCast, g3]
      rfl
    · obtain ⟨g1, g2, g3, g4⟩ := t2_iff.mp ht
      refine ⟨_, _, _, e, by omega, ?_, ?_, by omega, by omega, by omega, by omega⟩
      · rw [Int.neg_mul_neg]
        exact hcI
      · rw [Int.natAbs_natCast, Int.natAbs_neg, Int.natAbs_natCast, Int.natAbs_natCast, g4]
        rfl
  · rintro ⟨a, b, c, rfl, hF⟩
    have hbd := hF.bd hn
    obtain ⟨ha, hD, hg, h1, h2, h3, h4⟩ := hF
    obtain ⟨A, rfl⟩ : ∃ A : Nat, a = A := ⟨a.toNat, by omega⟩
    obtain ⟨C, rfl⟩ : ∃ C : Nat, c = C := ⟨c.toNat, by omega⟩
    have ebb := Int.natAbs_mul_self' b
    generalize eB : b.natAbs = B at ebb hg
    have hBA : B ≤ A := by omega
    have hW : B * B + n = 4 * A * C := by
      have : ((B * B + n : Nat) : Int) = ((4 * A * C : Nat) : Int) := by
        push_cast
        omega
      exact Int.ofNat_inj.mp this
    have h4AC : 4 * A * C = 4 * (A * C) := Nat.mul_assoc _ _ _
    have hAC : A * A ≤ A * C := Nat.mul_le_mul_left A (by omega)
    have hBB : B * B ≤ A * A := Nat.mul_le_mul hBA hBA
    have hBr : B < PySem.Float64.isqrt (n / 3) + 1 := by
      have hs : n / 3 < (PySem.Float64.isqrt (n / 3) + 1) * (PySem.Float64.isqrt (n / 3) + 1) := (isqrt_spec3 ⟨n / 3, by omega⟩).2
      rcases Nat.lt_or_ge B (PySem.Float64.isqrt (n / 3) + 1) with c | c
      · exact c
      · have := Nat.mul_le_mul c c
        omega
    have hq : (B * B + n) / 4 = A * C := by omega
    have hA0 : 0 < A := by omega
    refine ⟨B, hBr, by omega, (rowL_mem _).mpr ⟨A - max 1 B, by omega, ?_, ?_⟩⟩
    · rw [show max 1 B + (A - max 1 B) = A by omega]
      refine rowT_iff.mpr ⟨?_, ?_⟩
      · rw [hW, Nat.mul_assoc, Nat.mul_assoc]
        omega
      · rw [hq]
        exact Nat.mul_mod_right A C
    · rw [show max 1 B + (A - max 1 B) = A by omega, hq, Nat.mul_div_cancel_left C hA0]
      rw [Int.natAbs_natCast, Int.natAbs_natCast] at hg
      have hg2 : (A.gcd B).gcd C = 1 := Int.ofNat_inj.mp hg
      refine twoL_mem.mpr ?_
      rcases Int.lt_or_le b 0 with z | z
      · refine .inr ⟨t2_iff.mpr ⟨by omega, by omega, .inr (by omega), hg2⟩, ?_⟩
        rw [show b = -(B : Int) by omega]
      · refine .inl ⟨t1_iff.mpr ⟨hBA, by omega, hg2⟩, ?_⟩
        rw [show b = (B : Int) by omega]
end Sf

namespace Sf
open PySem PySem.Spec PyProof.Rows L2
/-! tuples of tuples of ints as data -/
abbrev dF (f : List Int) : PyData := .tuple (f.map PyData.int)
theorem lay_tups : ∀ fs : List (List Int), PyData.canLayAll0 (fs.map dF) = true ∧ PyData.depthAll (fs.map dF) ≤ 1
  | [] => ⟨rfl, Nat.zero_le _⟩
  | f :: fs => by
    obtain ⟨h1, h2⟩ := lay_tups fs
    obtain ⟨g1, g2⟩ := lay_ints f
    refine ⟨?_, ?_⟩
    · show (PyData.canLayAll0 (f.map PyData.int) && PyData.canLayAll0 (fs.map dF)) = true
      rw [h1, g1]
      rfl
    · show max (PyData.depthAll (f.map PyData.int) + 1) (PyData.depthAll (fs.map dF)) ≤ 1
      rw [g2]
      omega
theorem shp_tt (fs : List (List Int)) : SeqAt.shaped (.tuple (fs.map dF)) = true := by
  obtain ⟨h1, h2⟩ := lay_tups fs
  show (PyData.canLayAll0 (fs.map dF) && decide (PyData.depthAll (fs.map dF) + 1 ≤ 64)) = true
  rw [h1, decide_eq_true (by omega)]
  rfl
theorem shp_lt (fs : List (List Int)) : SeqAt.shaped (.list (fs.map dF)) = true := by
  obtain ⟨h1, h2⟩ := lay_tups fs
  show (PyData.canLayAll0 (fs.map dF) && decide (PyData.depthAll (fs.map dF) + 1 ≤ 64)) = true
  rw [h1, decide_eq_true (by omega)]
  rfl
theorem eqv_tt (fs : List (List Int)) : PyData.eqv (.tuple (fs.map dF)) (.tuple (fs.map dF)) = true := by
  unfold PyData.eqv
  exact SeqAt.eqvAll_refl _ (lay_tups fs).1
theorem eqv_nilL : ∀ ds : List PyData, PyData.eqv (.list ds) (.list []) = decide (ds.length = 0)
  | [] => by unfold PyData.eqv; rfl
  | d :: ds => by unfold PyData.eqv; rfl
theorem eqv_tupsI (a b : List Int) : PyData.eqv (.tuple (a.map PyData.int)) (.tuple (b.map PyData.int)) = decide (a = b) := by
  unfold PyData.eqv
  exact eqv_ints a b
/-- what stands for a list of forms -/
def Held (H : Hp) (ks : List (Addr × List Int)) : Prop := ∀ p ∈ ks, H p.1 = some (.tup (p.2.map V.int))
theorem Held.same {H H' : Hp} {ks : List (Addr × List Int)} (h : Held H ks) (s : Same H H') : Held H' ks := fun p hp => s _ _ (h p hp)
theorem Held.dp {K : PySem.W.Frag} {H : Hp} : ∀ {ks : List (Addr × List Int)}, Held H ks → DpAll K H (ks.map fun p => V.ref p.1) ((ks.map (·.2)).map dF)
  | [], _ => .nil
  | p :: ks, h => .cons (dp_tup (SqT.of (h p List.mem_cons_self))) (Held.dp fun q hq => h q (List.mem_cons_of_mem p hq))
end Sf

namespace Sf
open PySem PySem.Spec PyProof.Rows L2
theorem same_ne {H H' : Hp} {p q : Addr} {o u : HO} (s : Same H H') (h : H p = some o) (n : H q = none) : p ≠ q := ne_of_none h n
section
variable {P : Program} {w : World} {K : PySem.W.Frag} {mg : Str → Option Value} {base : Heap} {f : Addr} {fd : FuncData}
def spSack (K : PySem.W.Frag) : Sp := fun vs H Q _ => ∃ (a : Addr) (ns : List Int) (t : Nat), vs = [.ref a, .int t] ∧ SqL K H a (ns.map V.int) ∧ ns.length ≤ 63 ∧ t ≤ 10 ∧
  ∀ (p : Addr) (xs : List V) (H' : Hp), Same H H' → H p = none → H' p = some (.lst xs) → SackO 0 xs → Q (.ref p) H'
theorem ok_jar (F : FnD K "_law_jar" "_law_jar" s_L_jar f fd) (T : Glob mg) : FnOk P w K mg base CX0 1 f fd ["_law_script", "_law_spot"] (spSack K) := by
  refine F.ok sc_L_jar (fun vs H Q E h => ?_) (fun cdv A outer s H vs Q E hr h => ?_)
  · obtain ⟨a, ns, t, rfl, _⟩ := h; rfl
  · obtain ⟨a, ns, t, rfl, hS, hl, ht, q⟩ := h
    refine ⟨_, PSs.nox (Evl.pss_cut (ps_set (i := 2) sc_L_jar.nd rfl (Or.inl rfl) (pe_ifExp (pt_cmp (pc_lt (pv 1) (pe_callB call_len_seq (by rfl) T.m_len (by decide +kernel) (pa_cons (pv 0) pa_nil)))) (pe_ix ix_list (pv 0) (pv 1) (fun _ _ => rfl)) (pe_op op_add (pe_op op_mulW pe_int (pv 1)) pe_int)))
      (pss_cons (ps_set (i := 3) sc_L_jar.nd rfl (Or.inl rfl) (pe_op op_mod (pe_callTy call_int1 (by rfl) T.m_int (by decide +kernel) (pa_cons (pe_callB call_abs (by rfl) T.m_abs (by decide +kernel) (pa_cons (pv 2) pa_nil)) pa_nil)) (pe_op op_powW (pe_op op_powW pe_int pe_int) pe_int)))
      (pss_cons (ps_set (i := 4) sc_L_jar.nd rfl (Or.inl rfl) (pe_op op_mod (pe_callTy call_int1 (by rfl) T.m_int (by decide +kernel) (pa_cons (pe_op op_add (pe_op op_add (pe_op op_add (pe_op op_mulW (pv 3) pe_int) (pe_op op_mulW pe_int (pv 1))) (pe_op op_mulW pe_int (pe_callTy call_int1 (by rfl) T.m_int (by decide +kernel) (pa_cons (pe_cmp (pc_lt (pv 2) pe_int) rfl) pa_nil)))) pe_int) pa_nil)) pe_int))
      (pss_one (ps_ret (pe_lst (pa_cons (pe_callB (call_max2 rfl) (by rfl) T.m_max (by decide +kernel) (pa_cons pe_int (pa_cons (pe_op op_sub (pv 3) (pe_op op_powW pe_int pe_int)) pa_nil))) (pa_cons (pv 4) (pa_cons pe_int pa_nil))))))))), ?_⟩
    refine ⟨fun σ' H' => ∃ c : Int, σ' = [some (.ref a), some (.int t), some (.int c), none, none] ∧ H' = H, ?_, ?_⟩
    · refine ⟨_, rfl, _, rfl, a, _, rfl, .inl hS, _, _, rfl, rfl, _, rfl, ifd (fun h => ?_) (fun h => ?_)⟩
      · have hi : t < ns.length := by
          rw [List.length_map] at h
          omega
        refine ⟨_, rfl, _, rfl, a, _, t, .int ns[t], rfl, rfl, hS, atI_nat (by rw [List.getElem?_map, List.getElem?_eq_getElem hi]; rfl), ?_⟩
        exact ⟨_, rfl, rfl⟩
      · refine ⟨_, rfl, _, _, rfl, rfl, CMulW.of (lt3000s (by decide) (by decide)) (lt3000s (by omega) (by omega)), _, _, rfl, rfl, ?_⟩
        exact ⟨_, rfl, rfl⟩
    · rintro σ' H' ⟨c, rfl, rfl⟩
      refine ⟨_, rfl, c, rfl, .inl ⟨_, rfl, 10, 57, rfl, rfl, ⟨by decide, by decide +kernel⟩, 10 ^ 57, 7, rfl, rfl, ⟨by decide, by decide +kernel⟩, _, _, rfl, rfl, (by show (0 : Int) < (10 ^ 57) ^ (7 : Int).toNat; decide +kernel), ?_⟩⟩
      have g0 := Int.emod_nonneg (if c < 0 then -c else c) (by decide +kernel : ((10 : Int) ^ 57) ^ (7 : Int).toNat ≠ 0)
      have g1 := Int.emod_lt_of_pos (if c < 0 then -c else c) (by decide +kernel : (0 : Int) < ((10 : Int) ^ 57) ^ (7 : Int).toNat)
      have e399 : ((10 : Int) ^ 57) ^ (7 : Int).toNat = 10 ^ 399 := by decide +kernel
      rw [e399] at g0 g1
      have gb := lt3000 g0 (Int.lt_trans g1 (by decide +kernel))
      refine ⟨_, rfl, _, _, rfl, rfl, CMulW.of gb (lt3000s (by decide) (by decide)), _, rfl, _, _, rfl, rfl, CMulW.of (lt3000s (by decide) (by decide)) (lt3000s (by omega) (by omega)), _, _, rfl, rfl, ?_⟩
      refine ⟨_, rfl, _, _, rfl, rfl, .inr ⟨_, rfl, _, _, rfl, rfl, CMulW.of (lt3000s (by decide) (by decide)) (lt3000s (by split <;> decide) (by split <;> decide)), _, _, rfl, rfl, _, _, rfl, rfl, .inl ⟨_, rfl, _, _, rfl, rfl, (by show (0 : Int) < 2305843009213693951; decide), ?_⟩⟩⟩
      refine ⟨_, rfl, 10, 16, rfl, rfl, ⟨by decide, by decide +kernel⟩, _, _, rfl, rfl, _, _, rfl, _, rfl, (by show 3 ≤ sizeLine; decide), fun p hp => ?_⟩
      have e16 : (10 : Int) ^ (16 : Int).toNat = 10000000000000000 := by decide +kernel
      refine q p _ _ (same_upd hp) hp upd_same ⟨_, _, _, rfl, ?_, ?_, ?_, ?_, by decide, by decide⟩
      · rw [e16]
        split <;> omega
      · rw [e16, e399]
        have : (0 : Int) < 10 ^ 399 := by decide +kernel
        have h1 : ∀ z N : Int, 0 ≤ z → z < N → 0 < N → (if z - 10000000000000000 > 0 then z - 10000000000000000 else 0) < N := fun z N a b c => by split <;> omega
        exact Int.lt_trans (h1 _ _ g0 g1 this) (by decide +kernel)
      · omega
      · omega
structure TakeP (vs : List V) (H : Hp) (Q : VK) : Prop where
  ex : ∃ (p : Addr) (xs : List V) (n : Nat) (m : Int), vs = [.ref p, .int m] ∧ H p = some (.lst xs) ∧ SackO n xs ∧ n ≤ 1000000 ∧ 1 ≤ m ∧ m < 10 ^ 80 ∧
  ∀ (r : Int) (ys : List V), 0 ≤ r → r < m → SackO (n + 1) ys → Q (.int r) (upd H p (.lst ys))
def spTake : Sp := fun vs H Q _ => TakeP vs H Q
theorem ok_scoop (F : FnD K "_law_scoop" "_law_scoop" s_L_scoop f fd) (T : Glob mg) : FnOk P w K mg base CX0 1 f fd ["_law_jar_here", "_law_total"] spTake := by
  refine F.ok sc_L_scoop (fun vs H Q E h => ?_) (fun cdv A outer s H vs Q E hr h => ?_)
  · obtain ⟨p, xs, n, m, rfl, _⟩ := h.ex; rfl
  · obtain ⟨p, _, n, m, rfl, hp, ⟨a, b, c, rfl, a0, a1, b0, b1, c0, c1⟩, hn, hm, hm1, q⟩ := h.ex
    have m0 : (0 : Int) < m := by omega
    have mb : m.natAbs < 2 ^ 3000 := lt3000 (by omega) (Int.lt_trans hm1 (by decide +kernel))
    have hS : SqL K H p [.int a, .int b, .int c] := SqL.of hp
    refine ⟨_, PSs.nox (pss_cons (ps_if (pt_cmp (pc_gt (pe_ix ix_list (pv 0) pe_int (fun _ _ => rfl)) pe_int)) (pss_cons (ps_set (i := 2) sc_L_scoop.nd rfl (Or.inl rfl) (pe_op op_mod (pe_callTy call_int1 (by rfl) T.m_int (by decide +kernel) (pa_cons (pe_ix ix_list (pv 0) pe_int (fun _ _ => rfl)) pa_nil)) (pv 1)))
      (pss_cons (ps_asg (pe_op op_fdivW (pe_ix ix_list (pv 0) pe_int (fun _ _ => rfl)) (pv 1)) (pg_sub (pv 0) pe_int set_list))
      (pss_one (ps_ret (pv 2))))) pss_nil)
      (pss_cons (ps_asg (pe_op op_add (pe_ix ix_list (pv 0) pe_int (fun _ _ => rfl)) pe_int) (pg_sub (pv 0) pe_int set_list))
      (pss_cons (ps_set (i := 3) sc_L_scoop.nd rfl (Or.inl rfl) (pe_op op_mod (pe_callTy call_int1 (by rfl) T.m_int (by decide +kernel) (pa_cons (pe_op op_add (pe_op op_add (pe_op op_mulW (pe_ix ix_list (pv 0) pe_int (fun _ _ => rfl)) pe_int) (pe_op op_mulW (pe_ix ix_list (pv 0) pe_int (fun _ _ => rfl)) pe_int)) pe_int) pa_nil)) pe_int))
      (pss_cons (ps_set (i := 4) sc_L_scoop.nd rfl (Or.inl rfl) (pe_op op_mod (pe_callTy call_int1 (by rfl) T.m_int (by decide +kernel) (pa_cons (pe_op op_add (pe_op op_mulW (pv 3) (pv 3)) (pe_op op_mulW pe_int (pe_ix ix_list (pv 0) pe_int (fun _ _ => rfl)))) pa_nil)) pe_int))
      (pss_one (ps_ret (pe_op op_mod (pe_callTy call_int1 (by rfl) T.m_int (by decide +kernel) (pa_cons (pe_op op_fdivW (pe_op op_mod (pe_callTy call_int1 (by rfl) T.m_int (by decide +kernel) (pa_cons (pe_op op_add (pe_op op_mulW (pv 4) pe_int) (pv 3)) pa_nil)) pe_int) pe_int) pa_nil)) (pv 1)))))))), ?_⟩
    refine ⟨_, rfl, p, _, 0, .int a, rfl, rfl, hS, rfl, _, _, rfl, rfl, _, rfl, ifd (fun h => ?_) (fun h => ?_)⟩
    · refine ⟨_, rfl, p, _, 0, .int a, rfl, rfl, hS, rfl, .inl ⟨_, rfl, _, rfl, _, _, rfl, rfl, m0, ?_⟩⟩
      refine ⟨_, rfl, p, _, 0, .int a, rfl, rfl, hS, rfl, _, rfl, _, _, rfl, rfl, CDivW.of m0 mb, ?_⟩
      refine ⟨_, rfl, p, _, 0, 0, rfl, rfl, hp, rfl, ?_⟩
      refine ⟨_, rfl, q (a % m) _ (Int.emod_nonneg _ (by omega)) (Int.emod_lt_of_pos _ m0) ⟨a / m, b, c, rfl, Int.ediv_nonneg a0 (by omega), ?_, b0, b1, c0, by omega⟩⟩
      exact Int.lt_of_le_of_lt (Int.ediv_le_self m a0) a1
    · refine ⟨_, rfl, p, _, 2, .int c, rfl, rfl, hS, rfl, _, _, rfl, rfl, ?_⟩
      refine ⟨_, rfl, p, _, 2, 2, rfl, rfl, hp, rfl, ?_⟩
      have hS2 : SqL K (upd H p (.lst [.int a, .int b, .int (c + 1)])) p [.int a, .int b, .int (c + 1)] := SqL.of upd_same
      refine ⟨_, rfl, p, _, 1, .int b, rfl, rfl, hS2, rfl, _, _, rfl, rfl, CMulW.of (lt3000s (by omega) (by omega)) (lt3000s (by decide) (by decide)), _, rfl, p, _, 2, .int (c + 1), rfl, rfl, hS2, rfl, _, _, rfl, rfl, CMulW.of (lt3000s (by omega) (by omega)) (lt3000s (by decide) (by decide)), _, _, rfl, rfl, _, _, rfl, rfl, .inl ⟨_, rfl, _, _, rfl, rfl, (by show (0 : Int) < 2305843009213693951; decide), ?_⟩⟩
      refine ⟨_, rfl, _, rfl, _, _, rfl, rfl, CMulW.of (lt3000s (by omega) (by omega)) (lt3000s (by omega) (by omega)), _, rfl, p, _, 2, .int (c + 1), rfl, rfl, hS2, rfl, _, _, rfl, rfl, CMulW.of (lt3000s (by decide) (by decide)) (lt3000s (by omega) (by omega)), _, _, rfl, rfl, .inl ⟨_, rfl, _, _, rfl, rfl, (by show (0 : Int) < 2305843009213693921; decide), ?_⟩⟩
      refine ⟨_, rfl, _, _, rfl, rfl, CMulW.of (lt3000s (by omega) (by omega)) (lt3000s (by decide) (by decide)), _, rfl, _, _, rfl, rfl, .inl ⟨_, rfl, _, _, rfl, rfl, (by show (0 : Int) < 4611686018427387847; decide), _, _, rfl, rfl, CDivW.of (by decide) (lt3000s (by decide) (by decide)), .inl ⟨_, rfl, _, rfl, _, _, rfl, rfl, m0, ?_⟩⟩⟩
      refine q _ _ (Int.emod_nonneg _ (by omega)) (Int.emod_lt_of_pos _ m0) ⟨a, b, c + 1, rfl, a0, a1, b0, b1, by omega, by omega⟩
end
end Sf

namespace Sf
open PySem PySem.Spec PyProof.Rows L2
/-- a draw: the same promises in the words of Sk -/
theorem take_of {H : Hp} {p : Addr} {n : Nat} {m : Int} {Q : VK} (hs : Sk p n H) (hn : n ≤ 1000000) (h1 : 1 ≤ m) (h2 : m < 10 ^ 80) (q : ∀ (r : Int) (H' : Hp), 0 ≤ r → r < m → Keep p H H' → Sk p (n + 1) H' → (∀ b, H b = none → H' b = none) → Q (.int r) H') : TakeP [.ref p, .int m] H Q := by
  obtain ⟨xs, a, b⟩ := hs
  exact ⟨p, xs, n, m, rfl, a, b, hn, h1, h2, fun r ys r0 r1 hy => q r _ r0 r1 Keep.upd ⟨ys, upd_same, hy⟩ fun c hc => by rw [upd_ne (fun z => by rw [z, a] at hc; cases hc)]; exact hc⟩
end Sf

namespace Sf
open PySem PySem.Spec PyProof.Rows L2
section
variable {P : Program} {w : World} {K : PySem.W.Frag} {mg : Str → Option Value} {base : Heap} {f : Addr} {fd : FuncData}
structure FormsP (vs : List V) (H : Hp) (Q : VK) : Prop where
  ex : ∃ n : Nat, vs = [.int n] ∧ 1 ≤ n ∧ n ≤ 2000 ∧ ∀ (L : Addr) (ks : List (Addr × List Int)) (H' : Hp), Same H H' → H' L = some (.lst (ks.map fun p => V.ref p.1)) → Held H' ks → ks.map (·.2) = formsP n → Q (.ref L) H'
def spForms : Sp := fun vs H Q _ => FormsP vs H Q
theorem ok_forms_with (F : FnD K "forms_with" "forms_with" s_P_forms_with f fd) (T : Glob mg) (C_P_is_reduced : Cal P w K mg base 4 "is_reduced" ["value"] spRed) : FnOk P w K mg base CX0 5 f fd ["number"] spForms := by
  refine F.ok sc_P_forms_with (fun vs H Q E h => ?_) (fun cdv A outer s H vs Q E hr h => ?_)
  · obtain ⟨n, rfl, _⟩ := h.ex; rfl
  · obtain ⟨n, rfl, n1, n2, q⟩ := h.ex
    refine ⟨_, PSs.nox (pss_cons (ps_set (i := 1) sc_P_forms_with.nd rfl (Or.inl rfl) (pe_lst pa_nil))
      (pss_cons (ps_for PassesOwn.never rfl (pi_range2 (by rfl) T.m_range (pa_cons pe_int (pa_cons (pe_op op_add (pe_callGB cr_isqrt (by rfl) T.m_isqrt (pa_cons (pe_op op_fdivW (pv 0) pe_int) pa_nil)) pe_int) pa_nil))) (pg_name (i := 2) sc_P_forms_with.nd rfl (Or.inl rfl)) (pss_one (ps_for PassesOwn.never rfl (pi_range2 (by rfl) T.m_range (pa_cons (pe_op op_sub pe_int (pv 2)) (pa_cons (pe_op op_add (pv 2) pe_int) pa_nil))) (pg_name (i := 3) sc_P_forms_with.nd rfl (Or.inl rfl)) (pss_cons (ps_asg (pe_callB call_divmod (by rfl) T.m_divmod (by decide +kernel) (pa_cons (pe_op op_add (pv 0) (pe_op op_mulW (pv 3) (pv 3))) (pa_cons (pe_op op_mulW pe_int (pv 2)) pa_nil))) (pg_tup (by rfl) (pgs_cons (pg_name (i := 4) sc_P_forms_with.nd rfl (Or.inl rfl)) (pgs_cons (pg_name (i := 5) sc_P_forms_with.nd rfl (Or.inl rfl)) pgs_nil))))
      (pss_one (ps_if (PW.pt (pw_and (pt_cmp (pc_eqI (pv 5) pe_int)) (pw_and (pt_cmp (pc_eqI (pe_callGB cr_gcd3 (by rfl) T.m_gcd (pa_cons (pv 2) (pa_cons (pv 3) (pa_cons (pv 4) pa_nil)))) pe_int)) (pw_and1 (pt_val (pe_cal C_P_is_reduced (hr.mono (by decide)) (pa_cons (pe_tup (pa_cons (pv 2) (pa_cons (pv 3) (pa_cons (pv 4) pa_nil)))) pa_nil))))))) (pss_one (ps_expr (pe_bm PySem.F.plainAttrs_list PySem.F.slot_list_append PySem.F.type_list_append mt_append (pv 1) (pa_cons (pe_tup (pa_cons (pv 2) (pa_cons (pv 3) (pa_cons (pv 4) pa_nil)))) pa_nil)))) pss_nil))))))
      (pss_one (ps_ret (pv 1))))), ?_⟩
    refine ⟨(by show 0 ≤ sizeLine; decide), fun L hL => ?_⟩
    have hr30 := cls_root n2
    have ecls : formsP n = colP n (PySem.Float64.isqrt (n / 3)) := rfl
    generalize eA : PySem.Float64.isqrt (n / 3) = A at hr30 ecls
    refine ⟨_, rfl, _, _, rfl, rfl, CDivW.of (by decide) (by decide), n / 3, by rw [Int.natCast_ediv]; rfl, by omega, ?_⟩
    rw [eA]
    refine ⟨_, _, rfl, rfl, 1, (A : Int) + 1, rfl, ⟨by decide, by decide, by omega, by omega⟩, ?_⟩
    rw [show ((A : Int) + 1 - 1).toNat = A by omega]
    refine for_range (lo := 1) (n := A) (fun i σ H' => ∃ v2 v3 v4 v5, σ = [some (.int n), some (.ref L), v2, v3, v4, v5] ∧ Same H H' ∧ ∃ ks : List (Addr × List Int), H' L = some (.lst (ks.map fun p => V.ref p.1)) ∧ Held H' ks ∧ ks.map (·.2) = colP n i) ⟨none, none, none, none, rfl, same_upd hL, [], upd_same, (fun _ h => by cases h), rfl⟩ ?_ ?_
    · rintro i σ H1 hi ⟨v2, v3, v4, v5, rfl, e1, ks1, hx1, hd1, l1⟩
      refine ⟨_, rfl, _, _, rfl, rfl, _, rfl, _, _, rfl, rfl, 1 - (1 + (i : Int)), 1 + (i : Int) + 1, rfl, ⟨by omega, by omega, by omega, by omega⟩, ?_⟩
      rw [show (1 + (i : Int) + 1 - (1 - (1 + (i : Int)))).toNat = 2 * (i + 1) by omega]
      refine for_range (lo := 1 - (1 + (i : Int))) (n := 2 * (i + 1)) (fun k σ H' => ∃ v3 v4 v5, σ = [some (.int n), some (.ref L), some (.int (1 + (i : Int))), v3, v4, v5] ∧ Same H H' ∧ ∃ ks : List (Addr × List Int), H' L = some (.lst (ks.map fun p => V.ref p.1)) ∧ Held H' ks ∧ ks.map (·.2) = colP n i ++ rowP n (i + 1) k) ⟨v3, v4, v5, rfl, e1, ks1, hx1, hd1, by rw [l1]; exact (List.append_nil _).symm⟩ ?_ ?_
      · rintro k σ H2 hk ⟨v3, v4, v5, rfl, e2, ks2, hx2, hd2, l2⟩
        have hrow := rowP_succ n (i + 1) k
        have hiff := okAB_iff (n := n) (a := i + 1) (s := k + 1) (1 - (1 + (i : Int)) + k) (by omega) (by omega) (by omega) (by omega)
        rw [show (((i + 1 : Nat)) : Int) = 1 + i by omega] at hiff
        generalize eb : 1 - (1 + (i : Int)) + k = b at hiff
        have bb : b.natAbs ≤ 31 := by omega
        have b2 : 0 ≤ b * b ∧ b * b ≤ 961 := by
          have h1 : ((b * b).natAbs) = b.natAbs * b.natAbs := Int.natAbs_mul b b
          have h2 : b.natAbs * b.natAbs ≤ 31 * 31 := Nat.mul_le_mul bb bb
          have h3 : 0 ≤ b * b := by
            rw [← Int.natAbs_mul_self' b]
            omega
          omega
        refine ⟨_, rfl, _, rfl, _, rfl, _, _, rfl, rfl, CMulW.of (lt3000s (by omega) (by omega)) (lt3000s (by omega) (by omega)), _, _, rfl, rfl, _, rfl, _, _, rfl, rfl, CMulW.of (lt3000s (by decide) (by decide)) (lt3000s (by omega) (by omega)), _, _, rfl, ⟨by omega, by omega⟩, fun p hp => ?_⟩
        have nLp : L ≠ p := ne_of_none hx2 hp
        refine ⟨p, _, rfl, .inl (.inl upd_same), rfl, _, _, rfl, _, _, rfl, rfl, ?_⟩
        have e3 := same_upd (o := .tup [.int ((n + b * b) / (4 * (1 + (i : Int)))), .int ((n + b * b) % (4 * (1 + (i : Int))))]) hp
        generalize upd H2 p _ = H3 at e3 ⊢
        have hx3 := e3 _ _ hx2
        have hd3 := hd2.same e3
        have e23 := e2.trans e3
        clear hp nLp
        have hdiv := Int.emod_add_mul_ediv ((n : Int) + b * b) (4 * (1 + (i : Int)))
        have hcb : ((n + b * b) / (4 * (1 + (i : Int)))).natAbs < 1000000 := by
          have h1 : 0 ≤ ((n : Int) + b * b) / (4 * (1 + (i : Int))) := Int.ediv_nonneg (by omega) (by omega)
          have h2 : ((n : Int) + b * b) / (4 * (1 + (i : Int))) ≤ n + b * b := Int.ediv_le_self _ (by omega)
          omega
        generalize hdiv0 : ((n : Int) + b * b) / (4 * (1 + (i : Int))) = c at *
        generalize ((n : Int) + b * b) % (4 * (1 + (i : Int))) = r at *
        refine ⟨_, rfl, _, _, rfl, rfl, _, rfl, ifd (fun h1 => ?_) (fun h1 => ?_)⟩
        rotate_left
        · have e0 : okAB n (i + 1) (k + 1) = false := by
            cases z : okAB n (i + 1) (k + 1) with
            | false => rfl
            | true => exact absurd (hiff.mp z).1 h1
          exact ⟨_, _, _, rfl, e23, ks2, hx3, hd3, by rw [hrow, e0]; exact l2.trans (by rw [cond_false, List.append_nil])⟩
        refine ⟨_, rfl, _, rfl, _, rfl, _, _, _, rfl, _, _, rfl, rfl, _, rfl, ifd (fun h2 => ?_) (fun h2 => ?_)⟩
        rotate_left
        · have e0 : okAB n (i + 1) (k + 1) = false := by
            cases z : okAB n (i + 1) (k + 1) with
            | false => rfl
            | true => exact absurd (hiff.mp z).2.1 (by rw [show (1 + (i : Int)).natAbs = i + 1 by omega] at h2; exact h2)
          exact ⟨_, _, _, rfl, e23, ks2, hx3, hd3, by rw [hrow, e0]; exact l2.trans (by rw [cond_false, List.append_nil])⟩
        refine ⟨_, rfl, _, rfl, _, rfl, (by show 3 ≤ sizeLine; decide), fun t ht => ?_⟩
        have e4 := same_upd (o := .tup [.int (1 + (i : Int)), .int b, .int c]) ht
        refine ⟨t, 1 + (i : Int), b, c, rfl, upd_same, by omega, ?_, by omega, by omega, hcb, fun H5 e5 => ⟨_, rfl, ifd (fun h3 => ?_) (fun h3 => ?_)⟩⟩
        · rw [h1] at hdiv
          omega
        rotate_left
        · have e0 : okAB n (i + 1) (k + 1) = false := by
            cases z : okAB n (i + 1) (k + 1) with
            | false => rfl
            | true => exact absurd (hiff.mp z).2.2 h3
          exact ⟨_, _, _, rfl, (e23.trans e4).trans e5, ks2, e5 _ _ (e4 _ _ hx3), (hd3.same e4).same e5, by rw [hrow, e0]; exact l2.trans (by rw [cond_false, List.append_nil])⟩
        have e0 : okAB n (i + 1) (k + 1) = true := hiff.mpr ⟨h1, by rw [show (1 + (i : Int)).natAbs = i + 1 by omega] at h2; exact h2, h3⟩
        have e25 := (e23.trans e4).trans e5
        have hx5 := e5 _ _ (e4 _ _ hx3)
        refine ⟨_, rfl, .inl ⟨rfl, _, SqL.of hx5⟩, _, rfl, _, rfl, _, rfl, (by show 3 ≤ sizeLine; decide), fun t2 ht2 => ?_⟩
        have e6 := same_upd (o := .tup [.int (1 + (i : Int)), .int b, .int c]) ht2
        refine ⟨L, _, _, rfl, rfl, e6 _ _ hx5, ?_, ?_⟩
        · rw [List.length_map]
          have h0 := congrArg List.length l2
          rw [List.length_map, List.length_append, colP_len, rowP_len] at h0
          have h1 := cntB_le n i (by omega)
          have h2 := cntA_le n (i + 1) k
          exact Nat.lt_of_lt_of_le (by omega : ks2.length < 1000000) (by decide)
        · refine ⟨_, _, _, rfl, fun o u z => ?_, ks2 ++ [(t2, [1 + (i : Int), b, c])], ?_, fun pp hpp => ?_, ?_⟩
          · rw [upd_ne (ne_of_none z hL)]
            exact e6 _ _ (e25 _ _ z)
          · rw [upd_same, List.map_append]
            rfl
          · rcases List.mem_append.mp hpp with h | h
            · have hh := ((hd3.same e4).same e5).same e6 pp h
              rw [upd_ne (fun z => by rw [z, e6 _ _ hx5] at hh; cases hh)]
              exact hh
            · rw [List.mem_singleton.mp h, upd_ne (fun z => by have := e6 _ _ hx5; rw [← z, upd_same] at this; cases this)]
              exact upd_same
          · rw [List.map_append, l2, hrow, e0, cond_true, List.append_assoc]
            congr 2
            show [[1 + (i : Int), b, c]] = [[((i + 1 : Nat) : Int), (k : Int) + 1 - ((i + 1 : Nat) : Int), ((n : Int) + ((k : Int) + 1 - ((i + 1 : Nat) : Int)) * ((k : Int) + 1 - ((i + 1 : Nat) : Int))) / (4 * ((i + 1 : Nat) : Int))]]
            rw [show ((i + 1 : Nat) : Int) = 1 + (i : Int) by omega, show (k : Int) + 1 - (1 + (i : Int)) = b by omega, ← hdiv0]
      · rintro σ H2 ⟨v3, v4, v5, rfl, e2, ks2, hx2, hd2, l2⟩
        exact ⟨_, _, _, _, rfl, e2, ks2, hx2, hd2, l2⟩
    · rintro σ H1 ⟨v2, v3, v4, v5, rfl, e1, ks1, hx1, hd1, l1⟩
      exact ⟨_, rfl, q _ _ _ e1 hx1 hd1 (l1.trans ecls.symm)⟩
end
end Sf

namespace Sf
open PySem PySem.Spec PyProof.Rows L2
section
variable {P : Program} {w : World} {K : PySem.W.Frag} {mg : Str → Option Value} {base : Heap} {f : Addr} {fd : FuncData}
def spCommon : Sp := fun vs H Q _ => ∃ a b : Int, vs = [.int a, .int b] ∧ a.natAbs < 1000000 ∧ b.natAbs < 2000 ∧ Q (.int ((a.natAbs.gcd b.natAbs : Nat) : Int)) H
theorem ok_common (F : FnD K "_law_common" "_law_common" s_L_common f fd) (T : Glob mg) : FnOk P w K mg base CX0 1 f fd ["_law_one", "_law_other"] spCommon := by
  refine F.ok sc_L_common (fun vs H Q E h => ?_) (fun cdv A outer s H vs Q E hr h => ?_)
  · obtain ⟨a, b, rfl, _⟩ := h; rfl
  · obtain ⟨a, b, rfl, ha, hb, q⟩ := h
    refine ⟨_, PSs.nox (pss_cons (ps_par (i := 0) (j := 1) (by rfl) sc_L_common.nd rfl rfl (by decide) rfl rfl (pa_cons (pe_callB call_abs (by rfl) T.m_abs (by decide +kernel) (pa_cons (pv 0) pa_nil)) (pa_cons (pe_callB call_abs (by rfl) T.m_abs (by decide +kernel) (pa_cons (pv 1) pa_nil)) pa_nil)) (by rfl))
      (Evl.pss_cut (ps_for PassesOwn.never rfl (pi_range1 (by rfl) T.m_range (pa_cons pe_int pa_nil)) (pg_name (i := 2) sc_L_common.nd rfl (Or.inl rfl)) (pss_cons (ps_if (pt_cmp (pc_eqI (pv 1) pe_int)) (pss_one ps_break) pss_nil)
      (pss_one (ps_par (i := 0) (j := 1) (by rfl) sc_L_common.nd rfl rfl (by decide) rfl rfl (pa_cons (pv 1) (pa_cons (pe_op op_mod (pe_callTy call_int1 (by rfl) T.m_int (by decide +kernel) (pa_cons (pv 0) pa_nil)) (pv 1)) pa_nil)) (by rfl)))))
      (pss_one (ps_ret (pv 0))))), ?_⟩
    refine ⟨_, rfl, a, rfl, _, rfl, b, rfl, _, _, rfl, ?_⟩
    have ea : (if a < 0 then -a else a) = ((a.natAbs : Nat) : Int) := by split <;> omega
    have eb : (if b < 0 then -b else b) = ((b.natAbs : Nat) : Int) := by split <;> omega
    rw [ea, eb]
    generalize hx : a.natAbs = x0 at *
    generalize hy : b.natAbs = y0 at *
    refine ⟨fun σ' H' => ∃ v : Option V, σ' = [some (.int ((x0.gcd y0 : Nat) : Int)), some (.int 0), v] ∧ H = H', ?_, ?_⟩
    · refine ⟨2000, rfl, by decide, by decide, for_range (lo := 0) (n := 2000) (fun i σ H' => ∃ (x y : Nat) (v : Option V), σ = [some (.int x), some (.int y), v] ∧ H = H' ∧ x.gcd y = x0.gcd y0 ∧ y + i ≤ y0) ⟨x0, y0, none, rfl, rfl, rfl, Nat.le_refl _⟩ ?_ ?_⟩
      · rintro i σ _ hi ⟨x, y, v, rfl, rfl, eg, hyi⟩
        refine ⟨_, rfl, _, _, rfl, rfl, _, rfl, ifd (fun h => ?_) (fun h => ?_)⟩
        · have y0' : y = 0 := by omega
          subst y0'
          rw [Nat.gcd_zero_right] at eg
          refine ⟨some (.int (0 + (i : Int))), ?_, rfl⟩
          rw [← eg]
          rfl
        · have yp : 0 < y := by omega
          refine ⟨_, rfl, _, rfl, .inl ⟨_, rfl, _, rfl, _, _, rfl, rfl, by omega, _, _, rfl, ?_⟩⟩
          refine ⟨y, x % y, some (.int (0 + (i : Int))), ?_, rfl, ?_, ?_⟩
          · rw [Int.natCast_emod]
            rfl
          · rw [← eg, Nat.gcd_comm y (x % y), ← Nat.gcd_rec, Nat.gcd_comm]
          · have := Nat.mod_lt x yp
            omega
      · rintro σ _ ⟨x, y, v, rfl, rfl, eg, hyi⟩
        omega
    · rintro σ' _ ⟨v, rfl, rfl⟩
      exact ⟨_, rfl, q⟩
abbrev RedQ2 (a b c : Int) : Prop := -a < b ∧ b ≤ a ∧ a ≤ c ∧ (0 ≤ b ∨ a ≠ c)
theorem ok_law_is_reduced (F : FnD K "_law_is_reduced" "_law_is_reduced" s_L_is_reduced f fd) : FnOk P w K mg base CX0 1 f fd ["_law_a", "_law_b", "_law_c"] (fun vs H Q _ => ∃ a b c : Int, vs = [.int a, .int b, .int c] ∧ ∀ r : Bool, (r = true ↔ RedQ2 a b c) → Q (.bl r) H) := by
  refine F.ok sc_L_is_reduced (fun vs H Q E h => ?_) (fun cdv A outer s H vs Q E hr h => ?_)
  · obtain ⟨a, b, c, rfl, _⟩ := h; rfl
  · obtain ⟨a, b, c, rfl, q⟩ := h
    refine ⟨_, PSs.nox (pss_one (ps_ret (pe_and (pe_chain3 op_lt op_le op_le (pe_un un_neg (pv 0)) (pv 1) (pv 0) (pv 2)) (pe_one (pe_or (pe_cmp (pc_ge (pv 1) pe_int) rfl) (pe_one (pe_cmp (pc_neI (pv 0) (pv 2)) rfl))))))), ?_⟩
    refine ⟨_, rfl, _, rfl, _, rfl, _, _, rfl, rfl, _, rfl, ifd (fun h1 => ?_) (fun h1 => ⟨_, rfl, (if_neg (by decide)).mpr (q _ ⟨fun z => Bool.noConfusion z, fun z => absurd z.1 h1⟩)⟩)⟩
    refine ⟨_, rfl, _, _, rfl, rfl, _, rfl, ifd (fun h2 => ?_) (fun h2 => ⟨_, rfl, (if_neg (by decide)).mpr (q _ ⟨fun z => Bool.noConfusion z, fun z => absurd z.2.1 h2⟩)⟩)⟩
    refine ⟨_, rfl, _, _, rfl, rfl, _, rfl, ifd (fun h3 => ?_) (fun h3 => q _ ⟨fun z => Bool.noConfusion z, fun z => absurd z.2.2.1 h3⟩)⟩
    refine ⟨_, rfl, _, _, rfl, rfl, _, rfl, ifd (fun h4 => ?_) (fun h4 => ?_)⟩
    · exact q _ ⟨fun _ => ⟨h1, h2, h3, .inl h4⟩, fun _ => rfl⟩
    · refine ⟨_, rfl, _, rfl, _, _, rfl, rfl, q _ ?_⟩
      show (!decide (a = c)) = true ↔ _
      rw [Bool.not_eq_true', decide_eq_false_iff_not]
      exact ⟨fun z => ⟨h1, h2, h3, .inr z⟩, fun z => z.2.2.2.resolve_left h4⟩
def partL (a b c : Nat) : Nat → List (List Int)
  | 0 => []
  | 1 => cond (t1 a b c) [[(a : Int), (b : Int), (c : Int)]] []
  | _ => twoL a b c
theorem part_step {a b c i : Nat} {x : V} (ha : 1 ≤ a) (h : ([.int b, .int (-(b : Int))] : List V)[i]? = some x) : i < 2 ∧ ∃ (sd : Int) (tb : Bool), x = .int sd ∧ (tb = true ↔ RedQ2 a sd c ∧ (a.gcd b).gcd c = 1) ∧ partL a b c (i + 1) = partL a b c i ++ cond tb [[(a : Int), sd, (c : Int)]] [] := by
  have hi := (List.getElem?_eq_some_iff.mp h).1
  have hi2 : i < 2 := hi
  refine ⟨hi2, ?_⟩
  have c2 : i = 0 ∨ i = 1 := by omega
  rcases c2 with rfl | rfl
  · have e : x = .int b := (Option.some.inj h).symm
    refine ⟨b, t1 a b c, e, ?_, rfl⟩
    rw [t1_iff]
    constructor
    · rintro ⟨h1, h2, h3⟩
      exact ⟨⟨by omega, by omega, by omega, .inl (by omega)⟩, h3⟩
    · rintro ⟨⟨h1, h2, h3, _⟩, h4⟩
      exact ⟨by omega, by omega, h4⟩
  · have e : x = .int (-(b : Int)) := (Option.some.inj h).symm
    refine ⟨-(b : Int), t2 a b c, e, ?_, rfl⟩
    rw [t2_iff]
    constructor
    · rintro ⟨h1, h2, h3, h4⟩
      exact ⟨⟨by omega, by omega, by omega, by omega⟩, h4⟩
    · rintro ⟨⟨h1, h2, h3, h5⟩, h4⟩
      exact ⟨by omega, by omega, by omega, h4⟩
structure TwoLP (vs : List V) (H : Hp) (Q : VK) : Prop where
  ex : ∃ a b c : Nat, vs = [.int a, .int b, .int c] ∧ 1 ≤ a ∧ a < 2000 ∧ b < 2000 ∧ c < 2000 ∧ ∀ (D : Addr) (ks : List (Addr × List Int)) (H' : Hp), Same H H' → H D = none → H' D = some (.lst (ks.map fun p => V.ref p.1)) → Held H' ks → ks.map (·.2) = twoL a b c → Q (.ref D) H'
def spTwoL : Sp := fun vs H Q _ => TwoLP vs H Q
theorem ok_two_forms (F : FnD K "_law_two_forms" "_law_two_forms" s_L_two_forms f fd) (C_L_is_reduced : Cal P w K mg base 1 "_law_is_reduced" ["_law_a", "_law_b", "_law_c"] (fun vs H Q _ => ∃ a b c : Int, vs = [.int a, .int b, .int c] ∧ ∀ r : Bool, (r = true ↔ RedQ2 a b c) → Q (.bl r) H)) (C_L_common : Cal P w K mg base 1 "_law_common" ["_law_one", "_law_other"] spCommon) : FnOk P w K mg base CX0 2 f fd ["_law_a", "_law_b", "_law_c"] spTwoL := by
  refine F.ok sc_L_two_forms (fun vs H Q E h => ?_) (fun cdv A outer s H vs Q E hr h => ?_)
  · obtain ⟨a, b, c, rfl, _⟩ := h.ex; rfl
  · obtain ⟨a, b, c, rfl, a1, ha, hb, hc, q⟩ := h.ex
    refine ⟨_, PSs.nox (pss_cons (ps_set (i := 3) sc_L_two_forms.nd rfl (Or.inl rfl) (pe_lst pa_nil))
      (pss_cons (ps_for PassesOwn.never rfl (pi_tup (pe_tup (pa_cons (pv 1) (pa_cons (pe_un un_neg (pv 1)) pa_nil)))) (pg_name (i := 4) sc_L_two_forms.nd rfl (Or.inl rfl)) (pss_one (ps_if (PW.pt (pw_and (pt_val (pe_cal C_L_is_reduced (hr.mono (by decide)) (pa_cons (pv 0) (pa_cons (pv 4) (pa_cons (pv 2) pa_nil))))) (pw_and1 (pt_cmp (pc_eqI (pe_cal C_L_common (hr.mono (by decide)) (pa_cons (pe_cal C_L_common (hr.mono (by decide)) (pa_cons (pv 0) (pa_cons (pv 1) pa_nil))) (pa_cons (pv 2) pa_nil))) pe_int))))) (pss_one (ps_expr (pe_bm PySem.F.plainAttrs_list PySem.F.slot_list_append PySem.F.type_list_append mt_append (pv 3) (pa_cons (pe_tup (pa_cons (pv 0) (pa_cons (pv 4) (pa_cons (pv 2) pa_nil)))) pa_nil)))) pss_nil)))
      (pss_one (ps_ret (pv 3))))), ?_⟩
    refine ⟨(by show 0 ≤ sizeLine; decide), fun D hD => ?_⟩
    refine ⟨_, rfl, _, rfl, _, rfl, (by show 2 ≤ sizeLine; decide), fun t ht => ⟨t, rfl, ⟨_, SqT.of upd_same⟩, ?_⟩⟩
    refine for_tup (K := K) (a := t) (xs := [.int b, .int (-(b : Int))]) (fun i σ H' => ∃ v4, σ = [some (.int a), some (.int b), some (.int c), some (.ref D), v4] ∧ Same H H' ∧ H' t = some (.tup [.int b, .int (-(b : Int))]) ∧ ∃ ks : List (Addr × List Int), H' D = some (.lst (ks.map fun p => V.ref p.1)) ∧ Held H' ks ∧ ks.map (·.2) = partL a b c i)
      ⟨none, rfl, (same_upd hD).trans (same_upd ht), upd_same, [], (same_upd ht) _ _ upd_same, (fun _ h => by cases h), rfl⟩ (fun i σ H' _ ⟨_, _, _, h, _⟩ => SqT.of h) ?_ ?_
    · rintro i x σ H1 hx ⟨v4, rfl, e1, h1, ks, hd, hh, hl⟩
      obtain ⟨hi, sd, tb, rfl, hiff, hpart⟩ := part_step (c := c) a1 hx
      have skip : tb = false → ∀ H2, Same H1 H2 → ∃ v4, ([some (.int a), some (.int b), some (.int c), some (.ref D), some (.int sd)] : L2.St) = [some (.int a), some (.int b), some (.int c), some (.ref D), v4] ∧ Same H H2 ∧ H2 t = some (.tup [.int b, .int (-(b : Int))]) ∧ ∃ ks : List (Addr × List Int), H2 D = some (.lst (ks.map fun p => V.ref p.1)) ∧ Held H2 ks ∧ ks.map (·.2) = partL a b c (i + 1) := fun e H2 e2 =>
        ⟨_, rfl, e1.trans e2, e2 _ _ h1, ks, e2 _ _ hd, hh.same e2, by rw [hpart, e, cond_false, List.append_nil]; exact hl⟩
      have no : ¬ (RedQ2 a sd c ∧ (a.gcd b).gcd c = 1) → tb = false := fun h => by
        cases z : tb with
        | false => rfl
        | true => exact absurd (hiff.mp z) h
      refine ⟨_, rfl, _, rfl, _, rfl, a, sd, c, rfl, fun r hr => ⟨_, rfl, ?_⟩⟩
      cases r with
      | false => exact (if_neg (by decide)).mpr (skip (no fun z => Bool.noConfusion (hr.mpr z.1)) _ (Same.refl _))
      | true =>
        have hred := hr.mp rfl
        refine (if_pos rfl).mpr ?_
        refine ⟨_, rfl, _, rfl, a, b, rfl, by omega, by omega, _, rfl, _, c, rfl, ?_, by omega, _, _, rfl, rfl, _, rfl, ifd (fun h2 => ?_) (fun h2 => ?_)⟩
        · have := Nat.gcd_le_left b (by omega : 0 < a)
          rw [Int.natAbs_natCast, Int.natAbs_natCast, Int.natAbs_natCast]
          omega
        · rw [Int.natAbs_natCast, Int.natAbs_natCast, Int.natAbs_natCast, Int.natAbs_natCast] at h2
          have tbt : tb = true := hiff.mpr ⟨hred, Int.ofNat_inj.mp h2⟩
          refine ⟨_, rfl, .inl ⟨rfl, _, SqL.of hd⟩, _, rfl, _, rfl, _, rfl, (by show 3 ≤ sizeLine; decide), fun t2 ht2 => ?_⟩
          have e6 := same_upd (o := .tup [.int a, .int sd, .int c]) ht2
          have hD6 := e6 _ _ hd
          refine ⟨D, _, _, rfl, rfl, hD6, ?_, ?_⟩
          · rw [List.length_map]
            have h0 := congrArg List.length hl
            rw [List.length_map] at h0
            have h3 : (partL a b c i).length ≤ 2 := by
              have c2 : i = 0 ∨ i = 1 := by omega
              rcases c2 with rfl | rfl
              · exact Nat.zero_le _
              · show (cond (t1 a b c) [[(a : Int), (b : Int), (c : Int)]] []).length ≤ 2
                cases t1 a b c <;> simp
            exact Nat.lt_of_lt_of_le (by omega : ks.length < 1000000) (by decide)
          · have ntD : t ≠ D := fun z => by rw [z, hd] at h1; cases h1
            refine ⟨_, rfl, fun o u z => ?_, ?_, ks ++ [(t2, [(a : Int), sd, (c : Int)])], ?_, fun pp hpp => ?_, ?_⟩
            · rw [upd_ne (ne_of_none z hD)]
              exact e6 _ _ (e1 _ _ z)
            · rw [upd_ne ntD]
              exact e6 _ _ h1
            · rw [upd_same, List.map_append]
              rfl
            · rcases List.mem_append.mp hpp with h | h
              · have hz := hh.same e6 pp h
                rw [upd_ne (fun z => by rw [z, hD6] at hz; cases hz)]
                exact hz
              · rw [List.mem_singleton.mp h, upd_ne (fun z => by rw [← z, upd_same] at hD6; cases hD6)]
                exact upd_same
            · rw [List.map_append, hl, hpart, tbt]
              rfl
        · rw [Int.natAbs_natCast, Int.natAbs_natCast, Int.natAbs_natCast, Int.natAbs_natCast] at h2
          exact skip (no fun z => h2 (by rw [z.2]; rfl)) _ (Same.refl _)
    · rintro σ H1 ⟨v4, rfl, e1, h1, ks, hd, hh, hl⟩
      exact ⟨_, rfl, q D ks H1 e1 hD hd hh hl⟩
end
end Sf

namespace Sf
open PySem PySem.Spec PyProof.Rows L2
theorem rowN_le (n b : Nat) : ∀ m, rowN n b m ≤ 2 * m
  | 0 => Nat.le_refl _
  | m + 1 => by
    have h := rowN_le n b m
    have h2 : ∀ x y z, twoN x y z ≤ 2 := fun x y z => by
      unfold twoN
      cases t1 x y z <;> cases t2 x y z <;> simp
    show rowN n b m + cond (rowT n b (max 1 b + m)) (twoN (max 1 b + m) b ((b * b + n) / 4 / (max 1 b + m))) 0 ≤ _
    have h3 := h2 (max 1 b + m) b ((b * b + n) / 4 / (max 1 b + m))
    cases rowT n b (max 1 b + m) with
    | true => rw [cond_true]; omega
    | false => rw [cond_false]; omega
theorem colN_le (n : Nat) : ∀ m, colN n m ≤ 60 * m
  | 0 => Nat.le_refl _
  | m + 1 => by
    have h := colN_le n m
    have h2 := rowN_le n m 30
    show colN n m + cond (Nat.beq ((m * m + n) % 4) 0) (rowN n m 30) 0 ≤ _
    cases Nat.beq ((m * m + n) % 4) 0 with
    | true => rw [cond_true]; omega
    | false => rw [cond_false]; omega
section
variable {P : Program} {w : World} {K : PySem.W.Frag} {mg : Str → Option Value} {base : Heap} {f : Addr} {fd : FuncData}
structure LawFP (vs : List V) (H : Hp) (Q : VK) : Prop where
  ex : ∃ n : Nat, vs = [.int n] ∧ 1 ≤ n ∧ n ≤ 2000 ∧ ∀ (D : Addr) (ks : List (Addr × List Int)) (H' : Hp), Same H H' → H' D = some (.lst (ks.map fun p => V.ref p.1)) → Held H' ks → ks.map (·.2) = formsP n → Q (.ref D) H'
def spLawF : Sp := fun vs H Q _ => LawFP vs H Q
/-- a list of forms at D, new since H -/
def Found (H H' : Hp) (D : Addr) (l : List (List Int)) : Prop := Same H H' ∧ ∃ ks : List (Addr × List Int), H' D = some (.lst (ks.map fun p => V.ref p.1)) ∧ Held H' ks ∧ ks.map (·.2) = l
set_option maxHeartbeats 8000000 in
theorem ok_law_forms (F : FnD K "_law_forms" "_law_forms" s_L_forms f fd) (T : Glob mg) (C_L_two_forms : Cal P w K mg base 2 "_law_two_forms" ["_law_a", "_law_b", "_law_c"] spTwoL) : FnOk P w K mg base CX0 3 f fd ["_law_number"] spLawF := by
  refine F.ok sc_L_forms (fun vs H Q E h => ?_) (fun cdv A outer s H vs Q E hr h => ?_)
  · obtain ⟨n, rfl, _⟩ := h.ex; rfl
  · obtain ⟨n, rfl, n1, n2, q⟩ := h.ex
    refine ⟨_, PSs.nox (pss_cons (ps_par (i := 1) (j := 2) (by rfl) sc_L_forms.nd rfl rfl (by decide) rfl rfl (pa_cons (pe_lst pa_nil) (pa_cons pe_int pa_nil)) (by rfl))
      (pss_cons (ps_while PassesOwn.never (pt_cmp (pc_le (pe_op op_mulW (pe_op op_mulW pe_int (pv 2)) (pv 2)) (pv 0))) (pss_cons (ps_set (i := 3) sc_L_forms.nd rfl (Or.inl rfl) (pe_op op_add (pe_op op_mulW (pv 2) (pv 2)) (pv 0)))
      (Evl.pss_cut (ps_if (pt_cmp (pc_eqI (pe_op op_mod (pv 3) pe_int) pe_int)) (pss_one (ps_for PassesOwn.never rfl (pi_range2 (by rfl) T.m_range (pa_cons (pe_callB (call_max2 rfl) (by rfl) T.m_max (by decide +kernel) (pa_cons pe_int (pa_cons (pv 2) pa_nil))) (pa_cons (pe_op op_add (pv 3) pe_int) pa_nil))) (pg_name (i := 4) sc_L_forms.nd rfl (Or.inl rfl)) (pss_cons (ps_if (pt_cmp (pc_gt (pe_op op_mulW (pe_op op_mulW pe_int (pv 4)) (pv 4)) (pv 3))) (pss_one ps_break) pss_nil)
      (pss_one (ps_if (pt_cmp (pc_eqI (pe_op op_mod (pe_op op_fdivW (pv 3) pe_int) (pv 4)) pe_int)) (pss_one (ps_expr (pe_bm PySem.F.plainAttrs_list PySem.F.slot_list_extend PySem.F.type_list_extend mt_extend (pv 1) (pa_cons (pe_cal C_L_two_forms (hr.mono (by decide)) (pa_cons (pv 4) (pa_cons (pv 2) (pa_cons (pe_op op_fdivW (pe_op op_fdivW (pv 3) pe_int) (pv 4)) pa_nil)))) pa_nil)))) pss_nil))))) pss_nil)
      (pss_one (ps_set (i := 2) sc_L_forms.nd rfl (Or.inl rfl) (pe_op op_add (pv 2) pe_int))))))
      (pss_one (ps_ret (pe_callB (cr_sortedS2 rfl) (by rfl) T.m_sorted (by decide +kernel) (pa_cons (pe_callTy (cr_setOfT rfl hr.units) (by rfl) T.m_set (by decide +kernel) (pa_cons (pv 1) pa_nil)) pa_nil)))))), ?_⟩
    have hr30 := cls_root n2
    have ecls : lawL n = colL n (PySem.Float64.isqrt (n / 3) + 1) := rfl
    have hsq := isqrt_spec3 ⟨n / 3, by omega⟩
    have hs1 : PySem.Float64.isqrt (n / 3) * PySem.Float64.isqrt (n / 3) ≤ n / 3 := hsq.1
    have hs2 : n / 3 < (PySem.Float64.isqrt (n / 3) + 1) * (PySem.Float64.isqrt (n / 3) + 1) := hsq.2
    clear hsq
    generalize eR : PySem.Float64.isqrt (n / 3) = R at hr30 ecls hs1 hs2
    refine ⟨(by show 0 ≤ sizeLine; decide), fun D hD => ?_⟩
    refine ⟨_, _, rfl, fun c σ H' => ∃ (b : Nat) (v3 v4 : Option V), σ = [some (.int n), some (.ref D), some (.int b), v3, v4] ∧ b ≤ R + 1 ∧ c + b = R + 1 ∧ Found H H' D (colL n b), ⟨R + 1, 0, none, none, rfl, by omega, by omega, same_upd hD, [], upd_same, (fun _ h => by cases h), rfl⟩, ?_⟩
    rintro c σ H1 ⟨b, v3, v4, rfl, hb, hc, hF⟩
    have wb : (b : Int).natAbs < 2 ^ 3000 := lt3000s (by omega) (by omega)
    have e3 : 3 * (b : Int) * b = ((3 * (b * b) : Nat) : Int) := by rw [Int.mul_assoc]; push_cast; rfl
    refine ⟨_, rfl, _, _, rfl, rfl, CMulW.of (lt3000s (by decide) (by decide)) wb, _, rfl, _, _, rfl, rfl, CMulW.of (lt3000s (by omega) (by omega)) wb, _, rfl, ((3 * (b * b) : Nat) : Int), (n : Int), congrArg V.int e3, rfl, _, rfl, ifd (fun h1 => ⟨fun σ' H' => ∃ m', m' < c ∧ ∃ (b : Nat) (v3 v4 : Option V), σ' = [some (.int n), some (.ref D), some (.int b), v3, v4] ∧ b ≤ R + 1 ∧ m' + b = R + 1 ∧ Found H H' D (colL n b), fun _ _ z => z, ?_⟩) (fun h1 => ?_)⟩
    · have hbR : b ≤ R := by
        rcases Nat.lt_or_ge R b with z | z
        · have := Nat.mul_le_mul (z : R + 1 ≤ b) z
          have : (R + 1) * (R + 1) ≤ b * b := this
          omega
        · exact z
      have bb : b * b ≤ 900 := Nat.mul_le_mul (by omega : b ≤ 30) (by omega : b ≤ 30)
      have eW : (b : Int) * b + n = ((b * b + n : Nat) : Int) := by push_cast; rfl
      have hcol := colL_succ n b
      refine ⟨_, rfl, _, rfl, _, _, rfl, rfl, CMulW.of wb wb, _, rfl, _, _, rfl, rfl, ?_⟩
      refine ⟨fun σ H' => ∃ v3 v4 : Option V, σ = [some (.int n), some (.ref D), some (.int b), v3, v4] ∧ Found H H' D (colL n (b + 1)), ?_, ?_⟩
      · refine ⟨_, rfl, _, _, rfl, rfl, (by show (0 : Int) < 4; decide), _, _, rfl, rfl, _, rfl, ifd (fun h2 => ?_) (fun h2 => ?_)⟩
        rotate_left
        · have e0 : Nat.beq ((b * b + n) % 4) 0 = false := by
            cases z : Nat.beq ((b * b + n) % 4) 0 with
            | false => rfl
            | true =>
              have z2 := Nat.eq_of_beq_eq_true z
              rw [eW] at h2
              omega
          rw [e0, cond_false, List.append_nil] at hcol
          exact ⟨_, _, rfl, by rw [hcol]; exact hF⟩
        have e0 : Nat.beq ((b * b + n) % 4) 0 = true := by
          rw [Nat.beq_eq]
          rw [eW] at h2
          omega
        rw [e0, cond_true] at hcol
        have elo : (if (b : Int) > 1 then (b : Int) else 1) = ((max 1 b : Nat) : Int) := by split <;> omega
        refine ⟨_, rfl, 1, b, rfl, _, rfl, _, _, rfl, rfl, ((max 1 b : Nat) : Int), ((b * b + n : Nat) : Int) + 1, ?_, ⟨by omega, by omega, by omega, by omega⟩, ?_⟩
        · rw [← elo, ← eW]
        rw [show (((b * b + n : Nat) : Int) + 1 - ((max 1 b : Nat) : Int)).toNat = b * b + n + 1 - max 1 b by omega]
        have hWb : b * b + n ≤ 2900 := by omega
        have small : ∀ x : Nat, 4 * x * x ≤ b * b + n → x ≤ 26 := fun x hx => by
          rcases Nat.lt_or_ge 26 x with z | z
          · have := Nat.mul_le_mul (z : 27 ≤ x) (z : 27 ≤ x)
            rw [Nat.mul_assoc] at hx
            omega
          · exact z
        have fin : ∀ i : Nat, (i = 0 ∨ 4 * (max 1 b + i - 1) * (max 1 b + i - 1) ≤ b * b + n) → b * b + n < 4 * (max 1 b + i) * (max 1 b + i) → colL n b ++ rowL n b i = colL n (b + 1) := fun i h1 h2 => by
          have hi : i ≤ 30 := by
            rcases h1 with h1 | h1
            · omega
            · have := small _ h1
              omega
          have h3 := rowL_stop (n := n) h2 (30 - i)
          rw [show i + (30 - i) = 30 by omega] at h3
          rw [hcol, h3]
        refine for_range (lo := ((max 1 b : Nat) : Int)) (n := b * b + n + 1 - max 1 b) (fun i σ H' => ∃ v4, σ = [some (.int n), some (.ref D), some (.int b), some (.int ((b : Int) * b + n)), v4] ∧ Found H H' D (colL n b ++ rowL n b i) ∧ (i = 0 ∨ 4 * (max 1 b + i - 1) * (max 1 b + i - 1) ≤ b * b + n)) ⟨v4, rfl, by rw [show rowL n b 0 = [] from rfl, List.append_nil]; exact hF, .inl rfl⟩ ?_ ?_
        · rintro i σ H2 hi ⟨v5, rfl, hF2, hprev⟩
          have ea : ((max 1 b : Nat) : Int) + (i : Int) = ((max 1 b + i : Nat) : Int) := by omega
          have hrow := rowL_succ n b i
          have hlo : max 1 b ≤ 30 := by omega
          have ha0 : 0 < max 1 b + i := by omega
          have hfin := fin i hprev
          have hab : b ≤ max 1 b + i := by omega
          have hia : max 1 b + i ≤ 2900 := by omega
          rw [ea]
          have hnext : max 1 b + (i + 1) - 1 = max 1 b + i := by omega
          rw [hnext]
          generalize max 1 b + i = a at *
          have wa : (a : Int).natAbs < 2 ^ 3000 := lt3000s (by omega) (by omega)
          have e4 : 4 * (a : Int) * a = ((4 * a * a : Nat) : Int) := by push_cast; rfl
          refine ⟨_, rfl, _, _, rfl, rfl, CMulW.of (lt3000s (by decide) (by decide)) wa, _, rfl, _, _, rfl, rfl, CMulW.of (lt3000s (by omega) (by omega)) wa, _, rfl, ((4 * a * a : Nat) : Int), ((b * b + n : Nat) : Int), congrArg V.int e4, congrArg V.int eW, _, rfl, ifd (fun h3 => ?_) (fun h3 => ?_)⟩
          · exact ⟨_, _, rfl, by rw [← hfin (by omega)]; exact hF2⟩
          have h3' : 4 * a * a ≤ b * b + n := by omega
          have eq4 : ((b : Int) * b + n) / 4 = (((b * b + n) / 4 : Nat) : Int) := by rw [eW]; exact (Int.natCast_ediv _ 4).symm
          refine ⟨_, rfl, _, _, rfl, rfl, CDivW.of (by decide) (lt3000s (by decide) (by decide)), _, rfl, (((b * b + n) / 4 : Nat) : Int), (a : Int), congrArg V.int eq4, rfl, (by omega), _, _, rfl, rfl, _, rfl, ifd (fun h4 => ?_) (fun h4 => ?_)⟩
          rotate_left
          · have e0 : rowT n b a = false := by
              cases z : rowT n b a with
              | false => rfl
              | true => exact absurd (by have := (rowT_iff.mp z).2; rw [← Int.natCast_emod, this]; rfl) h4
            rw [e0, cond_false, List.append_nil] at hrow
            exact ⟨_, rfl, by rw [hrow]; exact hF2, .inr h3'⟩
          have e1 : rowT n b a = true := rowT_iff.mpr ⟨h3', by rw [← Int.natCast_emod] at h4; exact Int.ofNat_inj.mp h4⟩
          rw [e1, cond_true] at hrow
          obtain ⟨eH, ks, hd, hh, hl⟩ := hF2
          have eqc : (((b * b + n) / 4 : Nat) : Int) / (a : Int) = (((b * b + n) / 4 / a : Nat) : Int) := (Int.natCast_ediv _ _).symm
          have hcb : (b * b + n) / 4 / a ≤ (b * b + n) / 4 := Nat.div_le_self _ _
          have ha26 := small a h3'
          refine ⟨_, rfl, .inl ⟨rfl, _, SqL.of hd⟩, _, rfl, _, rfl, _, rfl, _, _, rfl, rfl, CDivW.of (by decide) (lt3000s (by decide) (by decide)), _, rfl, (((b * b + n) / 4 : Nat) : Int), (a : Int), congrArg V.int eq4, rfl, CDivW.of (by omega) wa, a, b, (b * b + n) / 4 / a, congrArg (fun z : Int => [V.int (a : Int), V.int (b : Int), V.int z]) eqc, by omega, by omega, by omega, by omega, fun E2 ks2 H3 e3 hEn hE hh2 hl2 => ?_⟩
          have hd3 := e3 _ _ hd
          have hh3 := hh.same e3
          have l1 : ks.length = colN n b + rowN n b i := by
            have h0 := congrArg List.length hl
            rw [List.length_map, List.length_append, colL_len, rowL_len] at h0
            exact h0
          have l2 : ks2.length ≤ 2 := by
            have h0 := congrArg List.length hl2
            rw [List.length_map, twoL_len] at h0
            rw [h0]
            unfold twoN
            cases t1 a b ((b * b + n) / 4 / a) <;> cases t2 a b ((b * b + n) / 4 / a) <;> simp
          have l3 := colN_le n b
          have l4 := rowN_le n b i
          refine ⟨D, E2, _, _, rfl, rfl, hd3, hE, ?_, ?_⟩
          · rw [List.length_map, List.length_map, sizeLine_eq]
            omega
          · refine ⟨_, rfl, ⟨fun o u z => ?_, ks ++ ks2, ?_, fun pp hpp => ?_, ?_⟩, .inr h3'⟩
            · rw [upd_ne (ne_of_none z hD)]
              exact e3 _ _ (eH _ _ z)
            · rw [upd_same, List.map_append]
            · have hz : H3 pp.1 = some (.tup (pp.2.map V.int)) := by
                rcases List.mem_append.mp hpp with h | h
                · exact hh3 pp h
                · exact hh2 pp h
              rw [upd_ne (fun z => by rw [z, hd3] at hz; cases hz)]
              exact hz
            · rw [List.map_append, hl, hl2, hrow, List.append_assoc]
        · rintro σ H2 ⟨v5, rfl, hF2, hprev⟩
          refine ⟨_, _, rfl, ?_⟩
          rw [← fin _ hprev ?_]
          · exact hF2
          · rw [show max 1 b + (b * b + n + 1 - max 1 b) = b * b + n + 1 by
              have : b ≤ b * b := by
                cases b with
                | zero => exact Nat.le_refl _
                | succ r => exact Nat.le_mul_of_pos_left _ (Nat.succ_pos r)
              omega]
            have := Nat.mul_le_mul (by omega : 1 ≤ 4 * (b * b + n + 1)) (Nat.le_refl (b * b + n + 1))
            omega
      · rintro σ H2 ⟨v3, v4, rfl, hF2⟩
        exact ⟨_, rfl, _, _, rfl, rfl, c - 1, by omega, b + 1, v3, v4, rfl, by omega, by omega, hF2⟩
    · have hbR : b = R + 1 := by
        rcases Nat.lt_or_ge R b with z | z
        · omega
        · have := Nat.mul_le_mul z z
          omega
      subst hbR
      obtain ⟨eH, ks, hd, hh, hl⟩ := hF
      rw [← ecls] at hl
      have l64 : ks.length < 64 := by
        have h0 := congrArg List.length hl
        rw [List.length_map] at h0
        rw [h0]
        exact lawL_len n2
      have hmem : ∀ f, f ∈ ks.map (·.2) ↔ f ∈ formsP n := fun f => by rw [hl]; exact lawL_mem n2 n1
      refine ⟨_, rfl, D, ks, rfl, SqL.of hd, fun p hp => SqT.of (hh p hp), l64, fun a L hA h2 h3 => ?_⟩
      have eA := same_upd (o := SetTO P w a L) hA
      have hL : Held (upd H1 a (SetTO P w a L)) L := fun p hp => eA _ _ (hh p (h2 p hp))
      refine ⟨a, L, 3, 10000, rfl, upd_same, fun p hp => SqT.of (hL p hp), by decide, fun p hp => formsP_bd n2 ((hmem p.2).mp (List.mem_map.mpr ⟨p, h2 p hp, rfl⟩)), fun L' p pm nd l64' pw hp => ?_⟩
      have eP := same_upd (o := .lst (L'.map fun q => V.ref q.1)) hp
      refine q p L' _ ((eH.trans eA).trans eP) upd_same (fun x hx => eP _ _ (hL x (pm.mem_iff.mp hx))) (sorted_is n2 nd (List.pairwise_map.mpr pw) fun f => ?_)
      rw [← hmem f, (pm.map (·.2)).mem_iff]
      constructor
      · intro h
        obtain ⟨x, hx, e⟩ := List.mem_map.mp h
        exact List.mem_map.mpr ⟨x, h2 x hx, e⟩
      · intro h
        obtain ⟨x, hx, e⟩ := List.mem_map.mp h
        rw [← e]
        exact h3 x hx
end
end Sf

namespace Sf
open PySem PySem.Spec PyProof.Rows L2
/-! the tuples of primes that the law draws -/
def L12 : List Nat := [2, 3, 5, 7, 11, 13, 17, 19, 23, 37, 67, 113]
def PT : List (List Nat) := [[2], [3], [5], [7], [11], [13], [17], [19], [23], [37], [67], [113], [2, 3, 5], [2, 3, 7], [2, 3, 11], [2, 5, 7], [2, 3, 19], [3, 5, 7], [2, 5, 11]]
theorem prp_small {p : Nat} (h : decide (2 ≤ p ∧ ∀ k : Fin p, 2 ≤ k.1 → p % k.1 ≠ 0) = true) : PrP (p : Int) := by
  obtain ⟨h1, h2⟩ := of_decide_eq_true h
  refine ⟨by omega, fun k a b z => ?_⟩
  have := h2 ⟨k.toNat, by omega⟩ (by show 2 ≤ k.toNat; omega)
  refine this ?_
  have e : k = (k.toNat : Int) := by omega
  rw [e, ← Int.natCast_emod] at z
  exact Int.ofNat_inj.mp z
theorem prp12 {p : Nat} (h : p ∈ L12) : PrP (p : Int) := by
  have c : p = 2 ∨ p = 3 ∨ p = 5 ∨ p = 7 ∨ p = 11 ∨ p = 13 ∨ p = 17 ∨ p = 19 ∨ p = 23 ∨ p = 37 ∨ p = 67 ∨ p = 113 := by simpa [L12] using h
  rcases c with rfl | rfl | rfl | rfl | rfl | rfl | rfl | rfl | rfl | rfl | rfl | rfl
  all_goals exact prp_small (by decide +kernel)
def ascB (b l : Nat) : List Nat → Bool
  | [] => true
  | p :: ps => decide (l ≤ p) && (decide (p ≤ b) && ascB (b / p) (p + 1) ps)
theorem PT_ok : ∀ ps ∈ PT, ascB 1000000000 2 ps = true ∧ ps.length % 2 = 1 ∧ ps.length ≤ 3 ∧ ps.prod ≤ 120 ∧ 1 ≤ ps.prod ∧ ∀ p ∈ ps, p ∈ L12 := by decide +kernel
theorem L12_bd : ∀ p ∈ L12, 2 ≤ p ∧ p ≤ 113 := by decide
def totN : List Nat → Nat
  | [] => 1
  | p :: ps => (p - 1) * totN ps
/-- the integers of a list of numbers -/
abbrev iL (ps : List Nat) : List Int := ps.map fun p : Nat => (p : Int)
section
variable {P : Program} {w : World} {K : PySem.W.Frag} {mg : Str → Option Value} {base : Heap} {f : Addr} {fd : FuncData}
def spOddP : Sp := fun vs H Q _ => ∃ (t : Addr) (ps : List Nat), vs = [.ref t] ∧ H t = some (.tup ((iL ps).map V.int)) ∧ ps ∈ PT ∧ Q (.bl true) H
theorem ok_is_odd_primes (F : FnD K "is_odd_primes" "is_odd_primes" s_P_is_odd_primes f fd) (T : Glob mg) (C_P_is_integer : Cal P w K mg base 1 "is_integer" ["value"] (spIsInt K)) (C_P_is_prime : Cal P w K mg base 2 "is_prime" ["value"] (spIsPrime K)) : FnOk P w K mg base CX0 3 f fd ["value"] spOddP := by
  refine F.ok sc_P_is_odd_primes (fun vs H Q E h => ?_) (fun cdv A outer s H vs Q E hr h => ?_)
  · obtain ⟨t, ps, rfl, _⟩ := h; rfl
  · obtain ⟨t, ps, rfl, ht, hps, q⟩ := h
    obtain ⟨tM, hc_MAX_NUMBER⟩ := T.m_MAX_NUMBER
    obtain ⟨ha, ho, h3, hpr, hpr1, hm⟩ := PT_ok ps hps
    refine ⟨_, PSs.nox (pss_cons (ps_if (PW.pt (pw_or (pt_not (pt_val (pe_callB call_isi (by rfl) T.m_isinstance (by decide +kernel) (pa_cons (pv 0) (pa_cons (pe_bltn (v := .ty "tuple") (u := .type "tuple") (by rfl) T.m_tuple (by decide +kernel) rfl) pa_nil))))) (pw_or1 (pt_cmp (pc_eqI (pe_op op_mod (pe_callB call_len_seq (by rfl) T.m_len (by decide +kernel) (pa_cons (pv 0) pa_nil)) pe_int) pe_int))))) (pss_one (ps_ret pe_bl)) pss_nil)
      (pss_cons (ps_par (i := 1) (j := 2) (by rfl) sc_P_is_odd_primes.nd rfl rfl (by decide) rfl rfl (pa_cons (pe_glob (v := .int 1000000000) rfl hc_MAX_NUMBER ⟨_, rfl⟩) (pa_cons pe_int pa_nil)) (by rfl))
      (pss_cons (ps_for PassesOwn.never rfl (pi_tup (pv 0)) (pg_name (i := 3) sc_P_is_odd_primes.nd rfl (Or.inl rfl)) (pss_cons (ps_if (PW.pt (pw_or (pt_not (pt_val (pe_cal C_P_is_integer (hr.mono (by decide)) (pa_cons (pv 3) pa_nil)))) (pw_or (pt_not (pt_chain op_le op_le (pv 2) (pv 3) (pv 1))) (pw_or1 (pt_not (pt_val (pe_cal C_P_is_prime (hr.mono (by decide)) (pa_cons (pv 3) pa_nil)))))))) (pss_one (ps_ret pe_bl)) pss_nil)
      (pss_one (ps_par (i := 1) (j := 2) (by rfl) sc_P_is_odd_primes.nd rfl rfl (by decide) rfl rfl (pa_cons (pe_op op_fdivW (pv 1) (pv 3)) (pa_cons (pe_op op_add (pv 3) pe_int) pa_nil)) (by rfl)))))
      (pss_one (ps_ret pe_bl))))), ?_⟩
    refine ⟨_, rfl, _, .ty "tuple", _, _, true, rfl, .ty "tuple", .base (.tup ht), (by show kitB "tuple" "tuple" = some true; decide +kernel), _, rfl, iteF ?_⟩
    have el : ((iL ps).map V.int).length = ps.length := by rw [List.length_map, List.length_map]
    refine ⟨_, rfl, t, _, rfl, .inr (SqT.of ht), _, _, rfl, rfl, (by show (0 : Int) < 2; decide), _, _, rfl, rfl, _, rfl, ifd (fun h => ?_) (fun _ => ?_)⟩
    · exfalso
      rw [el] at h
      omega
    refine ⟨_, _, rfl, _, rfl, t, rfl, ⟨_, SqT.of ht⟩, for_tup (K := K) (a := t) (xs := (iL ps).map V.int) (fun i σ H' => ∃ (b l : Nat) (v3 : Option V), σ = [some (.ref t), some (.int b), some (.int l), v3] ∧ H = H' ∧ b ≤ 1000000000 ∧ ascB b l (ps.drop i) = true) ⟨1000000000, 2, none, rfl, rfl, Nat.le_refl _, ha⟩ (fun i σ H' _ ⟨_, _, _, _, e, _⟩ => by rw [← e]; exact SqT.of ht) ?_ ?_⟩
    · rintro i x σ _ hx ⟨b, l, v3, rfl, rfl, hb, hasc⟩
      obtain ⟨p, hp, rfl⟩ : ∃ p : Nat, ps[i]? = some p ∧ x = V.int p := by
        rw [List.getElem?_map, List.getElem?_map] at hx
        obtain ⟨z, h1, h2⟩ := Option.map_eq_some_iff.mp hx
        obtain ⟨y, h3, h4⟩ := Option.map_eq_some_iff.mp h1
        exact ⟨y, h3, by rw [← h2, ← h4]⟩
      have hmem := hm p (List.mem_of_getElem? hp)
      have hbd := L12_bd p hmem
      have hi := (List.getElem?_eq_some_iff.mp hp)
      obtain ⟨hi1, hi2⟩ := hi
      rw [List.drop_eq_getElem_cons hi1, hi2] at hasc
      unfold ascB at hasc
      rw [Bool.and_eq_true, Bool.and_eq_true, decide_eq_true_iff, decide_eq_true_iff] at hasc
      obtain ⟨h1, h2, h4⟩ := hasc
      refine ⟨_, rfl, .int p, true, rfl, .int _, _, rfl, iteF ?_⟩
      refine ⟨_, rfl, _, rfl, _, _, rfl, rfl, _, rfl, ifd (fun _ => ?_) (fun h => absurd (by omega) h)⟩
      refine ⟨_, rfl, _, _, rfl, rfl, true, congrArg V.bl (decide_eq_true (by omega)), iteF ?_⟩
      refine ⟨_, rfl, .int p, true, rfl, .int _, fun _ => ⟨_, rfl⟩, fun r hr => ⟨_, rfl, ?_⟩⟩
      have rt : r = true := hr.mpr ⟨p, rfl, prp12 hmem, by omega⟩
      subst rt
      refine iteF ?_
      have hbp : ((b / p : Nat) : Int) = (b : Int) / (p : Int) := Int.natCast_ediv _ _
      refine ⟨_, rfl, _, rfl, _, _, rfl, rfl, CDivW.of (by omega) (lt3000s (by omega) (by omega)), _, rfl, _, _, rfl, rfl, _, _, rfl, ?_⟩
      refine ⟨b / p, p + 1, some (.int p), ?_, rfl, Nat.le_trans (Nat.div_le_self _ _) hb, h4⟩
      rw [hbp]
      rfl
    · rintro σ _ ⟨b, l, v3, rfl, rfl, _⟩
      exact q
def spTot : Sp := fun vs H Q _ => ∃ (t : Addr) (ps : List Nat), vs = [.ref t] ∧ H t = some (.tup ((iL ps).map V.int)) ∧ ps ∈ PT ∧ Q (.int (totN ps : Nat)) H
theorem totN_take : ∀ ps ∈ PT, ∀ i, i < ps.length → (totN (ps.take (i + 1)) : Int) = totN (ps.take i) * ((ps.getD i 0 : Int) - 1) ∧ totN (ps.take i) ≤ 1000 := by
  have h : ∀ ps ∈ PT, ∀ i : Fin 3, i.1 < ps.length → (totN (ps.take (i.1 + 1)) : Int) = totN (ps.take i.1) * ((ps.getD i.1 0 : Int) - 1) ∧ totN (ps.take i.1) ≤ 1000 := by decide +kernel
  intro ps hps i hi
  have h3 := (PT_ok ps hps).2.2.1
  exact h ps hps ⟨i, by omega⟩ hi
theorem ok_totient (F : FnD K "totient" "totient" s_P_totient f fd) : FnOk P w K mg base CX0 1 f fd ["primes"] spTot := by
  refine F.ok sc_P_totient (fun vs H Q E h => ?_) (fun cdv A outer s H vs Q E hr h => ?_)
  · obtain ⟨t, ps, rfl, _⟩ := h; rfl
  · obtain ⟨t, ps, rfl, ht, hps, q⟩ := h
    refine ⟨_, PSs.nox (pss_cons (ps_set (i := 1) sc_P_totient.nd rfl (Or.inl rfl) pe_int)
      (pss_cons (ps_for PassesOwn.never rfl (pi_tup (pv 0)) (pg_name (i := 2) sc_P_totient.nd rfl (Or.inl rfl)) (pss_one (ps_set (i := 1) sc_P_totient.nd rfl (Or.inl rfl) (pe_op op_mulW (pv 1) (pe_op op_sub (pv 2) pe_int)))))
      (pss_one (ps_ret (pv 1))))), ?_⟩
    refine ⟨_, rfl, t, rfl, ⟨_, SqT.of ht⟩, for_tup (K := K) (a := t) (xs := (iL ps).map V.int) (fun i σ H' => ∃ v2, σ = [some (.ref t), some (.int (totN (ps.take i) : Nat)), v2] ∧ H = H') ⟨none, rfl, rfl⟩ (fun i σ H' _ ⟨_, _, e⟩ => by rw [← e]; exact SqT.of ht) ?_ ?_⟩
    · rintro i x σ _ hx ⟨v2, rfl, rfl⟩
      obtain ⟨p, hp, rfl⟩ : ∃ p : Nat, ps[i]? = some p ∧ x = V.int p := by
        rw [List.getElem?_map, List.getElem?_map] at hx
        obtain ⟨z, h1, h2⟩ := Option.map_eq_some_iff.mp hx
        obtain ⟨y, h3, h4⟩ := Option.map_eq_some_iff.mp h1
        exact ⟨y, h3, by rw [← h2, ← h4]⟩
      have hi := (List.getElem?_eq_some_iff.mp hp).1
      obtain ⟨h1, h2⟩ := totN_take ps hps i hi
      rw [List.getD_eq_getElem?_getD, hp] at h1
      have hbd := L12_bd p ((PT_ok ps hps).2.2.2.2.2 p (List.mem_of_getElem? hp))
      refine ⟨_, rfl, _, rfl, _, _, rfl, rfl, _, _, rfl, rfl, CMulW.of (lt3000s (by omega) (by omega)) (lt3000s (by omega) (by omega)), ?_⟩
      exact ⟨some (.int p), congrArg (fun z : Int => [some (V.ref t), some (V.int z), some (V.int (p : Int))]) h1.symm, rfl⟩
    · rintro σ _ ⟨v2, rfl, rfl⟩
      refine ⟨_, rfl, ?_⟩
      rw [List.length_map, List.length_map, List.take_length]
      exact q
end
end Sf

namespace Sf
open PySem PySem.Spec PyProof.Rows L2
/-! square parts of a number -/
def sqT (n s : Nat) : Bool := Nat.beq (n % (s * s)) 0 && (Nat.beq (n / (s * s) % 4) 0 || Nat.beq (n / (s * s) % 4) 3)
def sqP (n k : Nat) : List Nat := Nat.rec [] (fun j ih => ih ++ cond (sqT n (j + 1)) [j + 1] []) k
def sqParts (n : Nat) : List Nat := sqP n (PySem.Float64.isqrt n)
theorem sqP_succ (n k : Nat) : sqP n (k + 1) = sqP n k ++ cond (sqT n (k + 1)) [k + 1] [] := rfl
theorem sqP_len (n : Nat) : ∀ k, (sqP n k).length ≤ k
  | 0 => Nat.le_refl _
  | k + 1 => by
    rw [sqP_succ, List.length_append]
    have := sqP_len n k
    cases sqT n (k + 1) with
    | true => rw [cond_true, List.length_singleton]; omega
    | false => rw [cond_false, List.length_nil]; omega
theorem sqT_iff {n s : Nat} : sqT n s = true ↔ n % (s * s) = 0 ∧ (n / (s * s) % 4 = 0 ∨ n / (s * s) % 4 = 3) := by
  unfold sqT
  rw [Bool.and_eq_true, Bool.or_eq_true, Nat.beq_eq, Nat.beq_eq, Nat.beq_eq]
theorem sqP_mem {n s : Nat} : ∀ k, s ∈ sqP n k → 1 ≤ s ∧ s ≤ k ∧ sqT n s = true
  | 0, h => by cases h
  | k + 1, h => by
    rw [sqP_succ, List.mem_append] at h
    rcases h with h | h
    · have := sqP_mem k h
      exact ⟨this.1, by omega, this.2.2⟩
    · cases e : sqT n (k + 1) with
      | false => rw [e] at h; cases h
      | true =>
        rw [e, cond_true] at h
        rw [List.mem_singleton.mp h]
        exact ⟨by omega, Nat.le_refl _, e⟩
theorem isqrt_specC : ∀ n : Fin 2001, PySem.Float64.isqrt n.1 * PySem.Float64.isqrt n.1 ≤ n.1 ∧ n.1 < (PySem.Float64.isqrt n.1 + 1) * (PySem.Float64.isqrt n.1 + 1) := by decide +kernel
theorem isqrt_small {n : Nat} (h : n ≤ 2000) : PySem.Float64.isqrt n ≤ 44 := by
  have h1 : PySem.Float64.isqrt n * PySem.Float64.isqrt n ≤ n := (isqrt_specC ⟨n, by omega⟩).1
  rcases Nat.lt_or_ge 44 (PySem.Float64.isqrt n) with z | z
  · have := Nat.mul_le_mul (z : 45 ≤ _) (z : 45 ≤ _)
    omega
  · exact z
section
variable {P : Program} {w : World} {K : PySem.W.Frag} {mg : Str → Option Value} {base : Heap} {f : Addr} {fd : FuncData}
def spSqP : Sp := fun vs H Q _ => ∃ n : Nat, vs = [.int n] ∧ n ≤ 2000 ∧ ∀ (D : Addr) (H' : Hp), Same H H' → H' D = some (.lst ((iL (sqParts n)).map V.int)) → Q (.ref D) H'
theorem ok_square_parts (F : FnD K "square_parts" "square_parts" s_P_square_parts f fd) (T : Glob mg) : FnOk P w K mg base CX0 1 f fd ["number"] spSqP := by
  refine F.ok sc_P_square_parts (fun vs H Q E h => ?_) (fun cdv A outer s H vs Q E hr h => ?_)
  · obtain ⟨n, rfl, _⟩ := h; rfl
  · obtain ⟨n, rfl, n2, q⟩ := h
    refine ⟨_, PSs.nox (pss_one (ps_ret (pe_lc rfl sc_P_square_parts.nd (own := [("part", 1)]) (pi_range2 (by rfl) T.m_range (pa_cons pe_int (pa_cons (pe_op op_add (pe_callGB cr_isqrt (by rfl) T.m_isqrt (pa_cons (pv 0) pa_nil)) pe_int) pa_nil))) (blkOk_by (N := ["number", "part"]) (sc := defScope s_P_square_parts) (by decide +kernel)) (fun _ _ _ _ _ => pg_name (i := 1) sc_P_square_parts.nd rfl (Or.inl rfl)) (fun _ _ _ _ _ => pts_one (PW.pt (pw_and (pt_cmp (pc_eqI (pe_op op_mod (pv 0) (pe_op op_mulW (pv 1) (pv 1))) pe_int)) (pw_and1 (pt_cmpR (r := rIn K false) op_in_seq (pe_op op_mod (pe_op op_fdivW (pv 0) (pe_op op_mulW (pv 1) (pv 1))) pe_int) (pe_tup (pa_cons pe_int (pa_cons pe_int pa_nil))) (by rfl)))))) (fun _ _ _ _ _ => (pv 1))))), ?_⟩
    have hR := isqrt_small n2
    have eq0 : sqParts n = sqP n (PySem.Float64.isqrt n) := rfl
    generalize eR : PySem.Float64.isqrt n = R at hR eq0
    refine ⟨_, rfl, n, rfl, by omega, ?_⟩
    rw [eR]
    refine ⟨_, _, rfl, rfl, 1, (R : Int) + 1, rfl, ⟨by decide, by decide, by omega, by omega⟩, fun D hD => ?_⟩
    rw [show ((R : Int) + 1 - 1).toNat = R by omega]
    refine lc_range (lo := 1) (n := R) (fun i H' => Same H H' ∧ H' D = some (.lst ((iL (sqP n i)).map V.int))) ⟨same_upd hD, upd_same⟩ (fun i H' hi hP => ?_) (fun H' hP => ?_)
    · obtain ⟨e1, hd⟩ := hP
      have hsucc := sqP_succ n i
      have es : ((1 + (i : Int)) * (1 + (i : Int))) = (((i + 1) * (i + 1) : Nat) : Int) := by
        rw [Int.natCast_mul, show (((i + 1 : Nat)) : Int) = 1 + i by omega]
      have hS : 0 < (i + 1) * (i + 1) := Nat.mul_pos (Nat.succ_pos i) (Nat.succ_pos i)
      have hS2 : (i + 1) * (i + 1) ≤ 45 * 45 := Nat.mul_le_mul (by omega) (by omega)
      have hiff := sqT_iff (n := n) (s := i + 1)
      have hlen := sqP_len n i
      have w1 : (1 + (i : Int)).natAbs < 2 ^ 3000 := lt3000s (by omega) (by omega)
      generalize (i + 1) * (i + 1) = S at es hS hS2 hiff
      have no : ¬ (n % S = 0 ∧ (n / S % 4 = 0 ∨ n / S % 4 = 3)) → sqT n (i + 1) = false := fun h => by
        cases z : sqT n (i + 1) with
        | false => rfl
        | true => exact absurd (hiff.mp z) h
      refine ⟨rfl, ?_⟩
      refine ⟨_, rfl, _, rfl, _, rfl, _, _, rfl, rfl, CMulW.of w1 w1, (n : Int), (S : Int), rfl, congrArg V.int es, by omega, _, _, rfl, rfl, _, rfl, ifd (fun h1 => ?_) (fun h1 => ?_)⟩
      · refine ⟨_, rfl, _, rfl, _, rfl, _, _, rfl, rfl, CMulW.of w1 w1, (n : Int), (S : Int), rfl, congrArg V.int es, CDivW.of (by omega) (lt3000s (by omega) (by omega)), _, _, rfl, rfl, (by show (0 : Int) < 4; decide), (by show 2 ≤ sizeLine; decide), fun a hA => ?_⟩
        refine ⟨a, _, rfl, .inr (.inl (.inl upd_same)), rfl, rfl, _, rfl, ?_⟩
        rw [inV_two]
        have e2 := same_upd (o := .tup [.int 0, .int 3]) hA
        have hd2 := e2 _ _ hd
        have e12 := e1.trans e2
        have eD : ((n / S : Nat) : Int) = (n : Int) / S := Int.natCast_ediv n S
        refine ifd (fun h3 => ?_) (fun h3 => ?_)
        · have hy : sqT n (i + 1) = true := hiff.mpr ⟨by omega, by omega⟩
          refine ⟨_, rfl, _, hd2, ?_, ?_, ?_⟩
          · rw [List.length_map, List.length_map]
            exact Nat.lt_of_lt_of_le (by omega : (sqP n i).length < 1000000) (by decide)
          · intro b o z
            rw [upd_ne (ne_of_none z hD)]
            exact e12 _ _ z
          · rw [upd_same, hsucc, hy, cond_true]
            unfold iL
            rw [List.map_append, List.map_append]
            show _ = some (HO.lst (_ ++ [V.int ((i + 1 : Nat) : Int)]))
            rw [show ((i + 1 : Nat) : Int) = 1 + (i : Int) by omega]
        · rw [no (by omega), cond_false, List.append_nil] at hsucc
          exact ⟨e12, by rw [hsucc]; exact hd2⟩
      · rw [no (by omega), cond_false, List.append_nil] at hsucc
        exact ⟨e1, by rw [hsucc]; exact hd⟩
    · obtain ⟨e1, hd⟩ := hP
      exact q D H' e1 (by rw [eq0]; exact hd)
end
end Sf

namespace Sf
open PySem PySem.Spec PyProof.Rows L2
theorem atI_last {xs : List V} {v : V} (h : xs.getLast? = some v) : atI xs (-1) = some v := by
  have hl : xs.length ≠ 0 := fun z => by rw [List.length_eq_zero_iff.mp z] at h; cases h
  unfold atI ixN
  rw [List.getLast?_eq_getElem?] at h
  simp
  rw [if_pos (by omega)]
  show xs[((-1 : Int) + (xs.length : Int)).toNat]? = some v
  rw [show ((-1 : Int) + (xs.length : Int)).toNat = xs.length - 1 by omega]
  exact h
theorem last_iL {l : List Nat} (h : l ≠ []) : ((iL l).map V.int).getLast? = some (V.int ((l.getLastD 0 : Nat) : Int)) := by
  rw [List.getLast?_map, List.getLast?_map]
  cases e : l.getLast? with
  | none => exact absurd (List.getLast?_eq_none_iff.mp e) h
  | some x =>
    rw [List.getLastD_eq_getLast?, e]
    rfl
def lastS (n : Nat) : Nat := (sqParts n).getLastD 0
def mkN (n p : Nat) : Int := if lastS n % p = 0 then 1 else restSign (-(n : Int)) p
theorem sqParts_ne {n : Nat} (h1 : 1 ≤ n) (h2 : n ≤ 2000) (h4 : n % 4 = 0 ∨ n % 4 = 3) : sqParts n ≠ [] := by
  have hR : 1 ≤ PySem.Float64.isqrt n := by
    have hs : n < (PySem.Float64.isqrt n + 1) * (PySem.Float64.isqrt n + 1) := (isqrt_specC ⟨n, by omega⟩).2
    rcases Nat.lt_or_ge (PySem.Float64.isqrt n) 1 with z | z
    · have : PySem.Float64.isqrt n = 0 := by omega
      rw [this] at hs
      omega
    · exact z
  have : ∀ k, 1 ≤ k → sqP n k ≠ [] := fun k hk => by
    induction k with
    | zero => omega
    | succ k ih =>
      rw [sqP_succ]
      by_cases c : 1 ≤ k
      · exact fun h => ih c (List.append_eq_nil_iff.mp h).1
      · have : k = 0 := by omega
        subst this
        rw [sqT_iff.mpr ⟨by omega, by simpa using h4⟩]
        exact fun h => by simp at h
  exact this _ hR
section
variable {P : Program} {w : World} {K : PySem.W.Frag} {mg : Str → Option Value} {base : Heap} {f : Addr} {fd : FuncData}
def spMark : Sp := fun vs H Q _ => ∃ p n : Nat, vs = [.int p, .int n] ∧ p ∈ L12 ∧ 1 ≤ n ∧ n ≤ 2000 ∧ (n % 4 = 0 ∨ n % 4 = 3) ∧ ∀ H', Same H H' → Q (.int (mkN n p)) H'
theorem ok_mark (F : FnD K "mark" "mark" s_P_mark f fd) (C_P_square_parts : Cal P w K mg base 1 "square_parts" ["number"] spSqP) (C_P_rest_sign : Cal P w K mg base 2 "rest_sign" ["number", "prime"] spRestSign) : FnOk P w K mg base CX0 3 f fd ["prime", "number"] spMark := by
  refine F.ok sc_P_mark (fun vs H Q E h => ?_) (fun cdv A outer s H vs Q E hr h => ?_)
  · obtain ⟨p, n, rfl, _⟩ := h; rfl
  · obtain ⟨p, n, rfl, hp, n1, n2, n4, q⟩ := h
    have hbd := L12_bd p hp
    have hne := sqParts_ne n1 n2 n4
    have wp : (p : Int).natAbs < 2 ^ 1000 := Nat.lt_of_le_of_lt (by omega : (p : Int).natAbs ≤ 113) (by decide)
    unfold mkN lastS at q
    refine ⟨_, PSs.nox (pss_one (ps_ret (pe_ifExp (pt_cmp (pc_eqI (pe_op op_mod (pe_ix ix_list (pe_cal C_P_square_parts (hr.mono (by decide)) (pa_cons (pv 1) pa_nil)) (pe_un un_neg pe_int) (fun _ _ => rfl)) (pv 0)) pe_int)) pe_int (pe_cal C_P_rest_sign (hr.mono (by decide)) (pa_cons (pe_un un_neg (pv 1)) (pa_cons (pv 0) pa_nil)))))), ?_⟩
    refine ⟨_, rfl, n, rfl, n2, fun D H1 e1 hD => ?_⟩
    refine ⟨1, rfl, D, _, -1, _, rfl, rfl, SqL.of hD, atI_last (last_iL hne), ?_⟩
    have em : (((sqParts n).getLastD 0 % p : Nat) : Int) = ((sqParts n).getLastD 0 : Nat) % (p : Int) := Int.natCast_emod _ _
    refine ⟨_, rfl, _, _, rfl, rfl, by omega, _, _, rfl, rfl, _, rfl, ifd (fun h => ?_) (fun h => ?_)⟩
    · rw [if_pos (by omega)] at q
      exact q _ e1
    · rw [if_neg (by omega)] at q
      exact ⟨_, rfl, _, rfl, _, rfl, -(n : Int), p, rfl, by omega, wp, fun H2 e2 => q _ (e1.trans e2)⟩
/-- the law's residue sign of -n -/
def lawMk (n p : Nat) : Int := if lastS n % p = 0 then 1 else restSign (-(n : Int)) p
def qrB (n p : Int) (k : Nat) : Nat := Nat.rec 0 (fun j ih => ih + cond (decide (((j : Int) * j - n) % p = 0)) 1 0) k
theorem qrB_succ (n p : Int) (k : Nat) : qrB n p (k + 1) = qrB n p k + cond (decide (((k : Int) * k - n) % p = 0)) 1 0 := rfl
def spLeft : Sp := fun vs H Q _ => ∃ (n : Int) (p : Nat), vs = [.int n, .int p] ∧ p ∈ L12 ∧ ∀ (r : Int) (H' : Hp), Same H H' → r = (if n % p = 0 then 0 else if (p : Int) = 2 then (if n % 8 = 1 ∨ n % 8 = 7 then 1 else -1) else if qrB n p p ≠ 0 then 1 else -1) → Q (.int r) H'
theorem ok_left (F : FnD K "_law_left" "_law_left" s_L_left f fd) (T : Glob mg) : FnOk P w K mg base CX0 1 f fd ["_law_number", "_law_prime"] spLeft := by
  refine F.ok sc_L_left (fun vs H Q E h => ?_) (fun cdv A outer s H vs Q E hr h => ?_)
  · obtain ⟨n, p, rfl, _⟩ := h; rfl
  · obtain ⟨n, p, rfl, hp, q⟩ := h
    have hbd := L12_bd p hp
    refine ⟨_, PSs.nox (pss_cons (ps_if (pt_cmp (pc_eqI (pe_op op_mod (pv 0) (pv 1)) pe_int)) (pss_one (ps_ret pe_int)) pss_nil)
      (pss_cons (ps_if (pt_cmp (pc_eqI (pv 1) pe_int)) (pss_one (ps_ret (pe_ifExp (pt_cmpR op_in_seq (pe_op op_mod (pv 0) pe_int) (pe_tup (pa_cons pe_int (pa_cons pe_int pa_nil))) (by rfl)) pe_int (pe_un un_neg pe_int)))) pss_nil)
      (pss_one (ps_ret (pe_ifExp (pt_cmpR (op_neD hr.units) (pe_lc rfl sc_L_left.nd (own := [("_law_one", 2)]) (pi_range1 (by rfl) T.m_range (pa_cons (pv 1) pa_nil)) (blkOk_by (N := ["_law_number", "_law_prime", "_law_one"]) (sc := defScope s_L_left) (by decide +kernel)) (fun _ _ _ _ _ => pg_name (i := 2) sc_L_left.nd rfl (Or.inl rfl)) (fun _ _ _ _ _ => pts_one (pt_cmp (pc_eqI (pe_op op_mod (pe_op op_sub (pe_op op_mulW (pv 2) (pv 2)) (pv 0)) (pv 1)) pe_int))) (fun _ _ _ _ _ => (pv 2))) (pe_lst pa_nil) (nomark _)) pe_int (pe_un un_neg pe_int)))))), ?_⟩
    refine ⟨_, rfl, _, rfl, _, _, rfl, rfl, by omega, _, _, rfl, rfl, _, rfl, ifd (fun h => ?_) (fun h => ?_)⟩
    · exact q _ _ (Same.refl H) (by rw [if_pos h])
    refine ⟨_, rfl, _, _, rfl, rfl, _, rfl, ifd (fun h2 => ?_) (fun h2 => ?_)⟩
    · refine ⟨_, rfl, _, _, rfl, rfl, (by show (0 : Int) < 8; decide), (by show 2 ≤ sizeLine; decide), fun a ha => ?_⟩
      refine ⟨a, _, rfl, .inr (.inl (.inl upd_same)), rfl, rfl, _, rfl, ?_⟩
      rw [inV_two]
      refine ifd (fun e => ?_) (fun e => ?_)
      · exact q _ _ (same_upd ha) (by rw [if_neg h, if_pos h2, if_pos e])
      · exact ⟨1, rfl, q _ _ (same_upd ha) (by rw [if_neg h, if_pos h2, if_neg e])⟩
    · refine ⟨_, rfl, p, rfl, by omega, by omega, fun D hD => ?_⟩
      rw [Int.toNat_natCast]
      refine lc_range (lo := 0) (n := p) (fun i H' => Same H H' ∧ ∃ ys : List Int, H' D = some (.lst (ys.map V.int)) ∧ ys.length = qrB n p i) ⟨same_upd hD, [], upd_same, rfl⟩ (fun i H' hi hP => ?_) (fun H' hP => ?_)
      · obtain ⟨e1, ys, hd, hl⟩ := hP
        have hs := qrB_succ n p i
        have hle : qrB n p i ≤ i := by
          have : ∀ k, qrB n p k ≤ k := fun k => by
            induction k with
            | zero => exact Nat.le_refl _
            | succ k ih =>
              rw [qrB_succ]
              cases decide (((k : Int) * k - n) % p = 0) <;> simp <;> omega
          exact this i
        have wi : ((0 : Int) + (i : Nat)).natAbs < 2 ^ 3000 := lt3000s (by omega) (by omega)
        have ei : ((0 : Int) + (i : Nat)) = i := Int.zero_add _
        refine ⟨rfl, ?_⟩
        refine ⟨_, rfl, _, rfl, _, _, rfl, rfl, CMulW.of wi wi, _, rfl, _, _, rfl, rfl, _, rfl, _, _, rfl, rfl, by omega, _, _, rfl, rfl, _, rfl, ifd (fun h5 => ?_) (fun h5 => ?_)⟩
        · rw [ei] at h5
          rw [decide_eq_true h5, cond_true] at hs
          refine ⟨_, rfl, _, hd, ?_, ?_, ys ++ [0 + (i : Int)], ?_, ?_⟩
          · rw [List.length_map]
            exact Nat.lt_of_lt_of_le (by omega : ys.length < 1000000) (by decide)
          · intro b o z
            rw [upd_ne (ne_of_none z hD)]
            exact e1 _ _ z
          · rw [upd_same, List.map_append]
            rfl
          · rw [List.length_append, hl, hs]
            rfl
        · rw [ei] at h5
          rw [decide_eq_false h5, cond_false, Nat.add_zero] at hs
          exact ⟨e1, ys, hd, by rw [hs]; exact hl⟩
      · obtain ⟨e1, ys, hd, hl⟩ := hP
        refine ⟨(by show 0 ≤ sizeLine; decide), fun N hN => ⟨_, _, dp_list (ns := ys) (SqL.of (same_upd hN _ _ hd)), dp_list (ns := []) (SqL.of upd_same), shp_list _, shp_list _, ?_⟩⟩
        rw [show PyData.eqv (.list (ys.map PyData.int)) (.list (([] : List Int).map PyData.int)) = decide (qrB n p p = 0) by rw [show (.list (([] : List Int).map PyData.int) : PyData) = .list [] from rfl, eqv_nilL, List.length_map, hl]]
        have e2 := e1.trans (same_upd (o := .lst []) hN)
        by_cases c : qrB n p p = 0
        · rw [decide_eq_true c]
          exact ⟨_, rfl, iteF ⟨1, rfl, q _ _ e2 (by rw [if_neg h, if_neg h2, if_neg (fun z => z c)])⟩⟩
        · rw [decide_eq_false c]
          exact ⟨_, rfl, iteT (q _ _ e2 (by rw [if_neg h, if_neg h2, if_pos c]))⟩
end
end Sf

namespace Sf
open PySem PySem.Spec PyProof.Rows L2
theorem root_uni {n a b : Nat} (h1 : a * a ≤ n) (h2 : n < (a + 1) * (a + 1)) (h3 : b * b ≤ n) (h4 : n < (b + 1) * (b + 1)) : a = b := by
  rcases Nat.lt_trichotomy a b with c | c | c
  · have : (a + 1) * (a + 1) ≤ b * b := Nat.mul_le_mul c c
    omega
  · exact c
  · have : (b + 1) * (b + 1) ≤ a * a := Nat.mul_le_mul c c
    omega
theorem root_is {n a : Nat} (hn : n ≤ 2000) (h1 : a * a ≤ n) (h2 : n < (a + 1) * (a + 1)) : a = PySem.Float64.isqrt n :=
  have s := isqrt_specC ⟨n, by omega⟩
  root_uni h1 h2 s.1 s.2
/-- the law's list of shares and what is left -/
def pairL (n s : Nat) : List Int := [(s : Int), ((n / (s * s) : Nat) : Int)]
def lowP (n k : Nat) : List (List Int) := (sqP n k).map (pairL n)
def lowL (n : Nat) : List (List Int) := (sqParts n).map (pairL n)
theorem lowP_succ (n k : Nat) : lowP n (k + 1) = lowP n k ++ cond (sqT n (k + 1)) [pairL n (k + 1)] [] := by
  unfold lowP
  rw [sqP_succ, List.map_append]
  cases sqT n (k + 1) <;> rfl
/-- Euler's criterion for the twelve primes -/
theorem euler12 : ∀ p ∈ L12, p = 2 ∨ ∀ r : Fin p, r.1 = 0 ∨ (decide (qrB (r.1 : Int) p p ≠ 0) = decide ((r.1 : Int) ^ (((p : Int) - 1) / 2).toNat % p = 1)) := by decide +kernel
theorem qrB_mod (n : Int) (p : Nat) (hp : 0 < p) : ∀ k, qrB n p k = qrB (n % p) p k
  | 0 => rfl
  | k + 1 => by
    rw [qrB_succ, qrB_succ, qrB_mod n p hp k]
    have e : ((k : Int) * k - n) % p = 0 ↔ ((k : Int) * k - n % p) % p = 0 := by
      rw [show ((k : Int) * k - n % p) % p = ((k : Int) * k - n) % p by rw [Int.sub_emod, Int.emod_emod_of_dvd _ (Int.dvd_refl _), ← Int.sub_emod]]
    rw [decide_eq_decide.mpr e]
theorem pow_modP (a m : Int) (k : Nat) : (a % m) ^ k % m = a ^ k % m := by
  induction k with
  | zero => rw [Int.pow_zero, Int.pow_zero]
  | succ k ih => rw [Int.pow_succ, Int.pow_succ, Int.mul_emod, ih, Int.emod_emod_of_dvd _ (Int.dvd_refl _), ← Int.mul_emod]
theorem left_is {n : Int} {p : Nat} (hp : p ∈ L12) : (if n % p = 0 then (0 : Int) else if (p : Int) = 2 then (if n % 8 = 1 ∨ n % 8 = 7 then 1 else -1) else if qrB n p p ≠ 0 then 1 else -1) = restSign n p := by
  have hbd := L12_bd p hp
  unfold restSign
  by_cases h0 : n % p = 0
  · rw [if_pos h0, if_pos h0]
  rw [if_neg h0, if_neg h0]
  by_cases h2 : (p : Int) = 2
  · rw [if_pos h2, if_pos h2]
  rw [if_neg h2, if_neg h2]
  rcases euler12 p hp with e | e
  · omega
  have hm := Int.emod_nonneg n (by omega : (p : Int) ≠ 0)
  have hl := Int.emod_lt_of_pos n (by omega : (0 : Int) < p)
  rcases e ⟨(n % p).toNat, by omega⟩ with z | z
  · have z2 : (n % p).toNat = 0 := z
    omega
  · have er : (((n % p).toNat : Nat) : Int) = n % p := by omega
    have z2 : decide (qrB (((n % p).toNat : Nat) : Int) p p ≠ 0) = decide ((((n % p).toNat : Nat) : Int) ^ (((p : Int) - 1) / 2).toNat % p = 1) := z
    rw [er, ← qrB_mod n p (by omega), pow_modP] at z2
    have z3 := decide_eq_decide.mp z2
    by_cases c : qrB n p p ≠ 0
    · rw [if_pos c, if_pos (z3.mp c)]
    · rw [if_neg c, if_neg (fun y => c (z3.mpr y))]
section
variable {P : Program} {w : World} {K : PySem.W.Frag} {mg : Str → Option Value} {base : Heap} {f : Addr} {fd : FuncData}
structure LowP (vs : List V) (H : Hp) (Q : VK) : Prop where
  ex : ∃ n : Nat, vs = [.int n] ∧ 1 ≤ n ∧ n ≤ 2000 ∧ ∀ (D : Addr) (ks : List (Addr × List Int)) (H' : Hp), Same H H' → H' D = some (.lst (ks.map fun p => V.ref p.1)) → Held H' ks → ks.map (·.2) = lowL n → Q (.ref D) H'
def spLow : Sp := fun vs H Q _ => LowP vs H Q
theorem ok_lowered (F : FnD K "_law_lowered" "_law_lowered" s_L_lowered f fd) (T : Glob mg) : FnOk P w K mg base CX0 1 f fd ["_law_number"] spLow := by
  refine F.ok sc_L_lowered (fun vs H Q E h => ?_) (fun cdv A outer s H vs Q E hr h => ?_)
  · obtain ⟨n, rfl, _⟩ := h.ex; rfl
  · obtain ⟨n, rfl, n1, n2, q⟩ := h.ex
    refine ⟨_, PSs.nox (pss_cons (ps_set (i := 1) sc_L_lowered.nd rfl (Or.inl rfl) (pe_lst pa_nil))
      (pss_cons (ps_for PassesOwn.never rfl (pi_range2 (by rfl) T.m_range (pa_cons pe_int (pa_cons (pe_op op_add (pv 0) pe_int) pa_nil))) (pg_name (i := 2) sc_L_lowered.nd rfl (Or.inl rfl)) (pss_cons (ps_if (pt_cmp (pc_gt (pe_op op_mulW (pv 2) (pv 2)) (pv 0))) (pss_one ps_break) pss_nil)
      (pss_one (ps_if (PW.pt (pw_and (pt_cmp (pc_eqI (pe_op op_mod (pv 0) (pe_op op_mulW (pv 2) (pv 2))) pe_int)) (pw_and1 (pt_cmpR op_in_seq (pe_op op_mod (pe_op op_fdivW (pv 0) (pe_op op_mulW (pv 2) (pv 2))) pe_int) (pe_tup (pa_cons pe_int (pa_cons pe_int pa_nil))) (by rfl))))) (pss_one (ps_expr (pe_bm PySem.F.plainAttrs_list PySem.F.slot_list_append PySem.F.type_list_append mt_append (pv 1) (pa_cons (pe_tup (pa_cons (pv 2) (pa_cons (pe_op op_fdivW (pv 0) (pe_op op_mulW (pv 2) (pv 2))) pa_nil))) pa_nil)))) pss_nil))))
      (pss_one (ps_ret (pv 1))))), ?_⟩
    refine ⟨(by show 0 ≤ sizeLine; decide), fun D hD => ?_⟩
    have fin : ∀ i H', i * i ≤ n → n < (i + 1) * (i + 1) → Found H H' D (lowP n i) → Q (.ref D) H' := fun i H' h1 h2 hF => by
      obtain ⟨e, ks, hd, hh, hl⟩ := hF
      refine q D ks H' e hd hh ?_
      rw [hl, root_is n2 h1 h2]
      rfl
    clear q
    refine ⟨_, rfl, _, _, rfl, rfl, 1, (n : Int) + 1, rfl, ⟨by decide, by decide, by omega, by omega⟩, ?_⟩
    rw [show ((n : Int) + 1 - 1).toNat = n by omega]
    refine for_range (lo := 1) (n := n) (fun i σ H' => ∃ v2, σ = [some (.int n), some (.ref D), v2] ∧ Found H H' D (lowP n i) ∧ i * i ≤ n) ⟨none, rfl, ⟨same_upd hD, [], upd_same, (fun _ h => by cases h), rfl⟩, Nat.zero_le _⟩ ?_ ?_
    · rintro i σ H1 hi ⟨v2, rfl, hF, hii⟩
      have es : ((1 + (i : Int)) * (1 + (i : Int))) = (((i + 1) * (i + 1) : Nat) : Int) := by
        rw [Int.natCast_mul, show (((i + 1 : Nat)) : Int) = 1 + i by omega]
      have w1 : (1 + (i : Int)).natAbs < 2 ^ 3000 := lt3000s (by omega) (by omega)
      refine ⟨_, rfl, _, rfl, _, _, rfl, rfl, CMulW.of w1 w1, _, rfl, (((i + 1) * (i + 1) : Nat) : Int), (n : Int), congrArg V.int es, rfl, _, rfl, ifd (fun h1 => ?_) (fun h1 => ?_)⟩
      · exact ⟨_, rfl, fin i H1 hii (by omega) hF⟩
      have hb : (i + 1) * (i + 1) ≤ n := by omega
      have hp : 0 < (i + 1) * (i + 1) := Nat.mul_pos (Nat.succ_pos i) (Nat.succ_pos i)
      have hsucc := lowP_succ n i
      have hiff := sqT_iff (n := n) (s := i + 1)
      have hlen := sqP_len n i
      unfold pairL at hsucc
      generalize eS : (i + 1) * (i + 1) = S at *
      have no : ¬ (n % S = 0 ∧ (n / S % 4 = 0 ∨ n / S % 4 = 3)) → sqT n (i + 1) = false := fun h => by
        cases z : sqT n (i + 1) with
        | false => rfl
        | true => exact absurd (hiff.mp z) h
      have skip : ∀ H2, Same H1 H2 → sqT n (i + 1) = false → Found H H2 D (lowP n (i + 1)) := fun H2 e2 z => by
        obtain ⟨e, ks, hd, hh, hl⟩ := hF
        rw [z, cond_false, List.append_nil] at hsucc
        exact ⟨e.trans e2, ks, e2 _ _ hd, hh.same e2, by rw [hsucc]; exact hl⟩
      refine ⟨_, rfl, _, rfl, _, rfl, _, _, rfl, rfl, CMulW.of w1 w1, (n : Int), (S : Int), rfl, congrArg V.int es, by omega, _, _, rfl, rfl, _, rfl, ifd (fun h1 => ?_) (fun h1 => ?_)⟩
      rotate_left
      · exact ⟨_, rfl, skip _ (Same.refl _) (no (by omega)), hb⟩
      refine ⟨_, rfl, _, rfl, _, rfl, _, _, rfl, rfl, CMulW.of w1 w1, (n : Int), (S : Int), rfl, congrArg V.int es, CDivW.of (by omega) (lt3000s (by omega) (by omega)), _, _, rfl, rfl, (by show (0 : Int) < 4; decide), (by show 2 ≤ sizeLine; decide), fun a hA => ?_⟩
      refine ⟨a, _, rfl, .inr (.inl (.inl upd_same)), rfl, rfl, _, rfl, ?_⟩
      rw [inV_two]
      have e2 := same_upd (o := .tup [.int 0, .int 3]) hA
      have eD : ((n / S : Nat) : Int) = (n : Int) / S := Int.natCast_ediv n S
      refine ifd (fun h3 => ?_) (fun h3 => ?_)
      rotate_left
      · exact ⟨_, rfl, skip _ e2 (no (by omega)), hb⟩
      have hy : sqT n (i + 1) = true := hiff.mpr ⟨by omega, by omega⟩
      obtain ⟨e, ks, hd, hh, hl⟩ := hF
      have hd2 := e2 _ _ hd
      refine ⟨_, rfl, .inl ⟨rfl, _, SqL.of hd2⟩, _, rfl, _, rfl, _, rfl, _, rfl, _, _, rfl, rfl, CMulW.of w1 w1, (n : Int), (S : Int), rfl, congrArg V.int es, CDivW.of (by omega) (lt3000s (by omega) (by omega)), (by show 2 ≤ sizeLine; decide), fun t ht => ?_⟩
      have e3 := same_upd (o := .tup [.int (1 + (i : Int)), .int ((n : Int) / S)]) ht
      have hd3 := e3 _ _ hd2
      refine ⟨D, _, _, rfl, rfl, hd3, ?_, ?_⟩
      · rw [List.length_map]
        have h0 := congrArg List.length hl
        unfold lowP at h0
        rw [List.length_map, List.length_map] at h0
        exact Nat.lt_of_lt_of_le (by omega : ks.length < 1000000) (by decide)
      · refine ⟨_, rfl, ⟨fun o u z => ?_, ks ++ [(t, [1 + (i : Int), (n : Int) / S])], ?_, fun pp hpp => ?_, ?_⟩, hb⟩
        · rw [upd_ne (ne_of_none z hD)]
          exact e3 _ _ (e2 _ _ (e _ _ z))
        · rw [upd_same, List.map_append]
          rfl
        · rcases List.mem_append.mp hpp with h | h
          · have hz := ((hh.same e2).same e3) pp h
            rw [upd_ne (fun z => by rw [z, hd3] at hz; cases hz)]
            exact hz
          · rw [List.mem_singleton.mp h, upd_ne (fun z => by rw [← z, upd_same] at hd3; cases hd3)]
            exact upd_same
        · rw [List.map_append, hl, hsucc, hy, cond_true]
          show _ ++ [[1 + (i : Int), (n : Int) / S]] = _
          rw [show ((i + 1 : Nat) : Int) = 1 + (i : Int) by omega, eD]
    · rintro σ H1 ⟨v2, rfl, hF, hii⟩
      exact ⟨_, rfl, fin n H1 hii (by have := Nat.mul_le_mul (Nat.le_refl (n + 1)) (by omega : 1 ≤ n + 1); omega) hF⟩
end
end Sf

namespace Sf
open PySem PySem.Spec PyProof.Rows L2
theorem last_low {n : Nat} {ks : List (Addr × List Int)} (h : ks.map (·.2) = lowL n) (hne : sqParts n ≠ []) : ∃ p, p ∈ ks ∧ (ks.map fun p => V.ref p.1).getLast? = some (V.ref p.1) ∧ p.2 = pairL n (lastS n) := by
  have h1 := congrArg List.getLast? h
  unfold lowL at h1
  rw [List.getLast?_map, List.getLast?_map] at h1
  cases e : (sqParts n).getLast? with
  | none => exact absurd (List.getLast?_eq_none_iff.mp e) hne
  | some s =>
    rw [e] at h1
    cases e2 : ks.getLast? with
    | none => rw [e2] at h1; cases h1
    | some p =>
      rw [e2] at h1
      refine ⟨p, List.mem_of_getLast? e2, by rw [List.getLast?_map, e2]; rfl, ?_⟩
      have : p.2 = pairL n s := Option.some.inj h1
      rw [this]
      unfold lastS
      rw [List.getLastD_eq_getLast?, e]
      rfl
section
variable {P : Program} {w : World} {K : PySem.W.Frag} {mg : Str → Option Value} {base : Heap} {f : Addr} {fd : FuncData}
theorem ok_law_mark (F : FnD K "_law_mark" "_law_mark" s_L_mark f fd) (C_L_lowered : Cal P w K mg base 1 "_law_lowered" ["_law_number"] spLow) (C_L_left : Cal P w K mg base 1 "_law_left" ["_law_number", "_law_prime"] spLeft) : FnOk P w K mg base CX0 2 f fd ["_law_prime", "_law_number"] spMark := by
  refine F.ok sc_L_mark (fun vs H Q E h => ?_) (fun cdv A outer s H vs Q E hr h => ?_)
  · obtain ⟨p, n, rfl, _⟩ := h; rfl
  · obtain ⟨p, n, rfl, hp, n1, n2, n4, q⟩ := h
    have hbd := L12_bd p hp
    have hne := sqParts_ne n1 n2 n4
    unfold mkN at q
    refine ⟨_, PSs.nox (pss_cons (ps_set (i := 2) sc_L_mark.nd rfl (Or.inl rfl) (pe_ix ix_tup (pe_ix ix_list (pe_cal C_L_lowered (hr.mono (by decide)) (pa_cons (pv 1) pa_nil)) (pe_un un_neg pe_int) (fun _ _ => rfl)) pe_int (fun _ _ => rfl)))
      (pss_one (ps_ret (pe_ifExp (pt_cmp (pc_eqI (pe_op op_mod (pv 2) (pv 0)) pe_int)) pe_int (pe_cal C_L_left (hr.mono (by decide)) (pa_cons (pe_un un_neg (pv 1)) (pa_cons (pv 0) pa_nil))))))), ?_⟩
    refine ⟨_, rfl, ⟨n, rfl, n1, n2, fun D ks H1 e1 hD hh hl => ?_⟩⟩
    obtain ⟨pp, hpp, hlast, hval⟩ := last_low hl hne
    have hz := hh pp hpp
    rw [hval] at hz
    refine ⟨1, rfl, D, _, -1, _, rfl, rfl, SqL.of hD, atI_last hlast, pp.1, _, 0, .int (lastS n), rfl, rfl, SqT.of hz, rfl, ?_⟩
    have em : ((lastS n % p : Nat) : Int) = (lastS n : Int) % (p : Int) := Int.natCast_emod _ _
    refine ⟨_, rfl, _, rfl, _, _, rfl, rfl, by omega, _, _, rfl, rfl, _, rfl, ifd (fun h => ?_) (fun h => ?_)⟩
    · rw [if_pos (by omega)] at q
      exact q _ e1
    · rw [if_neg (by omega)] at q
      refine ⟨_, rfl, _, rfl, _, rfl, -(n : Int), p, rfl, hp, fun r H2 e2 hr => ?_⟩
      rw [hr, left_is hp]
      exact q _ (e1.trans e2)
/-- what both sides add up: 24 times the summand -/
def prodM (left : Nat) : List Nat → Int
  | [] => 1
  | p :: ps => (1 - mkN left p) * prodM left ps
def multN (left : Nat) : Int := if left = 3 then 4 else if left = 4 then 6 else 12
end
end Sf

namespace Sf
theorem lowT24 {X t b : Int} (h : LowT X 24 t b) : 0 < b ∧ b ≤ 24 ∧ t.natAbs ≤ X.natAbs := by
  obtain ⟨h1, h2, h3⟩ := h
  have e : X.natAbs * b.natAbs = t.natAbs * 24 := by
    have := congrArg Int.natAbs h2
    rwa [Int.natAbs_mul, Int.natAbs_mul] at this
  have hd : b.natAbs ∣ t.natAbs * 24 := ⟨X.natAbs, by rw [← e, Nat.mul_comm]⟩
  have hc : Nat.Coprime b.natAbs t.natAbs := by
    unfold Nat.Coprime
    rw [Nat.gcd_comm]
    exact h3
  have hd2 := Nat.Coprime.dvd_of_dvd_mul_left hc hd
  have hle := Nat.le_of_dvd (by decide) hd2
  refine ⟨h1, by omega, ?_⟩
  have : X.natAbs * b.natAbs ≤ X.natAbs * 24 := Nat.mul_le_mul_left _ hle
  omega
theorem lowT_add {X Y u k t b t' b' t2 b2 : Int} (h1 : LowT X 24 t b) (h2 : LowT Y u t' b') (hu : u * k = 24) (h3 : LowT (t * b' + t' * b) (b * b') t2 b2) : LowT (X + Y * k) 24 t2 b2 := by
  obtain ⟨p1, e1, _⟩ := h1
  obtain ⟨p2, e2, _⟩ := h2
  obtain ⟨p3, e3, g3⟩ := h3
  refine ⟨p3, ?_, g3⟩
  have n0 : b * b' ≠ 0 := Int.mul_ne_zero (by omega) (by omega)
  have e : (X + Y * k) * b2 * (b * b') = t2 * 24 * (b * b') := by
    have a1 : (X + Y * k) * b2 * (b * b') = (X * b) * b' * b2 + (Y * b') * k * b * b2 := by grind
    rw [a1, e1, e2]
    have a2 : t * 24 * b' * b2 + t' * u * k * b * b2 = (t * b' + t' * b) * b2 * (u * k) + (24 - u * k) * (t * b' * b2) := by grind
    rw [a2, hu, e3]
    grind
  exact Int.eq_of_mul_eq_mul_right n0 e
/-- the sum over the square parts, in 24ths -/
def sumL (ps : List Nat) (n : Nat) : List Nat → Int
  | [] => 0
  | s :: l => ((formsP (n / (s * s))).length : Int) * prodM (n / (s * s)) ps * multN (n / (s * s)) + sumL ps n l
theorem sumL_snoc (ps : List Nat) (n s : Nat) : ∀ l, sumL ps n (l ++ [s]) = sumL ps n l + ((formsP (n / (s * s))).length : Int) * prodM (n / (s * s)) ps * multN (n / (s * s))
  | [] => by
    show _ + sumL ps n [] = sumL ps n [] + _
    rw [Int.add_comm]
  | x :: l => by
    show _ + sumL ps n (l ++ [s]) = _ + sumL ps n l + _
    rw [sumL_snoc ps n s l, Int.add_assoc]
theorem prodM_snoc (left p : Nat) : ∀ ps, prodM left (ps ++ [p]) = prodM left ps * (1 - mkN left p)
  | [] => by
    show (1 - mkN left p) * 1 = 1 * (1 - mkN left p)
    rw [Int.mul_comm]
  | q :: ps => by
    show (1 - mkN left q) * prodM left (ps ++ [p]) = (1 - mkN left q) * prodM left ps * (1 - mkN left p)
    rw [prodM_snoc left p ps, Int.mul_assoc]
theorem mkN_bd (n p : Nat) : -1 ≤ mkN n p ∧ mkN n p ≤ 1 := by
  unfold mkN restSign
  split
  · decide
  · split
    · decide
    · split
      · split <;> decide
      · split <;> decide
theorem prodM_bd (left : Nat) : ∀ ps : List Nat, 0 ≤ prodM left ps ∧ prodM left ps ≤ 2 ^ ps.length
  | [] => ⟨show (0 : Int) ≤ 1 by decide, show (1 : Int) ≤ 2 ^ 0 by decide⟩
  | p :: ps => by
    have h1 := prodM_bd left ps
    have h2 := mkN_bd left p
    show 0 ≤ (1 - mkN left p) * prodM left ps ∧ (1 - mkN left p) * prodM left ps ≤ 2 ^ (ps.length + 1)
    refine ⟨Int.mul_nonneg (by omega) h1.1, ?_⟩
    have : (1 - mkN left p) * prodM left ps ≤ 2 * prodM left ps := Int.mul_le_mul_of_nonneg_right (by omega) h1.1
    rw [Int.pow_succ]
    omega
theorem mult_units (left : Nat) : (unitsN left : Int) * multN left = 24 := by
  unfold unitsN multN
  split
  · decide
  · split <;> decide
end Sf

namespace Sf
open PySem PySem.Spec PyProof.Rows L2
/-- 24 times the summand of 4 n - t t -/
def XN (ps : List Nat) (n : Nat) : Int := if n = 0 then (totN ps : Int) else sumL ps n (sqParts n)
theorem look_mult (left : Nat) : (valV (mergeK [] [((Sum.inl 3 : Key), V.int 4), (Sum.inl 4, V.int 6)]) (Sum.inl (left : Int))).getD (.int 12) = .int (multN left) := by
  rw [show mergeK [] [((Sum.inl 3 : Key), V.int 4), (Sum.inl 4, V.int 6)] = [((Sum.inl 3 : Key), V.int 4), (Sum.inl 4, V.int 6)] from rfl]
  unfold multN valV
  by_cases h3 : left = 3
  · subst h3
    rfl
  by_cases h4 : left = 4
  · subst h4
    rfl
  rw [if_neg h3, if_neg h4]
  have n3 : ¬ (Sum.inl 3 : Key) = Sum.inl (left : Int) := fun e => by
    injection e with e
    omega
  have n4 : ¬ (Sum.inl 4 : Key) = Sum.inl (left : Int) := fun e => by
    injection e with e
    omega
  rw [List.find?_cons_of_neg (by simpa using n3), List.find?_cons_of_neg (by simpa using n4)]
  rfl
section
variable {P : Program} {w : World} {K : PySem.W.Frag} {mg : Str → Option Value} {base : Heap} {f : Addr} {fd : FuncData}
structure TwP (vs : List V) (H : Hp) (Q : VK) : Prop where
  ex : ∃ (t : Addr) (ps : List Nat) (tr : Int) (m n : Nat), vs = [.ref t, .int tr, .int m] ∧ H t = some (.tup ((iL ps).map V.int)) ∧ ps ∈ PT ∧ m ≤ 200 ∧ tr.natAbs ≤ 1000 ∧ 4 * (m : Int) - tr * tr = n ∧ ∀ H', Same H H' → Q (.int (XN ps n)) H'
def spTw : Sp := fun vs H Q _ => TwP vs H Q
set_option maxHeartbeats 8000000 in
theorem ok_twelfths (F : FnD K "_law_twelfths" "_law_twelfths" s_L_twelfths f fd) (T : Glob mg) (C_L_lowered : Cal P w K mg base 1 "_law_lowered" ["_law_number"] spLow) (C_L_forms : Cal P w K mg base 3 "_law_forms" ["_law_number"] spLawF) (C_L_mark : Cal P w K mg base 2 "_law_mark" ["_law_prime", "_law_number"] spMark) : FnOk P w K mg base CX0 4 f fd ["_law_primes_here", "_law_trace", "_law_many"] spTw := by
  refine F.ok sc_L_twelfths (fun vs H Q E h => ?_) (fun cdv A outer s H vs Q E hr h => ?_)
  · obtain ⟨t, ps, tr, m, n, rfl, _⟩ := h.ex; rfl
  · obtain ⟨t, ps, tr, m, n, rfl, ht, hps, hm, htr, hn, q⟩ := h.ex
    have hu := hu_of hr
    refine ⟨_, PSs.nox (pss_cons (ps_par (i := 3) (j := 4) (by rfl) sc_L_twelfths.nd rfl rfl (by decide) rfl rfl (pa_cons (pe_op op_sub (pe_op op_mulW pe_int (pv 2)) (pe_op op_mulW (pv 1) (pv 1))) (pa_cons pe_int pa_nil)) (by rfl))
      (pss_cons (ps_if (pt_cmp (pc_eqI (pv 3) pe_int)) (pss_cons (ps_for PassesOwn.never rfl (pi_tup (pv 0)) (pg_name (i := 5) sc_L_twelfths.nd rfl (Or.inl rfl)) (pss_one (ps_set (i := 4) sc_L_twelfths.nd rfl (Or.inl rfl) (pe_op op_mulW (pv 4) (pe_op op_sub (pv 5) pe_int)))))
      (pss_one (ps_ret (pv 4)))) pss_nil)
      (pss_cons (ps_set (i := 6) sc_L_twelfths.nd rfl (Or.inl rfl) pe_int)
      (pss_cons (ps_for PassesOwn.never rfl (pi_list (pe_cal C_L_lowered (hr.mono (by decide)) (pa_cons (pv 3) pa_nil))) (pg_tup (by rfl) (pgs_cons (pg_name (i := 7) sc_L_twelfths.nd rfl (Or.inl rfl)) (pgs_cons (pg_name (i := 8) sc_L_twelfths.nd rfl (Or.inl rfl)) pgs_nil))) (pss_cons (ps_set (i := 9) sc_L_twelfths.nd rfl (Or.inl rfl) (pe_op op_mulW (pe_callB call_len_seq (by rfl) T.m_len (by decide +kernel) (pa_cons (pe_cal C_L_forms (hr.mono (by decide)) (pa_cons (pv 8) pa_nil)) pa_nil)) (pe_dget2 hu (pe_disp (pps_cons pe_int pe_int (pps_cons pe_int pe_int pps_nil)) (by rfl) (by rfl) (fun z => by cases z) (by decide)) (pv 8) pe_int ⟨rfl, rfl, rfl, rfl⟩)))
      (pss_cons (ps_for PassesOwn.never rfl (pi_tup (pv 0)) (pg_name (i := 5) sc_L_twelfths.nd rfl (Or.inl rfl)) (pss_one (ps_set (i := 9) sc_L_twelfths.nd rfl (Or.inl rfl) (pe_op op_mulW (pv 9) (pe_op op_sub pe_int (pe_cal C_L_mark (hr.mono (by decide)) (pa_cons (pv 5) (pa_cons (pv 8) pa_nil))))))))
      (pss_one (ps_set (i := 6) sc_L_twelfths.nd rfl (Or.inl rfl) (pe_op op_add (pv 6) (pv 9)))))))
      (pss_one (ps_ret (pv 6))))))), ?_⟩
    have wtr : tr.natAbs < 2 ^ 3000 := lt3000s (by omega) (by omega)
    have n8 : n ≤ 800 := by
      have := Int.natAbs_mul_self' tr
      have h0 : 0 ≤ tr * tr := by rw [← this]; exact Int.mul_nonneg (Int.natCast_nonneg _) (Int.natCast_nonneg _)
      omega
    obtain ⟨ha, ho, h3, hpr, hpr1, hm12⟩ := PT_ok ps hps
    refine ⟨_, rfl, _, _, rfl, rfl, CMulW.of (by decide +kernel) (lt3000s (by omega) (by omega)), _, rfl, _, rfl, _, _, rfl, rfl, CMulW.of wtr wtr, _, _, rfl, rfl, _, _, rfl, ?_⟩
    refine ⟨_, rfl, (n : Int), 0, congrArg V.int hn, rfl, _, rfl, ifd (fun h0 => ?_) (fun h0 => ?_)⟩
    · have n0 : n = 0 := by omega
      unfold XN at q
      rw [if_pos n0] at q
      refine ⟨_, rfl, t, rfl, ⟨_, SqT.of ht⟩, for_tup (K := K) (a := t) (xs := (iL ps).map V.int) (fun i σ H' => ∃ v5, σ = [some (.ref t), some (.int tr), some (.int m), some (.int (4 * (m : Int) - tr * tr)), some (.int (totN (ps.take i) : Nat)), v5, none, none, none, none] ∧ H = H') ⟨none, rfl, rfl⟩ (fun i σ H' _ ⟨_, _, e⟩ => by rw [← e]; exact SqT.of ht) ?_ ?_⟩
      · rintro i x σ _ hx ⟨v2, rfl, rfl⟩
        obtain ⟨p, hp, rfl⟩ : ∃ p : Nat, ps[i]? = some p ∧ x = V.int p := by
          rw [List.getElem?_map, List.getElem?_map] at hx
          obtain ⟨z, h1, h2⟩ := Option.map_eq_some_iff.mp hx
          obtain ⟨y, h3, h4⟩ := Option.map_eq_some_iff.mp h1
          exact ⟨y, h3, by rw [← h2, ← h4]⟩
        have hi := (List.getElem?_eq_some_iff.mp hp).1
        obtain ⟨h1, h2⟩ := totN_take ps hps i hi
        rw [List.getD_eq_getElem?_getD, hp] at h1
        have hbd := L12_bd p (hm12 p (List.mem_of_getElem? hp))
        refine ⟨_, rfl, _, rfl, _, _, rfl, rfl, _, _, rfl, rfl, CMulW.of (lt3000s (by omega) (by omega)) (lt3000s (by omega) (by omega)), ?_⟩
        exact ⟨some (.int p), congrArg (fun z : Int => [some (V.ref t), some (V.int tr), some (V.int m), some (V.int (4 * (m : Int) - tr * tr)), some (V.int z), some (V.int (p : Int)), none, none, none, none]) h1.symm, rfl⟩
      · rintro σ _ ⟨v2, rfl, rfl⟩
        refine ⟨_, rfl, ?_⟩
        rw [List.length_map, List.length_map, List.take_length]
        exact q _ (Same.refl _)
    have n1 : 1 ≤ n := by omega
    unfold XN at q
    rw [if_neg (by omega)] at q
    refine ⟨_, rfl, ⟨n, congrArg (fun z : Int => [V.int z]) hn, n1, by omega, fun D ks H1 e1 hD hh hl => ?_⟩⟩
    refine ⟨D, rfl, ⟨_, SqL.of hD⟩, for_list (K := K) (a := D) (xs := ks.map fun p => V.ref p.1) (fun i σ H' => ∃ v5 v7 v8 v9, σ = [some (.ref t), some (.int tr), some (.int m), some (.int (4 * (m : Int) - tr * tr)), some (.int 1), v5, some (.int (sumL ps n ((sqParts n).take i))), v7, v8, v9] ∧ Same H1 H') ⟨none, none, none, none, rfl, Same.refl H1⟩ (fun i σ H' _ ⟨_, _, _, _, _, e⟩ => SqL.of (e _ _ hD)) ?_ ?_⟩
    · rintro i x σ H2 hx ⟨v5, v7, v8, v9, rfl, e2⟩
      obtain ⟨pp, hpp, rfl, s', hs', hval⟩ : ∃ pp, pp ∈ ks ∧ x = V.ref pp.1 ∧ ∃ s', (sqParts n)[i]? = some s' ∧ pp.2 = pairL n s' := by
        rw [List.getElem?_map] at hx
        obtain ⟨z, h1, h2⟩ := Option.map_eq_some_iff.mp hx
        have h3 := congrArg (fun l => l[i]?) hl
        unfold lowL at h3
        simp only [List.getElem?_map] at h3
        rw [h1] at h3
        obtain ⟨s', h4, h5⟩ := Option.map_eq_some_iff.mp h3.symm
        exact ⟨z, List.mem_of_getElem? h1, h2.symm, s', h4, h5.symm⟩
      have hz := e2 _ _ (hh pp hpp)
      rw [hval] at hz
      have hsq := sqP_mem _ (List.mem_of_getElem? hs')
      obtain ⟨q1, q2, q3⟩ := hsq
      obtain ⟨r1, r2⟩ := sqT_iff.mp q3
      have hsn : sumL ps n ((sqParts n).take (i + 1)) = sumL ps n ((sqParts n).take i) + ((formsP (n / (s' * s'))).length : Int) * prodM (n / (s' * s')) ps * multN (n / (s' * s')) := by
        rw [List.take_add_one, hs']
        exact sumL_snoc ps n s' _
      have hL1 : 1 ≤ n / (s' * s') := by
        have hpos : 0 < s' * s' := Nat.mul_pos (by omega) (by omega)
        rcases Nat.lt_or_ge (n / (s' * s')) 1 with z | z
        · have z0 : n / (s' * s') = 0 := Nat.lt_one_iff.mp z
          have e5 := Nat.div_add_mod n (s' * s')
          rw [z0, r1, Nat.mul_zero] at e5
          omega
        · exact z
      have hL2 : n / (s' * s') ≤ n := Nat.div_le_self _ _
      unfold pairL at hz
      generalize n / (s' * s') = left at *
      refine ⟨pp.1, _, rfl, .inl (.inl hz), rfl, _, _, rfl, _, _, rfl, rfl, ?_⟩
      refine ⟨_, rfl, ⟨left, rfl, hL1, by omega, fun D2 ks2 H3 e3 hD2 hh2 hl2 => ⟨D2, _, rfl, .inl (SqL.of hD2), ?_⟩⟩⟩
      have el2 : (ks2.map fun p => V.ref p.1).length = (formsP left).length := by
        have h0 := congrArg List.length hl2
        rw [List.length_map] at h0
        rw [List.length_map, h0]
      rw [el2]
      intro d hd
      refine ⟨upd_same, [((Sum.inl 3 : Key), V.int 4), (Sum.inl 4, V.int 6)], rfl, by decide, d, rfl, .inl ⟨_, .inl upd_same⟩, _, rfl, _, DGet.k (k := Sum.inl (left : Int)) upd_same, ?_⟩
      rw [look_mult]
      have hcls : (formsP left).length ≤ 1800 := by
        rw [formsP_len]
        have h1 := cls_root (n := left) (by omega)
        have h2 := cntB_le left _ h1
        unfold cls
        omega
      have hmu : 4 ≤ multN left ∧ multN left ≤ 12 := by
        unfold multN
        split
        · decide
        · split <;> decide
      refine ⟨_, _, rfl, rfl, CMulW.of (lt3000s (by omega) (by omega)) (lt3000s (by omega) (by omega)), ?_⟩
      have e4 : Same H2 (upd (upd H3 d (.dK [])) d (.dK (mergeK [] [((Sum.inl 3 : Key), V.int 4), (Sum.inl 4, V.int 6)]))) := fun o u z => by
        have z3 := e3 _ _ z
        rw [upd_ne (ne_of_none z3 hd), upd_ne (ne_of_none z3 hd)]
        exact z3
      generalize upd (upd H3 d _) d _ = H4 at e4 ⊢
      have e14 := e2.trans e4
      have ht4 := e14 _ _ (e1 _ _ ht)
      refine ⟨_, rfl, t, rfl, ⟨_, SqT.of ht4⟩, for_tup (K := K) (a := t) (xs := (iL ps).map V.int) (fun j σ H' => ∃ v5, σ = [some (.ref t), some (.int tr), some (.int m), some (.int (4 * (m : Int) - tr * tr)), some (.int 1), v5, some (.int (sumL ps n ((sqParts n).take i))), some (.int s'), some (.int left), some (.int (((formsP left).length : Int) * multN left * prodM left (ps.take j)))] ∧ Same H4 H') ⟨v5, by rw [show prodM left (ps.take 0) = 1 from rfl, Int.mul_one]; rfl, Same.refl H4⟩ (fun i σ H' _ ⟨_, _, e⟩ => SqT.of (e _ _ ht4)) ?_ ?_⟩
      · rintro j x σ H5 hx ⟨v5', rfl, e5⟩
        obtain ⟨p, hp, rfl⟩ : ∃ p : Nat, ps[j]? = some p ∧ x = V.int p := by
          rw [List.getElem?_map, List.getElem?_map] at hx
          obtain ⟨z, h1, h2⟩ := Option.map_eq_some_iff.mp hx
          obtain ⟨y, h3, h4⟩ := Option.map_eq_some_iff.mp h1
          exact ⟨y, h3, by rw [← h2, ← h4]⟩
        have hj := (List.getElem?_eq_some_iff.mp hp).1
        have hmem := hm12 p (List.mem_of_getElem? hp)
        have hstep : prodM left (ps.take (j + 1)) = prodM left (ps.take j) * (1 - mkN left p) := by
          rw [List.take_add_one, hp]
          exact prodM_snoc left p _
        have hb1 := prodM_bd left (ps.take j)
        have hb2 := mkN_bd left p
        have hlen : (ps.take j).length ≤ 3 := Nat.le_trans (List.length_take_le' _ _) h3
        have hpow : (2 : Int) ^ (ps.take j).length ≤ 8 := by
          have c : (ps.take j).length = 0 ∨ (ps.take j).length = 1 ∨ (ps.take j).length = 2 ∨ (ps.take j).length = 3 := by omega
          rcases c with c | c | c | c <;> rw [c] <;> decide
        have hpart : (((formsP left).length : Int) * multN left * prodM left (ps.take j)).natAbs < 2 ^ 3000 := by
          have x1 : (((formsP left).length : Int)).natAbs < 2 ^ 20 := Nat.lt_of_le_of_lt (by omega : _ ≤ 1800) (by decide)
          have x2 : (multN left).natAbs < 2 ^ 20 := Nat.lt_of_le_of_lt (by omega : _ ≤ 12) (by decide)
          have x3 : (prodM left (ps.take j)).natAbs < 2 ^ 20 := Nat.lt_of_le_of_lt (by omega : _ ≤ 8) (by decide)
          exact Nat.lt_of_lt_of_le (wide_lt (wide_lt x1 x2) x3) (Nat.pow_le_pow_right (by decide) (by decide))
        refine ⟨_, rfl, _, rfl, _, rfl, p, left, rfl, hmem, hL1, by omega, r2, fun H6 e6 => ⟨_, _, rfl, rfl, _, _, rfl, rfl, CMulW.of hpart (lt3000s (by omega) (by omega)), ?_⟩⟩
        refine ⟨some (.int p), congrArg (fun z : Int => [some (V.ref t), some (V.int tr), some (V.int m), some (V.int (4 * (m : Int) - tr * tr)), some (V.int 1), some (V.int (p : Int)), some (V.int (sumL ps n ((sqParts n).take i))), some (V.int (s' : Int)), some (V.int (left : Int)), some (V.int z)]) ?_, e5.trans e6⟩
        rw [hstep, Int.mul_assoc]
      · rintro σ H5 ⟨v5', rfl, e5⟩
        have elp : ((iL ps).map V.int).length = ps.length := by rw [List.length_map, List.length_map]
        rw [elp, List.take_length]
        refine ⟨_, rfl, _, rfl, _, _, rfl, rfl, ?_⟩
        refine ⟨v5', some (.int s'), some (.int left), some (.int (((formsP left).length : Int) * multN left * prodM left ps)), congrArg (fun z : Int => [some (V.ref t), some (V.int tr), some (V.int m), some (V.int (4 * (m : Int) - tr * tr)), some (V.int 1), v5', some (V.int z), some (V.int (s' : Int)), some (V.int (left : Int)), some (V.int (((formsP left).length : Int) * multN left * prodM left ps))]) ?_, (e2.trans e4).trans e5⟩
        rw [hsn, Int.mul_assoc, Int.mul_assoc, Int.mul_comm (multN left)]
    · rintro σ H2 ⟨v5, v7, v8, v9, rfl, e2⟩
      have el : (ks.map fun p => V.ref p.1).length = (sqParts n).length := by
        have h0 := congrArg List.length hl
        unfold lowL at h0
        rw [List.length_map, List.length_map] at h0
        rw [List.length_map, h0]
      rw [el, List.take_length]
      exact ⟨_, rfl, q _ (e1.trans e2)⟩
end
end Sf

namespace Sf
open PySem PySem.Spec PyProof.Rows L2
section
variable {P : Program} {w : World} {K : PySem.W.Frag} {mg : Str → Option Value} {base : Heap} {f : Addr} {fd : FuncData} {CR : Addr}
theorem same_new {H : Hp} {x dx C : Addr} (hx : H x = none) (hd : H dx = none) (nd : dx ≠ x) : Same H (upd (upd H dx (.own x)) x (.ins C dx [])) := (same_upd hd).trans (same_upd (by rw [upd_ne nd.symm]; exact hx))
theorem same_keep {x : Addr} {H H1 H2 : Hp} (hx : H x = none) (s : Same H H1) (k : Keep x H1 H2) : Same H H2 := fun d o e => k _ _ (s _ _ e) (ne_of_none e hx)
theorem new_rat {H : Hp} {t b : Int} {R : VK} {x dx : Addr} (b0 : b ≠ 0) (t1 : t.natAbs < 10 ^ 60) (b1 : b.natAbs < 10 ^ 60) (hx : H x = none) (hd : H dx = none) (nd : dx ≠ x) (q : ∀ (t' b' : Int) (H' : Hp), LowT t b t' b' → Same H H' → RatioAt CR H' x t' b' → R .non H') :
    RatInitP CR [.ref x, .int t, .int b] (upd (upd H dx (.own x)) x (.ins CR dx [])) R :=
  ⟨x, dx, t, b, rfl, b0, t1, b1, upd_same, fun t' b' H' l k hR => q t' b' H' l (same_keep hx (same_new hx hd nd) k) hR⟩
theorem low_zero24 {t b : Int} (h : LowT 0 1 t b) : LowT 0 24 t b := by
  obtain ⟨h1, h2, h3⟩ := h
  exact ⟨h1, by omega, h3⟩
theorem totN_bd : ∀ ps ∈ PT, totN ps ≤ 1000 := by decide +kernel
theorem ok_units_of (F : FnD K "units_of" "units_of" s_P_units_of f fd) : FnOk P w K mg base CX0 1 f fd ["number"] (fun vs H Q _ => ∃ n : Nat, vs = [.int n] ∧ Q (.int (unitsN n)) H) := by
  refine F.ok sc_P_units_of (fun vs H Q E h => ?_) (fun cdv A outer s H vs Q E hr h => ?_)
  · obtain ⟨n, rfl, _⟩ := h; rfl
  · obtain ⟨n, rfl, q⟩ := h
    refine ⟨_, PSs.nox (pss_cons (ps_if (pt_cmp (pc_eqI (pv 0) pe_int)) (pss_one (ps_ret pe_int)) pss_nil)
      (pss_one (ps_ret (pe_ifExp (pt_cmp (pc_eqI (pv 0) pe_int)) pe_int pe_int)))), ?_⟩
    unfold unitsN at q
    refine ⟨_, rfl, _, _, rfl, rfl, _, rfl, ifd (fun h => ?_) (fun h => ?_)⟩
    · rw [if_pos (by omega)] at q
      exact q
    · rw [if_neg (by omega)] at q
      refine ⟨_, rfl, _, _, rfl, rfl, _, rfl, ifd (fun h => ?_) (fun h => ?_)⟩
      · rw [if_pos (by omega)] at q
        exact q
      · rw [if_neg (by omega)] at q
        exact q
/-- 24 times what is asked of a number of any sign -/
def XI (ps : List Nat) (N : Int) : Int := if N < 0 then 0 else XN ps N.toNat
structure SumP (CR : Addr) (vs : List V) (H : Hp) (Q : VK) : Prop where
  ex : ∃ (t : Addr) (ps : List Nat) (N : Int), vs = [.ref t, .int N] ∧ H t = some (.tup ((iL ps).map V.int)) ∧ ps ∈ PT ∧ N ≤ 800 ∧ (N % 4 = 0 ∨ N % 4 = 3) ∧ ∀ (x : Addr) (a b : Int) (H' : Hp), Same H H' → RatioAt CR H' x a b → LowT (XI ps N) 24 a b → Q (.ref x) H'
def spSum (CR : Addr) : Sp := fun vs H Q _ => SumP CR vs H Q
set_option maxHeartbeats 8000000 in
theorem ok_summand_of (F : FnD K "summand_of" "summand_of" s_P_summand_of f fd) (T : Glob mg) (C_P_totient : Cal P w K mg base 1 "totient" ["primes"] spTot) (C_P_made_ratio : Cal P w K mg base 5 "made_ratio" ["top", "bottom"] (spMadeRatio CR)) (C_P_square_parts : Cal P w K mg base 1 "square_parts" ["number"] spSqP) (C_P_forms_with : Cal P w K mg base 5 "forms_with" ["number"] spForms) (C_P_mark : Cal P w K mg base 3 "mark" ["prime", "number"] spMark)
    (C_P_units_of : Cal P w K mg base 1 "units_of" ["number"] (fun vs H Q _ => ∃ n : Nat, vs = [.int n] ∧ Q (.int (unitsN n)) H)) (N_Ratio_1 : CalC P w K mg base 3 "Ratio" CR ["self", "top", "bottom"] [.int 1] (spRatInit CR)) (O_Ratio : OwnK K CR) (M_Ratio_add : CalM P w K mg base 6 "__add__" CR ["self", "other"] (spRatOp CR (fun t b t2 b2 => t * b2 + t2 * b) (fun _ b _ b2 => b * b2))) :
    FnOk P w K mg base CX0 7 f fd ["primes", "number"] (spSum CR) := by
  refine F.ok sc_P_summand_of (fun vs H Q E h => ?_) (fun cdv A outer s H vs Q E hr h => ?_)
  · obtain ⟨t, ps, N, rfl, _⟩ := h.ex; rfl
  · obtain ⟨t, ps, N, rfl, ht, hps, hN, hN4, q⟩ := h.ex
    obtain ⟨ha, ho, h3, hpr, hpr1, hm12⟩ := PT_ok ps hps
    refine ⟨_, PSs.nox (pss_cons (ps_if (pt_cmp (pc_lt (pv 1) pe_int)) (pss_one (ps_ret (pe_new N_Ratio_1 (hr.mono (by decide)) (pa_cons pe_int pa_nil)))) pss_nil)
      (pss_cons (ps_if (pt_cmp (pc_eqI (pv 1) pe_int)) (pss_one (ps_ret (pe_cal C_P_made_ratio (hr.mono (by decide)) (pa_cons (pe_cal C_P_totient (hr.mono (by decide)) (pa_cons (pv 0) pa_nil)) (pa_cons pe_int pa_nil))))) pss_nil)
      (pss_cons (ps_set (i := 2) sc_P_summand_of.nd rfl (Or.inl rfl) (pe_new N_Ratio_1 (hr.mono (by decide)) (pa_cons pe_int pa_nil)))
      (pss_cons (ps_for PassesOwn.never rfl (pi_list (pe_cal C_P_square_parts (hr.mono (by decide)) (pa_cons (pv 1) pa_nil))) (pg_name (i := 3) sc_P_summand_of.nd rfl (Or.inl rfl)) (pss_cons (ps_set (i := 4) sc_P_summand_of.nd rfl (Or.inl rfl) (pe_op op_fdivW (pv 1) (pe_op op_mulW (pv 3) (pv 3))))
      (pss_cons (ps_set (i := 5) sc_P_summand_of.nd rfl (Or.inl rfl) (pe_callB call_len_seq (by rfl) T.m_len (by decide +kernel) (pa_cons (pe_cal C_P_forms_with (hr.mono (by decide)) (pa_cons (pv 4) pa_nil)) pa_nil)))
      (pss_cons (ps_for PassesOwn.never rfl (pi_tup (pv 0)) (pg_name (i := 6) sc_P_summand_of.nd rfl (Or.inl rfl)) (pss_one (ps_set (i := 5) sc_P_summand_of.nd rfl (Or.inl rfl) (pe_op op_mulW (pv 5) (pe_op op_sub pe_int (pe_cal C_P_mark (hr.mono (by decide)) (pa_cons (pv 6) (pa_cons (pv 4) pa_nil))))))))
      (pss_one (ps_set (i := 2) sc_P_summand_of.nd rfl (Or.inl rfl) (pe_op (op_own (M_Ratio_add.me.cast (by decide +kernel)) M_Ratio_add.ok (hr.mono (by decide)) M_Ratio_add.b pass0 O_Ratio.sf) (pv 2) (pe_cal C_P_made_ratio (hr.mono (by decide)) (pa_cons (pv 5) (pa_cons (pe_cal C_P_units_of (hr.mono (by decide)) (pa_cons (pv 4) pa_nil)) pa_nil))))))))))
      (pss_one (ps_ret (pv 2))))))), ?_⟩
    refine ⟨_, rfl, _, _, rfl, rfl, _, rfl, ifd (fun h0 => ?_) (fun h0 => ?_)⟩
    · refine fun x dx hx hd nd => new_rat (by decide) (by decide) (by decide) hx hd nd fun t' b' H1 l e1 hR => ⟨rfl, ?_⟩
      refine q x t' b' H1 e1 hR ?_
      unfold XI
      rw [if_pos h0]
      exact low_zero24 l
    obtain ⟨n, rfl⟩ : ∃ n : Nat, N = n := ⟨N.toNat, by omega⟩
    have eX : XI ps (n : Int) = XN ps n := by
      unfold XI
      rw [if_neg h0, Int.toNat_natCast]
    rw [eX] at q
    refine ⟨_, rfl, _, _, rfl, rfl, _, rfl, ifd (fun h1 => ?_) (fun h1 => ?_)⟩
    · have htot := totN_bd ps hps
      refine ⟨_, rfl, t, ps, rfl, ht, hps, (totN ps : Nat), 24, rfl, by decide, by decide +kernel, fun t' b' a H1 l hA e1 hR => q a t' b' H1 e1 hR ?_⟩
      unfold XN
      rw [if_pos (by omega)]
      exact l
    have n1 : 1 ≤ n := by omega
    unfold XN at q
    rw [if_neg (by omega)] at q
    refine fun x dx hx hd nd => new_rat (by decide) (by decide) (by decide) hx hd nd fun t0 b0 H1 l0 e1 hR0 => ⟨rfl, ?_⟩
    refine ⟨_, rfl, n, rfl, by omega, fun D H2 e2 hD => ?_⟩
    have e12 := e1.trans e2
    have keepR : ∀ {H H' : Hp} {y : Addr} {u v : Int}, Same H H' → RatioAt CR H y u v → RatioAt CR H' y u v := fun s hr => by
      obtain ⟨dx, e⟩ := hr
      exact ⟨dx, s _ _ e⟩
    refine ⟨D, rfl, ⟨_, SqL.of hD⟩, for_list (K := K) (a := D) (xs := (iL (sqParts n)).map V.int) (fun i σ H' => ∃ y u v v3 v4 v5 v6, σ = [some (.ref t), some (.int n), some (.ref y), v3, v4, v5, v6] ∧ Same H2 H' ∧ RatioAt CR H' y u v ∧ LowT (sumL ps n ((sqParts n).take i)) 24 u v ∧ (sumL ps n ((sqParts n).take i)).natAbs ≤ 200000 * i) ⟨x, t0, b0, none, none, none, none, rfl, Same.refl H2, keepR e2 hR0, low_zero24 l0, Nat.le_refl _⟩ (fun i σ H' _ ⟨_, _, _, _, _, _, _, _, e, _⟩ => SqL.of (e _ _ hD)) ?_ ?_⟩
    · rintro i z σ H3 hz ⟨y, u, v, v3, v4, v5, v6, rfl, e3, hR3, l3, hbd⟩
      obtain ⟨s', hs', rfl⟩ : ∃ s' : Nat, (sqParts n)[i]? = some s' ∧ z = V.int s' := by
        rw [List.getElem?_map, List.getElem?_map] at hz
        obtain ⟨z, h1, h2⟩ := Option.map_eq_some_iff.mp hz
        obtain ⟨y, h3, h4⟩ := Option.map_eq_some_iff.mp h1
        exact ⟨y, h3, by rw [← h2, ← h4]⟩
      obtain ⟨q1, q2, q3⟩ := sqP_mem _ (List.mem_of_getElem? hs')
      obtain ⟨r1, r2⟩ := sqT_iff.mp q3
      have hR := isqrt_small (n := n) (by omega)
      have hi44 : i < 44 := by
        have h5 := (List.getElem?_eq_some_iff.mp hs').1
        have h6 := sqP_len n (PySem.Float64.isqrt n)
        unfold sqParts at h5
        omega
      have hsn : sumL ps n ((sqParts n).take (i + 1)) = sumL ps n ((sqParts n).take i) + ((formsP (n / (s' * s'))).length : Int) * prodM (n / (s' * s')) ps * multN (n / (s' * s')) := by
        rw [List.take_add_one, hs']
        exact sumL_snoc ps n s' _
      have hpos : 0 < s' * s' := Nat.mul_pos (by omega) (by omega)
      have hss : s' * s' ≤ 45 * 45 := Nat.mul_le_mul (by omega) (by omega)
      have hL1 : 1 ≤ n / (s' * s') := by
        rcases Nat.lt_or_ge (n / (s' * s')) 1 with z | z
        · have z0 : n / (s' * s') = 0 := Nat.lt_one_iff.mp z
          have e5 := Nat.div_add_mod n (s' * s')
          rw [z0, r1, Nat.mul_zero] at e5
          omega
        · exact z
      have hL2 : n / (s' * s') ≤ n := Nat.div_le_self _ _
      have es : (s' : Int) * s' = ((s' * s' : Nat) : Int) := by push_cast; rfl
      have eD : ((n / (s' * s') : Nat) : Int) = (n : Int) / ((s' * s' : Nat) : Int) := Int.natCast_ediv _ _
      have ws : (s' : Int).natAbs < 2 ^ 3000 := lt3000s (by omega) (by omega)
      refine ⟨_, rfl, _, rfl, _, rfl, _, _, rfl, rfl, CMulW.of ws ws, (n : Int), ((s' * s' : Nat) : Int), rfl, congrArg V.int es, CDivW.of (by omega) (lt3000s (by omega) (by omega)), ?_⟩
      generalize ((s' * s' : Nat) : Int) = S at eD
      generalize n / (s' * s') = left at *
      have hcls : (formsP left).length ≤ 1800 := by
        rw [formsP_len]
        have h1 := cls_root (n := left) (by omega)
        have h2 := cntB_le left _ h1
        unfold cls
        omega
      have hmu : 4 ≤ multN left ∧ multN left ≤ 12 := by
        unfold multN
        split
        · decide
        · split <;> decide
      refine ⟨_, rfl, ⟨left, congrArg (fun z : Int => [V.int z]) eD.symm, hL1, by omega, fun D2 ks2 H4 e4 hD2 hh2 hl2 => ⟨D2, _, rfl, .inl (SqL.of hD2), ?_⟩⟩⟩
      have el2 : (ks2.map fun p => V.ref p.1).length = (formsP left).length := by
        have h0 := congrArg List.length hl2
        rw [List.length_map] at h0
        rw [List.length_map, h0]
      rw [el2]
      have e34 := e3.trans e4
      have ht4 := e34 _ _ (e12 _ _ ht)
      have hR4 := keepR e4 hR3
      refine ⟨_, rfl, t, rfl, ⟨_, SqT.of ht4⟩, for_tup (K := K) (a := t) (xs := (iL ps).map V.int) (fun j σ H' => ∃ v6, σ = [some (.ref t), some (.int n), some (.ref y), some (.int s'), some (.int ((n : Int) / S)), some (.int (((formsP left).length : Int) * prodM left (ps.take j))), v6] ∧ Same H4 H') ⟨v6, by rw [show prodM left (ps.take 0) = 1 from rfl, Int.mul_one]; rfl, Same.refl H4⟩ (fun i σ H' _ ⟨_, _, e⟩ => SqT.of (e _ _ ht4)) ?_ ?_⟩
      · rintro j x σ H5 hx ⟨v6', rfl, e5⟩
        obtain ⟨p, hp, rfl⟩ : ∃ p : Nat, ps[j]? = some p ∧ x = V.int p := by
          rw [List.getElem?_map, List.getElem?_map] at hx
          obtain ⟨z, h1, h2⟩ := Option.map_eq_some_iff.mp hx
          obtain ⟨y, h3, h4⟩ := Option.map_eq_some_iff.mp h1
          exact ⟨y, h3, by rw [← h2, ← h4]⟩
        have hmem := hm12 p (List.mem_of_getElem? hp)
        have hstep : prodM left (ps.take (j + 1)) = prodM left (ps.take j) * (1 - mkN left p) := by
          rw [List.take_add_one, hp]
          exact prodM_snoc left p _
        have hb1 := prodM_bd left (ps.take j)
        have hb2 := mkN_bd left p
        have hlen : (ps.take j).length ≤ 3 := Nat.le_trans (List.length_take_le' _ _) h3
        have hpow : (2 : Int) ^ (ps.take j).length ≤ 8 := by
          have c : (ps.take j).length = 0 ∨ (ps.take j).length = 1 ∨ (ps.take j).length = 2 ∨ (ps.take j).length = 3 := by omega
          rcases c with c | c | c | c <;> rw [c] <;> decide
        have hpart : (((formsP left).length : Int) * prodM left (ps.take j)).natAbs < 2 ^ 3000 := by
          have x1 : (((formsP left).length : Int)).natAbs < 2 ^ 20 := Nat.lt_of_le_of_lt (by omega : _ ≤ 1800) (by decide)
          have x3 : (prodM left (ps.take j)).natAbs < 2 ^ 20 := Nat.lt_of_le_of_lt (by omega : _ ≤ 8) (by decide)
          exact Nat.lt_of_lt_of_le (wide_lt x1 x3) (Nat.pow_le_pow_right (by decide) (by decide))
        refine ⟨_, rfl, _, rfl, _, rfl, p, left, congrArg (fun z : Int => [V.int (p : Int), V.int z]) eD.symm, hmem, hL1, by omega, r2, fun H6 e6 => ⟨_, _, rfl, rfl, _, _, rfl, rfl, CMulW.of hpart (lt3000s (by omega) (by omega)), ?_⟩⟩
        refine ⟨some (.int p), congrArg (fun z : Int => [some (V.ref t), some (V.int (n : Int)), some (V.ref y), some (V.int (s' : Int)), some (V.int ((n : Int) / S)), some (V.int z), some (V.int (p : Int))]) ?_, e5.trans e6⟩
        rw [hstep, Int.mul_assoc]
      · rintro σ H5 ⟨v6', rfl, e5⟩
        have elp : ((iL ps).map V.int).length = ps.length := by rw [List.length_map, List.length_map]
        rw [elp, List.take_length]
        have hb1 := prodM_bd left ps
        have hpow : (2 : Int) ^ ps.length ≤ 8 := by
          have c : ps.length = 0 ∨ ps.length = 1 ∨ ps.length = 2 ∨ ps.length = 3 := by omega
          rcases c with c | c | c | c <;> rw [c] <;> decide
        have hun := mult_units left
        generalize eW : ((formsP left).length : Int) * prodM left ps = W at hsn ⊢
        have hW : 0 ≤ W ∧ W ≤ 1800 * 8 := by
          rw [← eW]
          exact ⟨Int.mul_nonneg (by omega) hb1.1, Int.mul_le_mul (by omega) (by omega) hb1.1 (by omega)⟩
        refine ⟨_, rfl, _, rfl, _, rfl, left, congrArg (fun z : Int => [V.int z]) eD.symm, W, (unitsN left : Nat), rfl, ?_, ?_, fun a' b' y2 H6 l6 hy2 e6 hR6 => ?_⟩
        · intro z
          rw [z, Int.zero_mul] at hun
          cases hun
        · exact Nat.lt_of_le_of_lt (by unfold unitsN; split; decide; split <;> decide : ((unitsN left : Nat) : Int).natAbs ≤ 6) (by decide +kernel)
        have hR3' := keepR ((e4.trans e5).trans e6) hR3
        obtain ⟨b1, b2, b3⟩ := lowT24 l3
        have hb' : 0 < b' ∧ b' ≤ 24 := by
          have l6' : LowT (W * multN left) 24 a' b' := by
            obtain ⟨k1, k2, k3⟩ := l6
            refine ⟨k1, ?_, k3⟩
            have n0 : (unitsN left : Int) ≠ 0 := fun z => by
              rw [z, Int.zero_mul] at hun
              cases hun
            refine Int.eq_of_mul_eq_mul_left n0 ?_
            rw [← hun]
            grind
          have := lowT24 l6'
          exact ⟨this.1, this.2.1⟩
        have ha' : a'.natAbs ≤ W.natAbs * 24 := by
          obtain ⟨k1, k2, k3⟩ := l6
          have n1 : 1 ≤ unitsN left := by unfold unitsN; split; decide; split <;> decide
          have e := congrArg Int.natAbs k2
          rw [Int.natAbs_mul, Int.natAbs_mul, Int.natAbs_natCast] at e
          have h1 : a'.natAbs * 1 ≤ a'.natAbs * unitsN left := Nat.mul_le_mul_left _ n1
          have h2 : W.natAbs * b'.natAbs ≤ W.natAbs * 24 := Nat.mul_le_mul_left _ (by omega)
          omega
        refine ⟨y, y2, rfl, rfl, hR3'.ins, hR6.ins, y, .ref y2, u, v, a', b', rfl, hR3', .rat hR6, ?_, ?_, ?_, ?_, ?_, fun t' b'' x2 H7 l7 hx2 e7 hR7 => ?_⟩
        · exact Nat.lt_of_le_of_lt (by omega : u.natAbs ≤ 200000 * 44) (by decide +kernel)
        · exact Nat.lt_of_le_of_lt (by omega : v.natAbs ≤ 24) (by decide +kernel)
        · exact Nat.lt_of_le_of_lt (by omega : a'.natAbs ≤ 1800 * 8 * 24) (by decide +kernel)
        · exact Nat.lt_of_le_of_lt (by omega : b'.natAbs ≤ 24) (by decide +kernel)
        · exact Int.mul_ne_zero (by omega) (by omega)
        refine ⟨x2, t', b'', some (.int s'), some (.int ((n : Int) / S)), some (.int W), v6', rfl, (((e3.trans e4).trans e5).trans e6).trans e7, hR7, ?_, ?_⟩
        · rw [hsn]
          exact lowT_add l3 l6 hun l7
        · rw [hsn]
          have : 0 ≤ W * multN left ∧ W * multN left ≤ 1800 * 8 * 12 := ⟨Int.mul_nonneg hW.1 (by omega), Int.mul_le_mul hW.2 hmu.2 (by omega) (by omega)⟩
          omega
    · rintro σ H3 ⟨y, u, v, v3, v4, v5, v6, rfl, e3, hR3, l3, hbd⟩
      rw [show ((iL (sqParts n)).map V.int).length = (sqParts n).length by rw [List.length_map, List.length_map], List.take_length] at l3
      exact ⟨_, rfl, q y u v H3 (e12.trans e3) hR3 l3⟩
end
end Sf

namespace Sf
open PySem PySem.Spec PyProof.Rows L2
theorem prod_take : ∀ ps ∈ PT, ∀ i, i < ps.length → (ps.take (i + 1)).prod = (ps.take i).prod * ps.getD i 0 ∧ (ps.take i).prod ≤ 100000 := by
  have h : ∀ ps ∈ PT, ∀ i : Fin 3, i.1 < ps.length → (ps.take (i.1 + 1)).prod = (ps.take i.1).prod * ps.getD i.1 0 ∧ (ps.take i.1).prod ≤ 100000 := by decide +kernel
  intro ps hps i hi
  have h3 := (PT_ok ps hps).2.2.1
  exact h ps hps ⟨i, by omega⟩ hi
section
variable {P : Program} {w : World} {K : PySem.W.Frag} {mg : Str → Option Value} {base : Heap} {f : Addr} {fd : FuncData} {CR : Addr}
def spChkP : Sp := fun vs H Q _ => ∃ (t : Addr) (ps : List Nat), vs = [.ref t] ∧ H t = some (.tup ((iL ps).map V.int)) ∧ ps ∈ PT ∧ Q .non H
theorem ok_check_primes (F : FnD K "check_primes" "check_primes" s_P_check_primes f fd) (T : Glob mg) (C_P_is_odd_primes : Cal P w K mg base 3 "is_odd_primes" ["value"] spOddP) : FnOk P w K mg base CX0 4 f fd ["value"] spChkP := by
  refine F.ok sc_P_check_primes (fun vs H Q E h => ?_) (fun cdv A outer s H vs Q E hr h => ?_)
  · obtain ⟨t, ps, rfl, _⟩ := h; rfl
  · obtain ⟨t, ps, rfl, ht, hps, q⟩ := h
    obtain ⟨tM, hc_MAX_PRODUCT⟩ := T.m_MAX_PRODUCT
    obtain ⟨ha, ho, h3, hpr, hpr1, hm12⟩ := PT_ok ps hps
    refine ⟨_, PSs.nox (pss_cons (ps_if (pt_not (pt_val (pe_cal C_P_is_odd_primes (hr.mono (by decide)) (pa_cons (pv 0) pa_nil)))) (pss_one ps_never) pss_nil)
      (pss_cons (ps_set (i := 1) sc_P_check_primes.nd rfl (Or.inl rfl) pe_int)
      (pss_cons (ps_for PassesOwn.never rfl (pi_tup (pv 0)) (pg_name (i := 2) sc_P_check_primes.nd rfl (Or.inl rfl)) (pss_one (ps_set (i := 1) sc_P_check_primes.nd rfl (Or.inl rfl) (pe_op op_mulW (pv 1) (pv 2)))))
      (pss_one (ps_if (pt_cmp (pc_gt (pv 1) (pe_glob (v := .int 120) rfl hc_MAX_PRODUCT ⟨_, rfl⟩))) (pss_one ps_never) pss_nil))))), ?_⟩
    refine ⟨_, rfl, t, ps, rfl, ht, hps, _, rfl, iteF ?_⟩
    refine ⟨_, rfl, t, rfl, ⟨_, SqT.of ht⟩, for_tup (K := K) (a := t) (xs := (iL ps).map V.int) (fun i σ H' => ∃ v2, σ = [some (.ref t), some (.int ((ps.take i).prod : Nat)), v2] ∧ H = H') ⟨none, rfl, rfl⟩ (fun i σ H' _ ⟨_, _, e⟩ => by rw [← e]; exact SqT.of ht) ?_ ?_⟩
    · rintro i x σ _ hx ⟨v2, rfl, rfl⟩
      obtain ⟨p, hp, rfl⟩ : ∃ p : Nat, ps[i]? = some p ∧ x = V.int p := by
        rw [List.getElem?_map, List.getElem?_map] at hx
        obtain ⟨z, h1, h2⟩ := Option.map_eq_some_iff.mp hx
        obtain ⟨y, h3, h4⟩ := Option.map_eq_some_iff.mp h1
        exact ⟨y, h3, by rw [← h2, ← h4]⟩
      have hi := (List.getElem?_eq_some_iff.mp hp).1
      obtain ⟨h1, h2⟩ := prod_take ps hps i hi
      rw [List.getD_eq_getElem?_getD, hp] at h1
      have hbd := L12_bd p (hm12 p (List.mem_of_getElem? hp))
      refine ⟨_, rfl, _, rfl, _, _, rfl, rfl, CMulW.of (lt3000s (by omega) (by omega)) (lt3000s (by omega) (by omega)), ?_⟩
      exact ⟨some (.int p), congrArg (fun z : Int => [some (V.ref t), some (V.int z), some (V.int (p : Int))]) (a₂ := (((ps.take (i + 1)).prod : Nat) : Int)) (by rw [h1, Int.natCast_mul]; rfl), rfl⟩
    · rintro σ _ ⟨v2, rfl, rfl⟩
      rw [show ((iL ps).map V.int).length = ps.length by rw [List.length_map, List.length_map], List.take_length]
      exact ⟨_, rfl, _, _, rfl, rfl, _, rfl, ifd (fun h => absurd h (by omega)) (fun _ => q)⟩
theorem ok_check_trace (F : FnD K "check_trace" "check_trace" s_P_check_trace f fd) (T : Glob mg) (C_P_is_integer : Cal P w K mg base 1 "is_integer" ["value"] (spIsInt K)) : FnOk P w K mg base CX0 2 f fd ["value"] (fun vs H Q _ => ∃ n : Int, vs = [.int n] ∧ n.natAbs ≤ 1000 ∧ Q .non H) := by
  refine F.ok sc_P_check_trace (fun vs H Q E h => ?_) (fun cdv A outer s H vs Q E hr h => ?_)
  · obtain ⟨n, rfl, _⟩ := h; rfl
  · obtain ⟨n, rfl, h1, q⟩ := h
    obtain ⟨tM, hc_MAX_TRACE⟩ := T.m_MAX_TRACE
    refine ⟨_, PSs.nox (pss_one (ps_if (PW.pt (pw_or (pt_not (pt_val (pe_cal C_P_is_integer (hr.mono (by decide)) (pa_cons (pv 0) pa_nil)))) (pw_or1 (pt_cmp (pc_gt (pe_callB call_abs (by rfl) T.m_abs (by decide +kernel) (pa_cons (pv 0) pa_nil)) (pe_glob (v := .int 1000) rfl hc_MAX_TRACE ⟨_, rfl⟩)))))) (pss_one ps_never) pss_nil)), ?_⟩
    refine ⟨_, rfl, .int n, true, rfl, .int _, _, rfl, iteF ?_⟩
    refine ⟨_, rfl, n, rfl, _, _, rfl, rfl, _, rfl, ifd (fun h => ?_) (fun _ => q)⟩
    exfalso
    split at h <;> omega
theorem ok_check_many (F : FnD K "check_many" "check_many" s_P_check_many f fd) (T : Glob mg) (C_P_is_integer : Cal P w K mg base 1 "is_integer" ["value"] (spIsInt K)) : FnOk P w K mg base CX0 2 f fd ["value"] (fun vs H Q _ => ∃ n : Nat, vs = [.int n] ∧ 1 ≤ n ∧ n ≤ 200 ∧ Q .non H) := by
  refine F.ok sc_P_check_many (fun vs H Q E h => ?_) (fun cdv A outer s H vs Q E hr h => ?_)
  · obtain ⟨n, rfl, _⟩ := h; rfl
  · obtain ⟨n, rfl, h1, h2, q⟩ := h
    obtain ⟨tM, hc_MAX_MANY⟩ := T.m_MAX_MANY
    refine ⟨_, PSs.nox (pss_one (ps_if (PW.pt (pw_or (pt_not (pt_val (pe_cal C_P_is_integer (hr.mono (by decide)) (pa_cons (pv 0) pa_nil)))) (pw_or1 (pt_not (pt_chain op_le op_le pe_int (pv 0) (pe_glob (v := .int 200) rfl hc_MAX_MANY ⟨_, rfl⟩)))))) (pss_one ps_never) pss_nil)), ?_⟩
    refine ⟨_, rfl, .int n, true, rfl, .int _, _, rfl, iteF ?_⟩
    refine ⟨_, rfl, _, _, rfl, rfl, _, rfl, ifd (fun _ => ?_) (fun h => absurd (by omega) h)⟩
    exact ⟨_, _, rfl, rfl, true, congrArg V.bl (decide_eq_true (by omega)), iteF q⟩
theorem mod4_sq (m : Nat) (tr : Int) : (4 * (m : Int) - tr * tr) % 4 = 0 ∨ (4 * (m : Int) - tr * tr) % 4 = 3 := by
  have hb : tr * tr % 4 = 0 ∨ tr * tr % 4 = 1 := by
    have h : tr % 4 = 0 ∨ tr % 4 = 1 ∨ tr % 4 = 2 ∨ tr % 4 = 3 := by omega
    rw [Int.mul_emod]
    rcases h with e | e | e | e <;> rw [e] <;> decide
  omega
theorem sq_nn (tr : Int) : 0 ≤ tr * tr := by
  rw [← Int.natAbs_mul_self' tr]
  exact Int.mul_nonneg (Int.natCast_nonneg _) (Int.natCast_nonneg _)
structure SmdP (CR : Addr) (vs : List V) (H : Hp) (Q : VK) : Prop where
  ex : ∃ (t : Addr) (ps : List Nat) (tr : Int) (m : Nat), vs = [.ref t, .int tr, .int m] ∧ H t = some (.tup ((iL ps).map V.int)) ∧ ps ∈ PT ∧ 1 ≤ m ∧ m ≤ 200 ∧ tr.natAbs ≤ 1000 ∧ ∀ (x : Addr) (a b : Int) (H' : Hp), Same H H' → RatioAt CR H' x a b → LowT (XI ps (4 * (m : Int) - tr * tr)) 24 a b → Q (.ref x) H'
def spSmd (CR : Addr) : Sp := fun vs H Q _ => SmdP CR vs H Q
theorem ok_summand (F : FnD K "summand" "summand" s_P_summand f fd) (C_P_check_primes : Cal P w K mg base 4 "check_primes" ["value"] spChkP) (C_P_check_trace : Cal P w K mg base 2 "check_trace" ["value"] (fun vs H Q _ => ∃ n : Int, vs = [.int n] ∧ n.natAbs ≤ 1000 ∧ Q .non H)) (C_P_check_many : Cal P w K mg base 2 "check_many" ["value"] (fun vs H Q _ => ∃ n : Nat, vs = [.int n] ∧ 1 ≤ n ∧ n ≤ 200 ∧ Q .non H)) (C_P_summand_of : Cal P w K mg base 7 "summand_of" ["primes", "number"] (spSum CR)) : FnOk P w K mg base CX0 8 f fd ["primes", "trace", "many"] (spSmd CR) := by
  refine F.ok sc_P_summand (fun vs H Q E h => ?_) (fun cdv A outer s H vs Q E hr h => ?_)
  · obtain ⟨t, ps, tr, m, rfl, _⟩ := h.ex; rfl
  · obtain ⟨t, ps, tr, m, rfl, ht, hps, m1, m2, htr, q⟩ := h.ex
    have wtr : tr.natAbs < 2 ^ 3000 := lt3000s (by omega) (by omega)
    have h4 := mod4_sq m tr
    have h0 := sq_nn tr
    refine ⟨_, PSs.nox (pss_cons (ps_expr (pe_cal C_P_check_primes (hr.mono (by decide)) (pa_cons (pv 0) pa_nil)))
      (pss_cons (ps_expr (pe_cal C_P_check_trace (hr.mono (by decide)) (pa_cons (pv 1) pa_nil)))
      (pss_cons (ps_expr (pe_cal C_P_check_many (hr.mono (by decide)) (pa_cons (pv 2) pa_nil)))
      (pss_one (ps_ret (pe_cal C_P_summand_of (hr.mono (by decide)) (pa_cons (pv 0) (pa_cons (pe_op op_sub (pe_op op_mulW pe_int (pv 2)) (pe_op op_mulW (pv 1) (pv 1))) pa_nil)))))))), ?_⟩
    refine ⟨_, rfl, t, ps, rfl, ht, hps, _, rfl, tr, rfl, htr, _, rfl, m, rfl, m1, m2, ?_⟩
    exact ⟨_, rfl, _, rfl, _, _, rfl, rfl, CMulW.of (by decide +kernel) (lt3000s (by omega) (by omega)), _, rfl, _, rfl, _, _, rfl, rfl, CMulW.of wtr wtr, _, _, rfl, rfl, ⟨t, ps, 4 * (m : Int) - tr * tr, rfl, ht, hps, by omega, h4, q⟩⟩
end
end Sf

namespace Sf
open PySem PySem.Spec PyProof.Rows L2
theorem sumL_bd {ps : List Nat} {n : Nat} (hn : n ≤ 2000) (h3 : ps.length ≤ 3) : ∀ l, (sumL ps n l).natAbs ≤ 200000 * l.length
  | [] => Nat.le_refl _
  | s :: l => by
    have ih := sumL_bd hn h3 l
    have hL : n / (s * s) ≤ 2000 := Nat.le_trans (Nat.div_le_self _ _) hn
    show (((formsP (n / (s * s))).length : Int) * prodM (n / (s * s)) ps * multN (n / (s * s)) + sumL ps n l).natAbs ≤ 200000 * (l.length + 1)
    generalize n / (s * s) = left at hL
    have hcls : (formsP left).length ≤ 1800 := by
      rw [formsP_len]
      have h1 := cls_root (n := left) (by omega)
      have h2 := cntB_le left _ h1
      unfold cls
      omega
    have hmu : 4 ≤ multN left ∧ multN left ≤ 12 := by
      unfold multN
      split
      · decide
      · split <;> decide
    have hb1 := prodM_bd left ps
    have hpow : (2 : Int) ^ ps.length ≤ 8 := by
      have c : ps.length = 0 ∨ ps.length = 1 ∨ ps.length = 2 ∨ ps.length = 3 := by omega
      rcases c with c | c | c | c <;> rw [c] <;> decide
    have x1 : ((formsP left).length : Int) * prodM left ps ≤ 1800 * 8 := Int.mul_le_mul (by omega) (by omega) hb1.1 (by omega)
    have x2 : 0 ≤ ((formsP left).length : Int) * prodM left ps := Int.mul_nonneg (by omega) hb1.1
    generalize ((formsP left).length : Int) * prodM left ps = W at x1 x2
    have x3 : 0 ≤ W * multN left ∧ W * multN left ≤ 1800 * 8 * 12 := ⟨Int.mul_nonneg x2 (by omega), Int.mul_le_mul x1 hmu.2 (by omega) (by omega)⟩
    omega
theorem XI_bd {ps : List Nat} (hps : ps ∈ PT) {N : Int} (hN : N ≤ 800) : (XI ps N).natAbs ≤ 10000000 := by
  unfold XI
  split
  · decide
  · unfold XN
    split
    · have := totN_bd ps hps
      omega
    · have h1 := sumL_bd (ps := ps) (n := N.toNat) (by omega) (PT_ok ps hps).2.2.1 (sqParts N.toNat)
      have h2 := sqP_len N.toNat (PySem.Float64.isqrt N.toNat)
      have h3 := isqrt_small (n := N.toNat) (by omega)
      unfold sqParts at h1 ⊢
      omega
def totX (ps : List Nat) (m k : Nat) : Int := Nat.rec (XI ps (4 * (m : Int))) (fun j ih => ih + 2 * XI ps (4 * (m : Int) - ((j : Int) + 1) * ((j : Int) + 1))) k
theorem totX_succ (ps : List Nat) (m k : Nat) : totX ps m (k + 1) = totX ps m k + 2 * XI ps (4 * (m : Int) - ((k : Int) + 1) * ((k : Int) + 1)) := rfl
section
variable {P : Program} {w : World} {K : PySem.W.Frag} {mg : Str → Option Value} {base : Heap} {f : Addr} {fd : FuncData} {CR : Addr}
structure TrcP (vs : List V) (H : Hp) (Q : VK) : Prop where
  ex : ∃ (t : Addr) (ps : List Nat) (m : Nat), vs = [.ref t, .int m] ∧ H t = some (.tup ((iL ps).map V.int)) ∧ ps ∈ PT ∧ 1 ≤ m ∧ m ≤ 200 ∧ ∀ (a b : Int) (H' : Hp), Same H H' → LowT (totX ps m (PySem.Float64.isqrt (4 * m))) 24 a b → Q (.int a) H'
def spTrc : Sp := fun vs H Q _ => TrcP vs H Q
set_option maxHeartbeats 8000000 in
theorem ok_trace_by_forms (F : FnD K "trace_by_forms" "trace_by_forms" s_P_trace_by_forms f fd) (T : Glob mg) (R : RatioK K CR) (C_P_check_primes : Cal P w K mg base 4 "check_primes" ["value"] spChkP) (C_P_check_many : Cal P w K mg base 2 "check_many" ["value"] (fun vs H Q _ => ∃ n : Nat, vs = [.int n] ∧ 1 ≤ n ∧ n ≤ 200 ∧ Q .non H)) (C_P_summand_of : Cal P w K mg base 7 "summand_of" ["primes", "number"] (spSum CR)) (O_Ratio : OwnK K CR) (M_Ratio_add : CalM P w K mg base 6 "__add__" CR ["self", "other"] (spRatOp CR (fun t b t2 b2 => t * b2 + t2 * b) (fun _ b _ b2 => b * b2)))
    (M_Ratio_mul : CalM P w K mg base 6 "__mul__" CR ["self", "other"] (spRatOp CR (fun t _ t2 _ => t * t2) (fun _ b _ b2 => b * b2))) (NR_Ratio_Mult : NoAttr K CR "__rmul__") : FnOk P w K mg base CX0 8 f fd ["primes", "many"] spTrc := by
  refine F.ok sc_P_trace_by_forms (fun vs H Q E h => ?_) (fun cdv A outer s H vs Q E hr h => ?_)
  · obtain ⟨t, ps, m, rfl, _⟩ := h.ex; rfl
  · obtain ⟨t, ps, m, rfl, ht, hps, m1, m2, q⟩ := h.ex
    refine ⟨_, PSs.nox (pss_cons (ps_expr (pe_cal C_P_check_primes (hr.mono (by decide)) (pa_cons (pv 0) pa_nil)))
      (pss_cons (ps_expr (pe_cal C_P_check_many (hr.mono (by decide)) (pa_cons (pv 1) pa_nil)))
      (pss_cons (ps_set (i := 2) sc_P_trace_by_forms.nd rfl (Or.inl rfl) (pe_cal C_P_summand_of (hr.mono (by decide)) (pa_cons (pv 0) (pa_cons (pe_op op_mulW pe_int (pv 1)) pa_nil))))
      (pss_cons (ps_for PassesOwn.never rfl (pi_range2 (by rfl) T.m_range (pa_cons pe_int (pa_cons (pe_op op_add (pe_callGB cr_isqrt (by rfl) T.m_isqrt (pa_cons (pe_op op_mulW pe_int (pv 1)) pa_nil)) pe_int) pa_nil))) (pg_name (i := 3) sc_P_trace_by_forms.nd rfl (Or.inl rfl)) (pss_one (ps_set (i := 2) sc_P_trace_by_forms.nd rfl (Or.inl rfl) (pe_op (op_own (M_Ratio_add.me.cast (by decide +kernel)) M_Ratio_add.ok (hr.mono (by decide)) M_Ratio_add.b pass0 O_Ratio.sf) (pv 2) (pe_op (op_ownI (M_Ratio_mul.me.cast (by decide +kernel)) M_Ratio_mul.ok (hr.mono (by decide)) M_Ratio_mul.b pass0 O_Ratio.sf NR_Ratio_Mult O_Ratio.si (fo := some (.builtin "int.__mul__")) (ro := some (.builtin "int.__rmul__")) (by kernel_rfl) (by kernel_rfl)) (pe_cal C_P_summand_of (hr.mono (by decide)) (pa_cons (pv 0) (pa_cons (pe_op op_sub (pe_op op_mulW pe_int (pv 1)) (pe_op op_mulW (pv 3) (pv 3))) pa_nil))) pe_int)))))
      (pss_one (ps_ret (pe_fld (pv 2) rfl))))))), ?_⟩
    have w4 : (4 : Int).natAbs < 2 ^ 3000 := by decide +kernel
    have wm : (m : Int).natAbs < 2 ^ 3000 := lt3000s (by omega) (by omega)
    refine ⟨_, rfl, t, ps, rfl, ht, hps, _, rfl, m, rfl, m1, m2, ?_⟩
    refine ⟨_, rfl, _, rfl, _, _, rfl, rfl, CMulW.of w4 wm, ⟨t, ps, 4 * (m : Int), rfl, ht, hps, by omega, by omega, fun x a b H1 e1 hR1 l1 => ?_⟩⟩
    have hRt := isqrt_small (n := 4 * m) (by omega)
    generalize eR : PySem.Float64.isqrt (4 * m) = Rt at hRt q
    refine ⟨_, rfl, _, _, rfl, rfl, CMulW.of w4 wm, 4 * m, congrArg (fun z : Int => [V.int z]) (by omega), by omega, ?_⟩
    rw [eR]
    refine ⟨_, _, rfl, rfl, 1, (Rt : Int) + 1, rfl, ⟨by decide, by decide, by omega, by omega⟩, ?_⟩
    rw [show ((Rt : Int) + 1 - 1).toNat = Rt by omega]
    refine for_range (lo := 1) (n := Rt) (fun i σ H' => ∃ y u v v3, σ = [some (.ref t), some (.int m), some (.ref y), v3] ∧ Same H H' ∧ RatioAt CR H' y u v ∧ LowT (totX ps m i) 24 u v ∧ (totX ps m i).natAbs ≤ 10000000 + 20000000 * i) ⟨x, a, b, none, rfl, e1, hR1, l1, by have := XI_bd hps (N := 4 * (m : Int)) (by omega); exact this⟩ ?_ ?_
    · rintro i σ H2 hi ⟨y, u, v, v3, rfl, e2, hR2, l2, hbd⟩
      have h4 := mod4_sq m (1 + (i : Int))
      have h0 := sq_nn (1 + (i : Int))
      have w1 : (1 + (i : Int)).natAbs < 2 ^ 3000 := lt3000s (by omega) (by omega)
      have hts := totX_succ ps m i
      rw [show (i : Int) + 1 = 1 + i from Int.add_comm _ _] at hts
      have hXb := XI_bd hps (N := 4 * (m : Int) - (1 + (i : Int)) * (1 + (i : Int))) (by omega)
      refine ⟨_, rfl, _, rfl, _, rfl, _, _, rfl, rfl, CMulW.of w4 wm, _, rfl, _, rfl, _, _, rfl, rfl, CMulW.of w1 w1, _, _, rfl, rfl, ⟨t, ps, 4 * (m : Int) - (1 + (i : Int)) * (1 + (i : Int)), rfl, e2 _ _ ht, hps, by omega, h4, fun x3 a3 b3 H3 e3 hR3 l3 => ?_⟩⟩
      obtain ⟨c1, c2, c3⟩ := lowT24 l3
      generalize XI ps (4 * (m : Int) - (1 + (i : Int)) * (1 + (i : Int))) = X at l3 hXb c3 hts
      refine ⟨x3, 2, rfl, rfl, hR3.ins, x3, .int 2, a3, b3, 2, 1, rfl, hR3, .int (by decide), Nat.lt_of_le_of_lt (by omega : a3.natAbs ≤ 10000000) (by decide +kernel), Nat.lt_of_le_of_lt (by omega : b3.natAbs ≤ 24) (by decide +kernel), by decide +kernel, by decide +kernel, by omega, fun a4 b4 x4 H4 l4 hx4 e4 hR4 => ?_⟩
      have l4' : LowT (2 * X) 24 a4 b4 := by
        obtain ⟨k1, k2, k3⟩ := l3
        obtain ⟨j1, j2, j3⟩ := l4
        refine ⟨j1, ?_, j3⟩
        refine Int.eq_of_mul_eq_mul_right (by omega : b3 ≠ 0) ?_
        have : 2 * X * b4 * b3 = 2 * (X * b3) * b4 := by grind
        rw [this, k2]
        have : 2 * (a3 * 24) * b4 = 24 * (a3 * 2 * b4) := by grind
        rw [this, j2]
        grind
      obtain ⟨d1, d2, d3⟩ := lowT24 l4'
      obtain ⟨f1, f2, f3⟩ := lowT24 l2
      have hR2' := (hR2.same e3).same e4
      refine ⟨y, x4, rfl, rfl, hR2'.ins, hR4.ins, y, .ref x4, u, v, a4, b4, rfl, hR2', .rat hR4, Nat.lt_of_le_of_lt (by omega : u.natAbs ≤ 10000000 + 20000000 * 44) (by decide +kernel), Nat.lt_of_le_of_lt (by omega : v.natAbs ≤ 24) (by decide +kernel), Nat.lt_of_le_of_lt (by omega : a4.natAbs ≤ 20000000) (by decide +kernel), Nat.lt_of_le_of_lt (by omega : b4.natAbs ≤ 24) (by decide +kernel), Int.mul_ne_zero (by omega) (by omega), fun a5 b5 x5 H5 l5 hx5 e5 hR5 => ?_⟩
      refine ⟨x5, a5, b5, some (.int (1 + (i : Int))), rfl, ((e2.trans e3).trans e4).trans e5, hR5, ?_, ?_⟩
      · rw [hts]
        have := lowT_add (u := 24) (k := 1) l2 l4' rfl l5
        rwa [Int.mul_one] at this
      · rw [hts]
        omega
    · rintro σ H2 ⟨y, u, v, v3, rfl, e2, hR2, l2, hbd⟩
      obtain ⟨dy, hy⟩ := id hR2
      refine ⟨_, rfl, y, CR, dy, _, .int u, rfl, hy, R.own.cls, R.nt, rfl, q u v H2 e2 l2⟩
end
end Sf

namespace Sf
open PySem PySem.Spec PyProof.Rows L2
section
variable {P : Program} {w : World} {K : PySem.W.Frag} {mg : Str → Option Value} {base : Heap} {f : Addr} {fd : FuncData}
structure OneOfP (K : PySem.W.Frag) (vs : List V) (H : Hp) (Q : VK) : Prop where
  ex : ∃ (p b : Addr) (xs items : List V) (n : Nat), vs = [.ref p, .ref b] ∧ H p = some (.lst xs) ∧ SackO n xs ∧ n ≤ 1000000 ∧ b ≠ p ∧ SqL K H b items ∧ 1 ≤ items.length ∧ items.length ≤ 1000000 ∧
  ∀ (v : V) (ys : List V), v ∈ items → SackO (n + 1) ys → Q v (upd H p (.lst ys))
def spOneOf (K : PySem.W.Frag) : Sp := fun vs H Q _ => OneOfP K vs H Q
theorem ok_pick (F : FnD K "_law_pick" "_law_pick" s_L_pick f fd) (T : Glob mg) (C_L_scoop : Cal P w K mg base 1 "_law_scoop" ["_law_jar_here", "_law_total"] spTake) : FnOk P w K mg base CX0 2 f fd ["_law_jar_here", "_law_items"] (spOneOf K) := by
  refine F.ok sc_L_pick (fun vs H Q E h => ?_) (fun cdv A outer s H vs Q E hr h => ?_)
  · obtain ⟨p, b, xs, items, n, rfl, _⟩ := h.ex; rfl
  · obtain ⟨p, b, xs, items, n, rfl, hp, hx, hn, hne, hS, hl0, hl1, q⟩ := h.ex
    refine ⟨_, PSs.nox (pss_one (ps_ret (pe_ix ix_list (pv 1) (pe_cal C_L_scoop (hr.mono (by decide)) (pa_cons (pv 0) (pa_cons (pe_callB call_len_seq (by rfl) T.m_len (by decide +kernel) (pa_cons (pv 1) pa_nil)) pa_nil))) (fun _ _ => rfl)))), ?_⟩
    refine ⟨_, rfl, _, rfl, _, rfl, b, _, rfl, .inl hS, ⟨p, xs, n, _, rfl, hp, hx, hn, by omega, ?_, fun r ys h0 h1 hy => ?_⟩⟩
    · exact Int.lt_trans (by omega : (items.length : Int) < 1000001) (by decide +kernel)
    · have hi : r.toNat < items.length := by omega
      have er : ((r.toNat : Nat) : Int) = r := by omega
      refine ⟨b, items, r, items[r.toNat], rfl, rfl, sq_upd hS hne, ?_, q _ ys (List.getElem_mem hi) hy⟩
      have z := atI_nat (List.getElem?_eq_getElem hi)
      rw [er] at z
      exact z
end
theorem one_of_new {K : PySem.W.Frag} {H : Hp} {p b : Addr} {n : Nat} {items : List V} {Q : VK} (hs : Sk p n H) (hn : n ≤ 1000000) (hb : H b = none) (h1 : 1 ≤ items.length) (h2 : items.length ≤ 1000000)
    (q : ∀ (v : V) (H' : Hp), v ∈ items → Keep p H H' → Sk p (n + 1) H' → Q v H') : OneOfP K [.ref p, .ref b] (upd H b (.lst items)) Q := by
  obtain ⟨xs, a, o⟩ := hs
  have npb : p ≠ b := ne_of_none a hb
  refine ⟨p, b, xs, items, n, rfl, by rw [upd_ne npb]; exact a, o, hn, npb.symm, SqL.of upd_same, h1, h2, fun v ys hv hy => q v _ hv ?_ ⟨ys, upd_same, hy⟩⟩
  exact (Keep.new hb).trans Keep.upd
end Sf

namespace Sf
open PySem PySem.Spec PyProof.Rows L2
/-- a tuple of primes that the law draws -/
def IsPT (H : Hp) (v : V) : Prop := ∃ (t : Addr) (ps : List Nat), v = .ref t ∧ H t = some (.tup ((iL ps).map V.int)) ∧ ps ∈ PT
theorem IsPT.of {H : Hp} {t : Addr} (ps : List Nat) (h : H t = some (.tup ((iL ps).map V.int))) (hp : ps ∈ PT) : IsPT H (.ref t) := ⟨t, ps, rfl, h, hp⟩
theorem IsPT.same {H H' : Hp} {v : V} (h : IsPT H v) (s : Same H H') : IsPT H' v := by
  obtain ⟨t, ps, e, h1, h2⟩ := h
  exact ⟨t, ps, e, s _ _ h1, h2⟩
section
variable {P : Program} {w : World} {K : PySem.W.Frag} {mg : Str → Option Value} {base : Heap} {f : Addr} {fd : FuncData}
structure PrmP (vs : List V) (H : Hp) (Q : VK) : Prop where
  ex : ∃ (p : Addr) (n : Nat), vs = [.ref p] ∧ Sk p n H ∧ n ≤ 1000000 ∧ ∀ (v : V) (H' : Hp), IsPT H' v → Keep p H H' → Sk p (n + 1) H' → Q v H'
def spPrm : Sp := fun vs H Q _ => PrmP vs H Q
set_option maxHeartbeats 16000000 in
theorem ok_primes (F : FnD K "_law_primes" "_law_primes" s_L_primes f fd) (C_L_pick : Cal P w K mg base 2 "_law_pick" ["_law_jar_here", "_law_items"] (spOneOf K)) : FnOk P w K mg base CX0 3 f fd ["_law_jar_here"] spPrm := by
  refine F.ok sc_L_primes (fun vs H Q E h => ?_) (fun cdv A outer s H vs Q E hr h => ?_)
  · obtain ⟨p, n, rfl, _⟩ := h.ex; rfl
  · obtain ⟨p, n, rfl, hs, hn, q⟩ := h.ex
    refine ⟨_, PSs.nox (pss_cons (ps_set (i := 1) sc_L_primes.nd rfl (Or.inl rfl) (pe_lst (pa_cons (pe_tup (pa_cons pe_int pa_nil)) (pa_cons (pe_tup (pa_cons pe_int pa_nil)) (pa_cons (pe_tup (pa_cons pe_int pa_nil)) (pa_cons (pe_tup (pa_cons pe_int pa_nil)) (pa_cons (pe_tup (pa_cons pe_int pa_nil)) (pa_cons (pe_tup (pa_cons pe_int pa_nil)) (pa_cons (pe_tup (pa_cons pe_int pa_nil)) (pa_cons (pe_tup (pa_cons pe_int pa_nil)) (pa_cons (pe_tup (pa_cons pe_int pa_nil)) (pa_cons (pe_tup (pa_cons pe_int pa_nil)) (pa_cons (pe_tup (pa_cons pe_int pa_nil)) (pa_cons (pe_tup (pa_cons pe_int pa_nil)) (pa_cons (pe_tup (pa_cons pe_int (pa_cons pe_int (pa_cons pe_int pa_nil)))) (pa_cons (pe_tup (pa_cons pe_int (pa_cons pe_int (pa_cons pe_int pa_nil)))) pa_nil))))))))))))))))
      (pss_one (ps_ret (pe_cal C_L_pick (hr.mono (by decide)) (pa_cons (pv 0) (pa_cons (pe_op op_cat (pv 1) (pe_lst (pa_cons (pe_tup (pa_cons pe_int (pa_cons pe_int (pa_cons pe_int pa_nil)))) (pa_cons (pe_tup (pa_cons pe_int (pa_cons pe_int (pa_cons pe_int pa_nil)))) (pa_cons (pe_tup (pa_cons pe_int (pa_cons pe_int (pa_cons pe_int pa_nil)))) (pa_cons (pe_tup (pa_cons pe_int (pa_cons pe_int (pa_cons pe_int pa_nil)))) (pa_cons (pe_tup (pa_cons pe_int (pa_cons pe_int (pa_cons pe_int pa_nil)))) pa_nil))))))) pa_nil)))))), ?_⟩
    refine ⟨(by show 1 ≤ sizeLine; decide), fun t0 h0 => ?_⟩
    have s0 := same_upd (o := .tup [.int 2]) h0
    have g0 : IsPT (upd H t0 (.tup [.int 2])) (.ref t0) := .of [2] upd_same (by decide)
    generalize upd H t0 (.tup [.int 2]) = G0 at s0 g0 ⊢
    refine ⟨(by show 1 ≤ sizeLine; decide), fun t1 h1 => ?_⟩
    have s1 := same_upd (o := .tup [.int 3]) h1
    have g1 : IsPT (upd G0 t1 (.tup [.int 3])) (.ref t1) := .of [3] upd_same (by decide)
    generalize upd G0 t1 (.tup [.int 3]) = G1 at s1 g1 ⊢
    refine ⟨(by show 1 ≤ sizeLine; decide), fun t2 h2 => ?_⟩
    have s2 := same_upd (o := .tup [.int 5]) h2
    have g2 : IsPT (upd G1 t2 (.tup [.int 5])) (.ref t2) := .of [5] upd_same (by decide)
    generalize upd G1 t2 (.tup [.int 5]) = G2 at s2 g2 ⊢
    refine ⟨(by show 1 ≤ sizeLine; decide), fun t3 h3 => ?_⟩
    have s3 := same_upd (o := .tup [.int 7]) h3
    have g3 : IsPT (upd G2 t3 (.tup [.int 7])) (.ref t3) := .of [7] upd_same (by decide)
    generalize upd G2 t3 (.tup [.int 7]) = G3 at s3 g3 ⊢
    refine ⟨(by show 1 ≤ sizeLine; decide), fun t4 h4 => ?_⟩
    have s4 := same_upd (o := .tup [.int 11]) h4
    have g4 : IsPT (upd G3 t4 (.tup [.int 11])) (.ref t4) := .of [11] upd_same (by decide)
    generalize upd G3 t4 (.tup [.int 11]) = G4 at s4 g4 ⊢
    refine ⟨(by show 1 ≤ sizeLine; decide), fun t5 h5 => ?_⟩
    have s5 := same_upd (o := .tup [.int 13]) h5
    have g5 : IsPT (upd G4 t5 (.tup [.int 13])) (.ref t5) := .of [13] upd_same (by decide)
    generalize upd G4 t5 (.tup [.int 13]) = G5 at s5 g5 ⊢
    refine ⟨(by show 1 ≤ sizeLine; decide), fun t6 h6 => ?_⟩
    have s6 := same_upd (o := .tup [.int 17]) h6
    have g6 : IsPT (upd G5 t6 (.tup [.int 17])) (.ref t6) := .of [17] upd_same (by decide)
    generalize upd G5 t6 (.tup [.int 17]) = G6 at s6 g6 ⊢
    refine ⟨(by show 1 ≤ sizeLine; decide), fun t7 h7 => ?_⟩
    have s7 := same_upd (o := .tup [.int 19]) h7
    have g7 : IsPT (upd G6 t7 (.tup [.int 19])) (.ref t7) := .of [19] upd_same (by decide)
    generalize upd G6 t7 (.tup [.int 19]) = G7 at s7 g7 ⊢
    refine ⟨(by show 1 ≤ sizeLine; decide), fun t8 h8 => ?_⟩
    have s8 := same_upd (o := .tup [.int 23]) h8
    have g8 : IsPT (upd G7 t8 (.tup [.int 23])) (.ref t8) := .of [23] upd_same (by decide)
    generalize upd G7 t8 (.tup [.int 23]) = G8 at s8 g8 ⊢
    refine ⟨(by show 1 ≤ sizeLine; decide), fun t9 h9 => ?_⟩
    have s9 := same_upd (o := .tup [.int 37]) h9
    have g9 : IsPT (upd G8 t9 (.tup [.int 37])) (.ref t9) := .of [37] upd_same (by decide)
    generalize upd G8 t9 (.tup [.int 37]) = G9 at s9 g9 ⊢
    refine ⟨(by show 1 ≤ sizeLine; decide), fun t10 h10 => ?_⟩
    have s10 := same_upd (o := .tup [.int 67]) h10
    have g10 : IsPT (upd G9 t10 (.tup [.int 67])) (.ref t10) := .of [67] upd_same (by decide)
    generalize upd G9 t10 (.tup [.int 67]) = G10 at s10 g10 ⊢
    refine ⟨(by show 1 ≤ sizeLine; decide), fun t11 h11 => ?_⟩
    have s11 := same_upd (o := .tup [.int 113]) h11
    have g11 : IsPT (upd G10 t11 (.tup [.int 113])) (.ref t11) := .of [113] upd_same (by decide)
    generalize upd G10 t11 (.tup [.int 113]) = G11 at s11 g11 ⊢
    refine ⟨(by show 3 ≤ sizeLine; decide), fun t12 h12 => ?_⟩
    have s12 := same_upd (o := .tup [.int 2, .int 3, .int 5]) h12
    have g12 : IsPT (upd G11 t12 (.tup [.int 2, .int 3, .int 5])) (.ref t12) := .of [2, 3, 5] upd_same (by decide)
    generalize upd G11 t12 (.tup [.int 2, .int 3, .int 5]) = G12 at s12 g12 ⊢
    refine ⟨(by show 3 ≤ sizeLine; decide), fun t13 h13 => ?_⟩
    have s13 := same_upd (o := .tup [.int 2, .int 3, .int 7]) h13
    have g13 : IsPT (upd G12 t13 (.tup [.int 2, .int 3, .int 7])) (.ref t13) := .of [2, 3, 7] upd_same (by decide)
    generalize upd G12 t13 (.tup [.int 2, .int 3, .int 7]) = G13 at s13 g13 ⊢
    refine ⟨(by show 14 ≤ sizeLine; decide), fun L hL => ?_⟩
    have sL := same_upd (o := .lst [.ref t0, .ref t1, .ref t2, .ref t3, .ref t4, .ref t5, .ref t6, .ref t7, .ref t8, .ref t9, .ref t10, .ref t11, .ref t12, .ref t13]) hL
    have gL : (upd G13 L (.lst [.ref t0, .ref t1, .ref t2, .ref t3, .ref t4, .ref t5, .ref t6, .ref t7, .ref t8, .ref t9, .ref t10, .ref t11, .ref t12, .ref t13])) L = some (.lst [.ref t0, .ref t1, .ref t2, .ref t3, .ref t4, .ref t5, .ref t6, .ref t7, .ref t8, .ref t9, .ref t10, .ref t11, .ref t12, .ref t13]) := upd_same
    generalize upd G13 L (.lst [.ref t0, .ref t1, .ref t2, .ref t3, .ref t4, .ref t5, .ref t6, .ref t7, .ref t8, .ref t9, .ref t10, .ref t11, .ref t12, .ref t13]) = GL at sL gL ⊢
    refine ⟨_, rfl, _, rfl, ?_⟩
    refine ⟨(by show 3 ≤ sizeLine; decide), fun t14 h14 => ?_⟩
    have s14 := same_upd (o := .tup [.int 2, .int 3, .int 11]) h14
    have g14 : IsPT (upd GL t14 (.tup [.int 2, .int 3, .int 11])) (.ref t14) := .of [2, 3, 11] upd_same (by decide)
    generalize upd GL t14 (.tup [.int 2, .int 3, .int 11]) = G14 at s14 g14 ⊢
    refine ⟨(by show 3 ≤ sizeLine; decide), fun t15 h15 => ?_⟩
    have s15 := same_upd (o := .tup [.int 2, .int 5, .int 7]) h15
    have g15 : IsPT (upd G14 t15 (.tup [.int 2, .int 5, .int 7])) (.ref t15) := .of [2, 5, 7] upd_same (by decide)
    generalize upd G14 t15 (.tup [.int 2, .int 5, .int 7]) = G15 at s15 g15 ⊢
    refine ⟨(by show 3 ≤ sizeLine; decide), fun t16 h16 => ?_⟩
    have s16 := same_upd (o := .tup [.int 2, .int 3, .int 19]) h16
    have g16 : IsPT (upd G15 t16 (.tup [.int 2, .int 3, .int 19])) (.ref t16) := .of [2, 3, 19] upd_same (by decide)
    generalize upd G15 t16 (.tup [.int 2, .int 3, .int 19]) = G16 at s16 g16 ⊢
    refine ⟨(by show 3 ≤ sizeLine; decide), fun t17 h17 => ?_⟩
    have s17 := same_upd (o := .tup [.int 3, .int 5, .int 7]) h17
    have g17 : IsPT (upd G16 t17 (.tup [.int 3, .int 5, .int 7])) (.ref t17) := .of [3, 5, 7] upd_same (by decide)
    generalize upd G16 t17 (.tup [.int 3, .int 5, .int 7]) = G17 at s17 g17 ⊢
    refine ⟨(by show 3 ≤ sizeLine; decide), fun t18 h18 => ?_⟩
    have s18 := same_upd (o := .tup [.int 2, .int 5, .int 11]) h18
    have g18 : IsPT (upd G17 t18 (.tup [.int 2, .int 5, .int 11])) (.ref t18) := .of [2, 5, 11] upd_same (by decide)
    generalize upd G17 t18 (.tup [.int 2, .int 5, .int 11]) = G18 at s18 g18 ⊢
    refine ⟨(by show 5 ≤ sizeLine; decide), fun M hM => ?_⟩
    have sM := same_upd (o := .lst [.ref t14, .ref t15, .ref t16, .ref t17, .ref t18]) hM
    have gM : (upd G18 M (.lst [.ref t14, .ref t15, .ref t16, .ref t17, .ref t18])) M = some (.lst [.ref t14, .ref t15, .ref t16, .ref t17, .ref t18]) := upd_same
    generalize upd G18 M (.lst [.ref t14, .ref t15, .ref t16, .ref t17, .ref t18]) = GM at sM gM ⊢
    have T18 := sM
    have T17 := s18.trans T18
    have T16 := s17.trans T17
    have T15 := s16.trans T16
    have T14 := s15.trans T15
    have TL := s14.trans T14
    have T13 := sL.trans TL
    have T12 := s13.trans T13
    have T11 := s12.trans T12
    have T10 := s11.trans T11
    have T9 := s10.trans T10
    have T8 := s9.trans T9
    have T7 := s8.trans T8
    have T6 := s7.trans T7
    have T5 := s6.trans T6
    have T4 := s5.trans T5
    have T3 := s4.trans T4
    have T2 := s3.trans T3
    have T1 := s2.trans T2
    have T0 := s1.trans T1
    have T := s0.trans T0
    have all : ∀ v ∈ ([.ref t0, .ref t1, .ref t2, .ref t3, .ref t4, .ref t5, .ref t6, .ref t7, .ref t8, .ref t9, .ref t10, .ref t11, .ref t12, .ref t13, .ref t14, .ref t15, .ref t16, .ref t17, .ref t18] : List V), IsPT GM v := by
      intro v hv
      rcases List.mem_cons.mp hv with e | hv
      · rw [e]; exact g0.same T0
      rcases List.mem_cons.mp hv with e | hv
      · rw [e]; exact g1.same T1
      rcases List.mem_cons.mp hv with e | hv
      · rw [e]; exact g2.same T2
      rcases List.mem_cons.mp hv with e | hv
      · rw [e]; exact g3.same T3
      rcases List.mem_cons.mp hv with e | hv
      · rw [e]; exact g4.same T4
      rcases List.mem_cons.mp hv with e | hv
      · rw [e]; exact g5.same T5
      rcases List.mem_cons.mp hv with e | hv
      · rw [e]; exact g6.same T6
      rcases List.mem_cons.mp hv with e | hv
      · rw [e]; exact g7.same T7
      rcases List.mem_cons.mp hv with e | hv
      · rw [e]; exact g8.same T8
      rcases List.mem_cons.mp hv with e | hv
      · rw [e]; exact g9.same T9
      rcases List.mem_cons.mp hv with e | hv
      · rw [e]; exact g10.same T10
      rcases List.mem_cons.mp hv with e | hv
      · rw [e]; exact g11.same T11
      rcases List.mem_cons.mp hv with e | hv
      · rw [e]; exact g12.same T12
      rcases List.mem_cons.mp hv with e | hv
      · rw [e]; exact g13.same T13
      rcases List.mem_cons.mp hv with e | hv
      · rw [e]; exact g14.same T14
      rcases List.mem_cons.mp hv with e | hv
      · rw [e]; exact g15.same T15
      rcases List.mem_cons.mp hv with e | hv
      · rw [e]; exact g16.same T16
      rcases List.mem_cons.mp hv with e | hv
      · rw [e]; exact g17.same T17
      rcases List.mem_cons.mp hv with e | hv
      · rw [e]; exact g18.same T18
      cases hv
    refine ⟨L, M, _, _, rfl, rfl, TL _ _ gL, gM, (by show 19 ≤ sizeLine; decide), fun N hN => ?_⟩
    refine one_of_new (n := n) (items := [.ref t0, .ref t1, .ref t2, .ref t3, .ref t4, .ref t5, .ref t6, .ref t7, .ref t8, .ref t9, .ref t10, .ref t11, .ref t12, .ref t13, .ref t14, .ref t15, .ref t16, .ref t17, .ref t18]) (hs.same T) hn hN (by show 1 ≤ 19; decide) (by show 19 ≤ 1000000; decide) fun v H' hv k1 s1 => ?_
    obtain ⟨t, ps, e, h1, h2⟩ := all v hv
    refine q v H' ⟨t, ps, e, k1 _ _ h1 fun z => ?_, h2⟩ ((Keep.same T).trans k1) s1
    obtain ⟨xs, a1, _⟩ := hs.same T
    rw [z, a1] at h1
    cases h1
end
end Sf

namespace Sf
open PySem PySem.Spec PyProof.Rows L2
/-- how many marks are not 1 -/
def cntB1 (n p : Nat) : List Nat → Nat
  | [] => 0
  | s :: l => cond (decide (mkN (n / (s * s)) p ≠ 1)) 1 0 + cntB1 n p l
theorem cntB1_snoc (n p s : Nat) : ∀ l, cntB1 n p (l ++ [s]) = cntB1 n p l + cond (decide (mkN (n / (s * s)) p ≠ 1)) 1 0
  | [] => by
    show _ + cntB1 n p [] = cntB1 n p [] + _
    rw [Nat.add_comm]
  | x :: l => by
    show _ + cntB1 n p (l ++ [s]) = _ + cntB1 n p l + _
    rw [cntB1_snoc n p s l, Nat.add_assoc]
/-- whether the law calls a number barred -/
def barB (n : Nat) (ps : List Nat) : Bool := ps.any fun p => cntB1 n p (sqParts n) == 0
section
variable {P : Program} {w : World} {K : PySem.W.Frag} {mg : Str → Option Value} {base : Heap} {f : Addr} {fd : FuncData}
structure BarP (vs : List V) (H : Hp) (Q : VK) : Prop where
  ex : ∃ (t : Addr) (ps : List Nat) (n : Nat), vs = [.ref t, .int n] ∧ H t = some (.tup ((iL ps).map V.int)) ∧ ps ∈ PT ∧ 1 ≤ n ∧ n ≤ 2000 ∧ ∀ H', Same H H' → Q (.bl (barB n ps)) H'
def spBar : Sp := fun vs H Q _ => BarP vs H Q
set_option maxHeartbeats 8000000 in
theorem ok_is_barred (F : FnD K "_law_is_barred" "_law_is_barred" s_L_is_barred f fd) (C_L_lowered : Cal P w K mg base 1 "_law_lowered" ["_law_number"] spLow) (C_L_mark : Cal P w K mg base 2 "_law_mark" ["_law_prime", "_law_number"] spMark) : FnOk P w K mg base CX0 3 f fd ["_law_primes_here", "_law_number"] spBar := by
  refine F.ok sc_L_is_barred (fun vs H Q E h => ?_) (fun cdv A outer s H vs Q E hr h => ?_)
  · obtain ⟨t, ps, n, rfl, _⟩ := h.ex; rfl
  · obtain ⟨t, ps, n, rfl, ht, hps, n1, n2, q⟩ := h.ex
    obtain ⟨ha, ho, h3, hpr, hpr1, hm12⟩ := PT_ok ps hps
    refine ⟨_, PSs.nox (pss_cons (ps_for PassesOwn.never rfl (pi_tup (pv 0)) (pg_name (i := 2) sc_L_is_barred.nd rfl (Or.inr rfl)) (pss_one (ps_if (pt_cmpR (op_eqD hr.units) (pe_lc rfl sc_L_is_barred.nd (own := [("_law_share", 3), ("_law_left_here", 4)]) (pi_list (pe_cal C_L_lowered (hr.mono (by decide)) (pa_cons (pv 1) pa_nil))) (blkOk_by (N := ["_law_primes_here", "_law_number", "_law_prime", "_law_share", "_law_left_here"]) (sc := defScope s_L_is_barred) (by decide +kernel)) (fun _ _ _ _ _ => pg_tupK (K := K) (n := 2) rfl (by rfl) (pgs_cons (pg_name (i := 3) sc_L_is_barred.nd rfl (Or.inl rfl)) (pgs_cons (pg_name (i := 4) sc_L_is_barred.nd rfl (Or.inl rfl)) pgs_nil))) (fun _ _ _ _ _ => pts_one (pt_cmpR op_ne (pe_cal C_L_mark (hr.mono (by decide)) (pa_cons (pv 2) (pa_cons (pv 4) pa_nil))) pe_int (nomark _))) (fun _ _ _ _ _ => (pv 4))) (pe_lst pa_nil) (nomark _)) (pss_one (ps_ret pe_bl)) pss_nil)))
      (pss_one (ps_ret pe_bl))), ?_⟩
    refine ⟨_, rfl, t, rfl, ⟨_, SqT.of ht⟩, for_tup (K := K) (a := t) (xs := (iL ps).map V.int) (fun i σ H' => ∃ v2, σ = [some (.ref t), some (.int n), v2, none, none] ∧ Same H H' ∧ (barB n (ps.take i)) = false) ⟨none, rfl, Same.refl H, rfl⟩ (fun i σ H' _ ⟨_, _, e, _⟩ => SqT.of (e _ _ ht)) ?_ ?_⟩
    · rintro i x σ H1 hx ⟨v2, rfl, e1, hb⟩
      obtain ⟨p, hp, rfl⟩ : ∃ p : Nat, ps[i]? = some p ∧ x = V.int p := by
        rw [List.getElem?_map, List.getElem?_map] at hx
        obtain ⟨z, h1, h2⟩ := Option.map_eq_some_iff.mp hx
        obtain ⟨y, h3, h4⟩ := Option.map_eq_some_iff.mp h1
        exact ⟨y, h3, by rw [← h2, ← h4]⟩
      have hmem := hm12 p (List.mem_of_getElem? hp)
      refine ⟨_, rfl, ⟨n, rfl, n1, n2, fun D ks H2 e2 hD hh hl => ?_⟩⟩
      refine ⟨D, rfl, ⟨_, SqL.of hD⟩, fun D2 hD2 => ?_⟩
      refine lc_list (K := K) (a := D) (xs := ks.map fun p => V.ref p.1) (fun l H' => Same H2 H' ∧ ∃ ys : List Int, H' D2 = some (.lst (ys.map V.int)) ∧ ys.length = cntB1 n p ((sqParts n).take l)) ⟨same_upd hD2, [], upd_same, rfl⟩ (fun i H' _ hp => SqL.of (hp.1 _ _ hD)) (fun l v H' hv hP => ?_) (fun H' hP => ?_)
      · obtain ⟨e3, ys, hd, hy⟩ := hP
        obtain ⟨pp, hpp, rfl, s', hs', hval⟩ : ∃ pp, pp ∈ ks ∧ v = V.ref pp.1 ∧ ∃ s', (sqParts n)[l]? = some s' ∧ pp.2 = pairL n s' := by
          rw [List.getElem?_map] at hv
          obtain ⟨z, h1, h2⟩ := Option.map_eq_some_iff.mp hv
          have h3 := congrArg (fun z => z[l]?) hl
          unfold lowL at h3
          simp only [List.getElem?_map] at h3
          rw [h1] at h3
          obtain ⟨s', h4, h5⟩ := Option.map_eq_some_iff.mp h3.symm
          exact ⟨z, List.mem_of_getElem? h1, h2.symm, s', h4, h5.symm⟩
        have hz := e3 _ _ (hh pp hpp)
        rw [hval] at hz
        obtain ⟨q1, q2, q3⟩ := sqP_mem _ (List.mem_of_getElem? hs')
        obtain ⟨r1, r2⟩ := sqT_iff.mp q3
        have hsn : cntB1 n p ((sqParts n).take (l + 1)) = cntB1 n p ((sqParts n).take l) + cond (decide (mkN (n / (s' * s')) p ≠ 1)) 1 0 := by
          rw [List.take_add_one, hs']
          exact cntB1_snoc n p s' _
        have hL1 : 1 ≤ n / (s' * s') := by
          have hpos : 0 < s' * s' := Nat.mul_pos (by omega) (by omega)
          rcases Nat.lt_or_ge (n / (s' * s')) 1 with z | z
          · have z0 : n / (s' * s') = 0 := Nat.lt_one_iff.mp z
            have e5 := Nat.div_add_mod n (s' * s')
            rw [z0, r1, Nat.mul_zero] at e5
            omega
          · exact z
        have hL2 : n / (s' * s') ≤ n := Nat.div_le_self _ _
        have hly : ys.length ≤ l := by
          rw [hy]
          have : ∀ xs : List Nat, cntB1 n p xs ≤ xs.length := fun xs => by
            induction xs with
            | nil => exact Nat.le_refl _
            | cons x xs ih =>
              show cond (decide (mkN (n / (x * x)) p ≠ 1)) 1 0 + cntB1 n p xs ≤ xs.length + 1
              cases decide (mkN (n / (x * x)) p ≠ 1) <;> simp <;> omega
          exact Nat.le_trans (this _) (List.length_take_le _ _)
        have hl44 : l < 45 := by
          have h5 := (List.getElem?_eq_some_iff.mp hs').1
          have h6 := sqP_len n (PySem.Float64.isqrt n)
          have h7 := isqrt_small (n := n) n2
          unfold sqParts at h5
          omega
        unfold pairL at hz
        generalize n / (s' * s') = left at *
        refine ⟨pp.1, _, rfl, .inl (.inl hz), rfl, _, _, rfl, _, _, rfl, rfl, ?_⟩
        refine ⟨rfl, ?_⟩
        refine ⟨_, rfl, _, rfl, p, left, rfl, hmem, hL1, by omega, r2, fun H4 e4 => ⟨rfl, _, rfl, ?_⟩⟩
        by_cases c : mkN left p = 1
        · rw [show decide (mkN left p ≠ 1) = false from decide_eq_false (fun z => z c), cond_false, Nat.add_zero] at hsn
          rw [c]
          exact (if_neg (by simp)).mpr ⟨e3.trans e4, ys, e4 _ _ hd, by rw [hsn]; exact hy⟩
        · rw [show decide (mkN left p ≠ 1) = true from decide_eq_true c, cond_true] at hsn
          refine (if_pos (by simpa using c)).mpr ⟨_, rfl, _, e4 _ _ hd, ?_, ?_, ys ++ [(left : Int)], ?_, ?_⟩
          · rw [List.length_map]
            exact Nat.lt_of_lt_of_le (by omega : ys.length < 1000000) (by decide)
          · intro b o z
            rw [upd_ne (ne_of_none z hD2)]
            exact e4 _ _ (e3 _ _ z)
          · rw [upd_same, List.map_append]
            rfl
          · rw [List.length_append, hy, hsn]
            rfl
      · obtain ⟨e3, ys, hd, hy⟩ := hP
        have el : (ks.map fun p => V.ref p.1).length = (sqParts n).length := by
          have h0 := congrArg List.length hl
          unfold lowL at h0
          rw [List.length_map, List.length_map] at h0
          rw [List.length_map, h0]
        rw [el, List.take_length] at hy
        have hstep : barB n (ps.take (i + 1)) = (cntB1 n p (sqParts n) == 0) := by
          unfold barB at hb ⊢
          rw [List.take_add_one, hp, List.any_append, hb]
          show (false || ((cntB1 n p (sqParts n) == 0) || false)) = _
          rw [Bool.or_false, Bool.false_or]
        refine ⟨(by show 0 ≤ sizeLine; decide), fun N hN => ⟨_, _, dp_list (ns := ys) (SqL.of (same_upd hN _ _ hd)), dp_list (ns := []) (SqL.of upd_same), shp_list _, shp_list _, ?_⟩⟩
        rw [show PyData.eqv (.list (ys.map PyData.int)) (.list (([] : List Int).map PyData.int)) = decide (cntB1 n p (sqParts n) = 0) by rw [show (.list (([] : List Int).map PyData.int) : PyData) = .list [] from rfl, eqv_nilL, List.length_map, hy]]
        have e4 := ((e1.trans e2).trans e3).trans (same_upd (o := .lst []) hN)
        refine ⟨_, rfl, ?_⟩
        by_cases c : cntB1 n p (sqParts n) = 0
        · rw [decide_eq_true c]
          refine iteT ?_
          have hall : barB n ps = true := by
            unfold barB
            rw [List.any_eq_true]
            exact ⟨p, List.mem_of_getElem? hp, by rw [c]; rfl⟩
          have z := q _ e4
          rw [hall] at z
          exact z
        · rw [decide_eq_false c]
          refine (if_neg (by decide)).mpr ⟨some (.int p), rfl, e4, ?_⟩
          rw [hstep]
          exact beq_eq_false_iff_ne.mpr c
    · rintro σ H1 ⟨v2, rfl, e1, hb⟩
      rw [show ((iL ps).map V.int).length = ps.length by rw [List.length_map, List.length_map], List.take_length] at hb
      have z := q H1 e1
      rw [hb] at z
      exact z
end
end Sf

namespace Sf
/-! what is finite -/
def sumK (ps : List Nat) (n : Nat) : List Nat → Int
  | [] => 0
  | s :: l => ((cls (n / (s * s)) : Nat) : Int) * prodM (n / (s * s)) ps * multN (n / (s * s)) + sumK ps n l
theorem sumK_eq (ps : List Nat) (n : Nat) : ∀ l, sumL ps n l = sumK ps n l
  | [] => rfl
  | s :: l => by
    show _ + sumL ps n l = _ + sumK ps n l
    rw [sumK_eq ps n l, formsP_len]
def XK (ps : List Nat) (n : Nat) : Int := if n = 0 then (totN ps : Int) else sumK ps n (sqParts n)
theorem XK_eq (ps : List Nat) (n : Nat) : XN ps n = XK ps n := by
  unfold XN XK
  rw [sumK_eq]
/-- the values of XK for one tuple, of the numbers up to 120 -/
def clsV (ps : List Nat) : Int :=
  ((ps.map fun p : Nat => (p : Int) - 1).foldl (· * ·) 1 + 3 * (ps.map fun p : Nat => (1 : Int) - (if p = 2 then 0 else if p % 4 = 1 then 1 else -1)).foldl (· * ·) 1 + 4 * (ps.map fun p : Nat => (1 : Int) - (if p = 3 then 0 else if p % 3 = 1 then 1 else -1)).foldl (· * ·) 1) / 12
def totK (v : Nat → Int) (m : Nat) : Int := Nat.rec (v (4 * m)) (fun j ih => cond (Nat.ble ((j + 1) * (j + 1)) (4 * m)) (ih + 2 * v (4 * m - (j + 1) * (j + 1))) ih) 12
theorem fin_bar : ∀ ps ∈ PT, ∀ n : Fin 121, n.1 = 0 ∨ (n.1 % 4 = 1 ∨ n.1 % 4 = 2) ∨ decide (XK ps n.1 = 0) = barB n.1 ps := by decide +kernel
theorem fin_tot : ∀ ps ∈ PT, ∀ m : Fin 30, totK (XK ps) (m.1 + 1) % 24 = 0 := by decide +kernel
theorem fin_cls : ∀ ps ∈ PT, totK (XK ps) 1 = 24 * clsV ps := by decide +kernel
end Sf

namespace Sf
open PySem PySem.Spec PyProof.Rows L2
theorem look_two (p : Nat) (d : Int) (q : Int) : (valV (mergeK [] [((Sum.inl d : Key), V.int 0)]) (Sum.inl (p : Int))).getD (.int q) = .int (if (p : Int) = d then 0 else q) := by
  rw [show mergeK [] [((Sum.inl d : Key), V.int 0)] = [((Sum.inl d : Key), V.int 0)] from rfl]
  unfold valV
  by_cases h : (p : Int) = d
  · rw [if_pos h, h]
    simp
  · rw [if_neg h]
    have n3 : ¬ (Sum.inl d : Key) = Sum.inl (p : Int) := fun e => by
      injection e with e
      omega
    rw [List.find?_cons_of_neg (by simpa using n3)]
    rfl
section
variable {P : Program} {w : World} {K : PySem.W.Frag} {mg : Str → Option Value} {base : Heap} {f : Addr} {fd : FuncData}
def cl1 (ps : List Nat) : Int := (ps.map fun p : Nat => (p : Int) - 1).foldl (· * ·) 1
def cl2 (ps : List Nat) : Int := (ps.map fun p : Nat => (1 : Int) - (if p = 2 then 0 else if p % 4 = 1 then 1 else -1)).foldl (· * ·) 1
def cl3 (ps : List Nat) : Int := (ps.map fun p : Nat => (1 : Int) - (if p = 3 then 0 else if p % 3 = 1 then 1 else -1)).foldl (· * ·) 1
theorem cl_step : ∀ ps ∈ PT, ∀ i, i < ps.length → cl1 (ps.take (i + 1)) = cl1 (ps.take i) * ((ps.getD i 0 : Int) - 1) ∧ cl2 (ps.take (i + 1)) = cl2 (ps.take i) * (1 - (if ps.getD i 0 = 2 then 0 else if ps.getD i 0 % 4 = 1 then 1 else -1)) ∧ cl3 (ps.take (i + 1)) = cl3 (ps.take i) * (1 - (if ps.getD i 0 = 3 then 0 else if ps.getD i 0 % 3 = 1 then 1 else -1)) ∧ (cl1 (ps.take i)).natAbs ≤ 100000 ∧ (cl2 (ps.take i)).natAbs ≤ 100000 ∧ (cl3 (ps.take i)).natAbs ≤ 100000 := by
  have h : ∀ ps ∈ PT, ∀ i : Fin 3, i.1 < ps.length → cl1 (ps.take (i.1 + 1)) = cl1 (ps.take i.1) * ((ps.getD i.1 0 : Int) - 1) ∧ cl2 (ps.take (i.1 + 1)) = cl2 (ps.take i.1) * (1 - (if ps.getD i.1 0 = 2 then 0 else if ps.getD i.1 0 % 4 = 1 then 1 else -1)) ∧ cl3 (ps.take (i.1 + 1)) = cl3 (ps.take i.1) * (1 - (if ps.getD i.1 0 = 3 then 0 else if ps.getD i.1 0 % 3 = 1 then 1 else -1)) ∧ (cl1 (ps.take i.1)).natAbs ≤ 100000 ∧ (cl2 (ps.take i.1)).natAbs ≤ 100000 ∧ (cl3 (ps.take i.1)).natAbs ≤ 100000 := by decide +kernel
  intro ps hps i hi
  have h3 := (PT_ok ps hps).2.2.1
  exact h ps hps ⟨i, by omega⟩ hi
theorem cl_end : ∀ ps ∈ PT, (cl1 ps + 3 * cl2 ps + 4 * cl3 ps) / 12 = clsV ps ∧ (cl1 ps).natAbs ≤ 100000 ∧ (cl2 ps).natAbs ≤ 100000 ∧ (cl3 ps).natAbs ≤ 100000 := by decide +kernel
structure ClsP (vs : List V) (H : Hp) (Q : VK) : Prop where
  ex : ∃ (t : Addr) (ps : List Nat), vs = [.ref t] ∧ H t = some (.tup ((iL ps).map V.int)) ∧ ps ∈ PT ∧ ∀ H', Same H H' → Q (.int (clsV ps)) H'
def spCls : Sp := fun vs H Q _ => ClsP vs H Q
set_option maxHeartbeats 8000000 in
theorem ok_classes (F : FnD K "_law_classes" "_law_classes" s_L_classes f fd) : FnOk P w K mg base CX0 1 f fd ["_law_primes_here"] spCls := by
  refine F.ok sc_L_classes (fun vs H Q E h => ?_) (fun cdv A outer s H vs Q E hr h => ?_)
  · obtain ⟨t, ps, rfl, _⟩ := h.ex; rfl
  · obtain ⟨t, ps, rfl, ht, hps, q⟩ := h.ex
    have hu := hu_of hr
    obtain ⟨ha, ho, h3, hpr, hpr1, hm12⟩ := PT_ok ps hps
    refine ⟨_, PSs.nox (pss_cons (ps_asg (pe_tup (pa_cons pe_int (pa_cons pe_int (pa_cons pe_int pa_nil)))) (pg_tup (by rfl) (pgs_cons (pg_name (i := 1) sc_L_classes.nd rfl (Or.inl rfl)) (pgs_cons (pg_name (i := 2) sc_L_classes.nd rfl (Or.inl rfl)) (pgs_cons (pg_name (i := 3) sc_L_classes.nd rfl (Or.inl rfl)) pgs_nil)))))
      (pss_cons (ps_for PassesOwn.never rfl (pi_tup (pv 0)) (pg_name (i := 4) sc_L_classes.nd rfl (Or.inl rfl)) (pss_cons (ps_set (i := 1) sc_L_classes.nd rfl (Or.inl rfl) (pe_op op_mulW (pv 1) (pe_op op_sub (pv 4) pe_int)))
      (pss_cons (ps_set (i := 2) sc_L_classes.nd rfl (Or.inl rfl) (pe_op op_mulW (pv 2) (pe_op op_sub pe_int (pe_dget2 hu (pe_disp (pps_cons pe_int pe_int pps_nil) (by rfl) (by rfl) (fun z => by cases z) (by decide)) (pv 4) (pe_cut (pe_ifExp (pt_cmp (pc_eqI (pe_op op_mod (pv 4) pe_int) pe_int)) pe_int (pe_un un_neg pe_int))) ⟨rfl, rfl, rfl, rfl⟩))))
      (pss_one (ps_set (i := 3) sc_L_classes.nd rfl (Or.inl rfl) (pe_op op_mulW (pv 3) (pe_op op_sub pe_int (pe_dget2 hu (pe_disp (pps_cons pe_int pe_int pps_nil) (by rfl) (by rfl) (fun z => by cases z) (by decide)) (pv 4) (pe_cut (pe_ifExp (pt_cmp (pc_eqI (pe_op op_mod (pv 4) pe_int) pe_int)) pe_int (pe_un un_neg pe_int))) ⟨rfl, rfl, rfl, rfl⟩))))))))
      (pss_one (ps_ret (pe_op op_fdivW (pe_op op_add (pe_op op_add (pv 1) (pe_op op_mulW pe_int (pv 2))) (pe_op op_mulW pe_int (pv 3))) pe_int))))), ?_⟩
    refine ⟨(by show 3 ≤ sizeLine; decide), fun tt htt => ⟨tt, _, rfl, .inl (.inl upd_same), rfl, _, _, rfl, _, _, rfl, _, _, rfl, rfl, ?_⟩⟩
    have e0 := same_upd (o := .tup [.int 1, .int 1, .int 1]) htt
    refine ⟨_, rfl, t, rfl, ⟨_, SqT.of (e0 _ _ ht)⟩, for_tup (K := K) (a := t) (xs := (iL ps).map V.int) (fun i σ H' => ∃ v4, σ = [some (.ref t), some (.int (cl1 (ps.take i))), some (.int (cl2 (ps.take i))), some (.int (cl3 (ps.take i))), v4] ∧ Same H H') ⟨none, rfl, e0⟩ (fun i σ H' _ ⟨_, _, e⟩ => SqT.of (e _ _ ht)) ?_ ?_⟩
    · rintro i x σ H1 hx ⟨v4, rfl, e1⟩
      obtain ⟨p, hp, rfl⟩ : ∃ p : Nat, ps[i]? = some p ∧ x = V.int p := by
        rw [List.getElem?_map, List.getElem?_map] at hx
        obtain ⟨z, h1, h2⟩ := Option.map_eq_some_iff.mp hx
        obtain ⟨y, h3, h4⟩ := Option.map_eq_some_iff.mp h1
        exact ⟨y, h3, by rw [← h2, ← h4]⟩
      have hi := (List.getElem?_eq_some_iff.mp hp).1
      have hst := cl_step ps hps i hi
      rw [List.getD_eq_getElem?_getD, hp] at hst
      simp only [Option.getD_some] at hst
      obtain ⟨c1, c2, c3, d1, d2, d3⟩ := hst
      have hbd := L12_bd p (hm12 p (List.mem_of_getElem? hp))
      refine ⟨_, rfl, _, rfl, _, _, rfl, rfl, _, _, rfl, rfl, CMulW.of (lt3000s (by omega) (by omega)) (lt3000s (by omega) (by omega)), ?_⟩
      refine ⟨_, rfl, ?_⟩
      intro d1 hd1
      refine ⟨upd_same, [((Sum.inl 2 : Key), V.int 0)], rfl, by decide, d1, rfl, .inl ⟨_, .inl upd_same⟩, _, rfl, fun x H' => x = .int (if p % 4 = 1 then 1 else -1) ∧ upd (upd H1 d1 (.dK [])) d1 (.dK (mergeK [] [((Sum.inl 2 : Key), V.int 0)])) = H', ?_, ?_⟩
      · refine ⟨_, rfl, _, _, rfl, rfl, (by show (0 : Int) < 4; decide), _, _, rfl, rfl, _, rfl, ifd (fun h => ?_) (fun h => ?_)⟩
        · rw [if_pos (show p % 4 = 1 by omega)]
          exact ⟨rfl, rfl⟩
        · rw [if_neg (show ¬ p % 4 = 1 by omega)]
          exact ⟨1, rfl, rfl, rfl⟩
      rintro _ _ ⟨rfl, rfl⟩
      refine ⟨_, DGet.k (k := Sum.inl (p : Int)) upd_same, ?_⟩
      have E1 : Same H1 (upd (upd H1 d1 (.dK [])) d1 (.dK (mergeK [] [((Sum.inl 2 : Key), V.int 0)]))) := fun o u z => by
        rw [upd_ne (ne_of_none z hd1), upd_ne (ne_of_none z hd1)]
        exact z
      rw [look_two]
      generalize upd (upd H1 d1 _) d1 _ = G1 at E1 ⊢
      have ei1 : (if (p : Int) = 2 then (0 : Int) else (if p % 4 = 1 then 1 else -1)) = (if p = 2 then 0 else if p % 4 = 1 then 1 else -1) := by
        by_cases c : p = 2
        · rw [if_pos (by omega), if_pos c]
        · rw [if_neg (by omega), if_neg c]
      have bd1 : (1 - (if (p : Int) = 2 then (0 : Int) else (if p % 4 = 1 then 1 else -1))).natAbs < 2 ^ 3000 := lt3000s (by split; decide; split <;> decide) (by split; decide; split <;> decide)
      refine ⟨_, _, rfl, rfl, _, _, rfl, rfl, CMulW.of (lt3000s (by omega) (by omega)) bd1, ?_⟩
      refine ⟨_, rfl, ?_⟩
      intro d2 hd2
      refine ⟨upd_same, [((Sum.inl 3 : Key), V.int 0)], rfl, by decide, d2, rfl, .inl ⟨_, .inl upd_same⟩, _, rfl, fun x H' => x = .int (if p % 3 = 1 then 1 else -1) ∧ upd (upd G1 d2 (.dK [])) d2 (.dK (mergeK [] [((Sum.inl 3 : Key), V.int 0)])) = H', ?_, ?_⟩
      · refine ⟨_, rfl, _, _, rfl, rfl, (by show (0 : Int) < 3; decide), _, _, rfl, rfl, _, rfl, ifd (fun h => ?_) (fun h => ?_)⟩
        · rw [if_pos (show p % 3 = 1 by omega)]
          exact ⟨rfl, rfl⟩
        · rw [if_neg (show ¬ p % 3 = 1 by omega)]
          exact ⟨1, rfl, rfl, rfl⟩
      rintro _ _ ⟨rfl, rfl⟩
      refine ⟨_, DGet.k (k := Sum.inl (p : Int)) upd_same, ?_⟩
      have E2 : Same G1 (upd (upd G1 d2 (.dK [])) d2 (.dK (mergeK [] [((Sum.inl 3 : Key), V.int 0)]))) := fun o u z => by
        rw [upd_ne (ne_of_none z hd2), upd_ne (ne_of_none z hd2)]
        exact z
      rw [look_two]
      generalize upd (upd G1 d2 _) d2 _ = G2 at E2 ⊢
      have ei2 : (if (p : Int) = 3 then (0 : Int) else (if p % 3 = 1 then 1 else -1)) = (if p = 3 then 0 else if p % 3 = 1 then 1 else -1) := by
        by_cases c : p = 3
        · rw [if_pos (by omega), if_pos c]
        · rw [if_neg (by omega), if_neg c]
      have bd2 : (1 - (if (p : Int) = 3 then (0 : Int) else (if p % 3 = 1 then 1 else -1))).natAbs < 2 ^ 3000 := lt3000s (by split; decide; split <;> decide) (by split; decide; split <;> decide)
      refine ⟨_, _, rfl, rfl, _, _, rfl, rfl, CMulW.of (lt3000s (by omega) (by omega)) bd2, ?_⟩
      refine ⟨some (.int p), ?_, (e1.trans E1).trans E2⟩
      rw [c1, c2, c3, ← ei1, ← ei2]
      rfl
    · rintro σ H1 ⟨v4, rfl, e1⟩
      rw [show ((iL ps).map V.int).length = ps.length by rw [List.length_map, List.length_map], List.take_length]
      obtain ⟨e2, d1, d2, d3⟩ := cl_end ps hps
      have z := q H1 e1
      rw [← e2] at z
      exact ⟨_, rfl, _, rfl, _, _, rfl, rfl, CMulW.of (by decide +kernel) (lt3000s (by omega) (by omega)), _, _, rfl, rfl, _, rfl, _, _, rfl, rfl, CMulW.of (by decide +kernel) (lt3000s (by omega) (by omega)), _, _, rfl, rfl, _, _, rfl, rfl, CDivW.of (by decide) (by decide +kernel), z⟩
end
end Sf

namespace Sf
/-! the program's total is the law's -/
def XIK (ps : List Nat) (N : Int) : Int := if N < 0 then 0 else XK ps N.toNat
theorem XIK_eq (ps : List Nat) (N : Int) : XI ps N = XIK ps N := by
  unfold XI XIK
  rw [XK_eq]
def totXK (ps : List Nat) (m k : Nat) : Int := Nat.rec (XIK ps (4 * (m : Int))) (fun j ih => ih + 2 * XIK ps (4 * (m : Int) - ((j : Int) + 1) * ((j : Int) + 1))) k
theorem totXK_eq (ps : List Nat) (m : Nat) : ∀ k, totX ps m k = totXK ps m k
  | 0 => XIK_eq _ _
  | k + 1 => by
    rw [totX_succ, totXK_eq ps m k, XIK_eq]
    rfl
theorem fin_same : ∀ ps ∈ PT, ∀ m : Fin 30, totXK ps (m.1 + 1) (PySem.Float64.isqrt (4 * (m.1 + 1))) = totK (XK ps) (m.1 + 1) := by decide +kernel
/-- lowest terms of a multiple of 24 -/
theorem low_whole {X t b : Int} (h : LowT X 24 t b) (hX : X % 24 = 0) : t = X / 24 := by
  obtain ⟨h1, h2, h3⟩ := h
  obtain ⟨c, rfl⟩ : ∃ c, X = 24 * c := ⟨X / 24, by omega⟩
  have e : t = c * b := by
    have : 24 * (c * b) = 24 * t := by rw [← Int.mul_assoc, h2, Int.mul_comm]
    omega
  have d : b.natAbs ∣ t.natAbs := Int.natAbs_dvd_natAbs.mpr ⟨c, by rw [e, Int.mul_comm]⟩
  have hb : b.natAbs = 1 := by
    have := Nat.gcd_eq_right d
    omega
  have hb1 : b = 1 := by omega
  rw [e, hb1, Int.mul_one]
  omega
end Sf

namespace Sf
open PySem PySem.Spec PyProof.Rows L2
theorem lowT_uni24 {X t b t' b' : Int} (h : LowT X 24 t b) (g : LowT X 24 t' b') : t = t' ∧ b = b' := by
  obtain ⟨h1, h2, h3⟩ := h
  obtain ⟨g1, g2, g3⟩ := g
  have e : t * b' = t' * b := by
    have : 24 * (t * b') = 24 * (t' * b) := by
      have a1 : 24 * (t * b') = (t * 24) * b' := by grind
      have a2 : 24 * (t' * b) = (t' * 24) * b := by grind
      rw [a1, a2, ← h2, ← g2]
      grind
    omega
  have en : t.natAbs * b'.natAbs = t'.natAbs * b.natAbs := by
    have := congrArg Int.natAbs e
    rwa [Int.natAbs_mul, Int.natAbs_mul] at this
  have d1 : b.natAbs ∣ b'.natAbs := by
    have hc : Nat.Coprime b.natAbs t.natAbs := by unfold Nat.Coprime; rw [Nat.gcd_comm]; exact h3
    exact Nat.Coprime.dvd_of_dvd_mul_left hc ⟨t'.natAbs, by rw [en, Nat.mul_comm]⟩
  have d2 : b'.natAbs ∣ b.natAbs := by
    have hc : Nat.Coprime b'.natAbs t'.natAbs := by unfold Nat.Coprime; rw [Nat.gcd_comm]; exact g3
    exact Nat.Coprime.dvd_of_dvd_mul_left hc ⟨t.natAbs, by rw [← en, Nat.mul_comm]⟩
  have eb : b.natAbs = b'.natAbs := Nat.dvd_antisymm d1 d2
  have eb2 : b = b' := by omega
  subst eb2
  exact ⟨Int.eq_of_mul_eq_mul_right (by omega) e, rfl⟩
end Sf

namespace Sf
open PySem PySem.Spec PyProof.Rows L2
/-- the law's total behind the first k traces from -12 on -/
def sumT (ps : List Nat) (m k : Nat) : Int := Nat.rec 0 (fun j ih => ih + XIK ps (4 * (m : Int) - (-12 + (j : Int)) * (-12 + (j : Int)))) k
theorem sumT_succ (ps : List Nat) (m k : Nat) : sumT ps m (k + 1) = sumT ps m k + XIK ps (4 * (m : Int) - (-12 + (k : Int)) * (-12 + (k : Int))) := rfl
theorem fin_sumT : ∀ ps ∈ PT, ∀ m : Fin 30, sumT ps (m.1 + 1) 25 = totK (XK ps) (m.1 + 1) := by decide +kernel
end Sf

namespace Sf
open PySem PySem.Spec PyProof.Rows L2
/-- the text of a ratio -/
def ratS (t b : Int) : Str := if b = 1 then ((toString t : String) : Str) else ((toString t : String) : Str) ++ (("/" : String) : Str) ++ ((toString b : String) : Str)
theorem rst_ext {a b : Str} (h : a.cps = b.cps) : a = b := by
  cases a; cases b; cases h; rfl
theorem rst_nil (a : Str) : Str.empty ++ a = a := rst_ext (Array.empty_append)
theorem rst_len (a b : Str) : (a ++ b).length = a.length + b.length := Array.size_append
theorem rst_num {n : Int} (h : n.natAbs < 10 ^ 300) : ((toString n : String) : Str).length ≤ 301 := by
  rw [PySem.ofString_length]
  exact int_text_length_le10 (by decide) h
theorem rst_log {n : Int} (h : n.natAbs < 10 ^ 300) : n.natAbs.log2 < 1920 := by
  have h2 : n.natAbs < 2 ^ 1920 := Nat.lt_trans h (by decide +kernel)
  by_cases z : n.natAbs = 0
  · rw [z]; decide
  · exact (Nat.log2_lt z).mpr h2
section
variable {P : Program} {w : World} {K : PySem.W.Frag} {mg : Str → Option Value} {base : Heap} {f : Addr} {fd : FuncData} {CR : Addr}
def spRStr (CR : Addr) : Sp := fun vs H Q _ => ∃ (a : Addr) (t b : Int), vs = [.ref a] ∧ RatioAt CR H a t b ∧ t.natAbs < 10 ^ 300 ∧ b.natAbs < 10 ^ 300 ∧ Q (.str (ratS t b)) H
theorem ok_Ratio_str (F : FnD K "__str__" "Ratio.__str__" s_P_Ratio___str__ f fd) (T : Glob mg) (R : RatioK K CR) : FnOk P w K mg base CX0 1 f fd ["self"] (spRStr CR) := by
  refine F.ok sc_P_Ratio___str__ (fun vs H Q E h => ?_) (fun cdv A outer s H vs Q E hr h => ?_)
  · obtain ⟨a, t, b, rfl, _⟩ := h; rfl
  · obtain ⟨a, t, b, rfl, ⟨dx, ha⟩, t1, b1, q⟩ := h
    refine ⟨_, PSs.nox (pss_cons (ps_if (pt_cmp (pc_eqI (pe_fld (pv 0) rfl) pe_int)) (pss_one (ps_ret (pe_callTy call_str_int (by rfl) T.m_str (by decide +kernel) (pa_cons (pe_fld (pv 0) rfl) pa_nil)))) pss_nil)
      (pss_one (ps_ret (pe_joined (PJ.cons (pe_fmt (pe_fld (pv 0) rfl)) (PJ.cons pe_str (PJ.cons (pe_fmt (pe_fld (pv 0) rfl)) PJ.nil))))))), ?_⟩
    have n1 := rst_num t1
    have n2 := rst_num b1
    have big : 2000 ≤ sizeLine := by decide
    have l1 : (("/" : String) : Str).length = 1 := by decide +kernel
    refine ⟨_, rfl, a, CR, dx, _, .int b, rfl, ha, R.own.cls, R.nb, rfl, _, _, rfl, rfl, _, rfl, ifd (fun c => ?_) (fun c => ?_)⟩
    · refine ⟨_, rfl, a, CR, dx, _, .int t, rfl, ha, R.own.cls, R.nt, rfl, t, rfl, rst_log t1, ?_⟩
      unfold ratS at q
      rw [if_pos c] at q
      exact q
    · refine ⟨_, rfl, a, CR, dx, _, .int t, rfl, ha, R.own.cls, R.nt, rfl, .inr ⟨_, rfl, rst_log t1, _, rfl, by rw [rst_nil]; omega, _, rfl, by rw [rst_nil, rst_len]; omega, _, rfl, a, CR, dx, _, .int b, rfl, ha, R.own.cls, R.nb, rfl, .inr ⟨_, rfl, rst_log b1, _, rfl, by rw [rst_nil, rst_len, rst_len]; omega, ?_⟩⟩⟩
      unfold ratS at q
      rw [if_neg c] at q
      rw [rst_nil]
      exact q
end
end Sf

namespace Sf
open PySem PySem.Spec PyProof.Rows L2
section
variable {P : Program} {w : World} {K : PySem.W.Frag} {mg : Str → Option Value} {base : Heap} {f : Addr} {fd : FuncData} {CR : Addr}
structure RgtP (vs : List V) (H : Hp) (Q : VK) : Prop where
  ex : ∃ (p : Addr) (n : Nat), vs = [.ref p] ∧ Sk p n H ∧ n ≤ 1000 ∧ ∀ (H' : Hp), Keep p H H' → Sk p (n + 2) H' → Q (.bl true) H'
def spRgt : Sp := fun vs H Q _ => RgtP vs H Q
set_option maxHeartbeats 16000000 in
theorem ok_right (F : FnD K "_law_right" "_law_right" s_L_right f fd) (T : Glob mg) (R : RatioK K CR) (C_L_primes : Cal P w K mg base 3 "_law_primes" ["_law_jar_here"] spPrm) (C_L_scoop : Cal P w K mg base 1 "_law_scoop" ["_law_jar_here", "_law_total"] spTake) (C_L_twelfths : Cal P w K mg base 4 "_law_twelfths" ["_law_primes_here", "_law_trace", "_law_many"] spTw)
    (C_P_summand : Cal P w K mg base 8 "summand" ["primes", "trace", "many"] (spSmd CR)) (N_Ratio_2 : CalC P w K mg base 3 "Ratio" CR ["self", "top", "bottom"] [] (spRatInit CR)) (O_Ratio : OwnK K CR) (M_Ratio_eq : CalM P w K mg base 2 "__eq__" CR ["self", "value"] (spRatEq CR)) (C_L_is_barred : Cal P w K mg base 3 "_law_is_barred" ["_law_primes_here", "_law_number"] spBar)
    (C_P_trace_by_forms : Cal P w K mg base 8 "trace_by_forms" ["primes", "many"] spTrc) (C_L_classes : Cal P w K mg base 1 "_law_classes" ["_law_primes_here"] spCls) : FnOk P w K mg base CX0 9 f fd ["_law_jar_here"] spRgt := by
  refine F.ok sc_L_right (fun vs H Q E h => ?_) (fun cdv A outer s H vs Q E hr h => ?_)
  · obtain ⟨p, n, rfl, _⟩ := h.ex; rfl
  · obtain ⟨p, n, rfl, hs, hn, q⟩ := h.ex
    refine ⟨_, PSs.nox (pss_cons (ps_par (i := 1) (j := 2) (by rfl) sc_L_right.nd rfl rfl (by decide) rfl rfl (pa_cons (pe_cal C_L_primes (hr.mono (by decide)) (pa_cons (pv 0) pa_nil)) (pa_cons (pe_op op_add pe_int (pe_cal C_L_scoop (hr.mono (by decide)) (pa_cons (pv 0) (pa_cons pe_int pa_nil)))) pa_nil)) (by rfl))
      (pss_cons (ps_set (i := 3) sc_L_right.nd rfl (Or.inl rfl) pe_int)
      (pss_cons (ps_for PassesOwn.never rfl (pi_range2 (by rfl) T.m_range (pa_cons (pe_un un_neg pe_int) (pa_cons pe_int pa_nil))) (pg_name (i := 4) sc_L_right.nd rfl (Or.inl rfl)) (pss_cons (ps_set (i := 5) sc_L_right.nd rfl (Or.inl rfl) (pe_cut (pe_ifExp (pt_cmp (pc_le (pe_op op_mulW (pv 4) (pv 4)) (pe_op op_mulW pe_int (pv 2)))) (pe_cal C_L_twelfths (hr.mono (by decide)) (pa_cons (pv 1) (pa_cons (pv 4) (pa_cons (pv 2) pa_nil)))) pe_int)))
      (pss_cons (ps_if (pt_cmpR (ne_own M_Ratio_eq.me M_Ratio_eq.ok (hr.mono (by decide)) M_Ratio_eq.b pass0 O_Ratio.ne O_Ratio.mo) (pe_cal C_P_summand (hr.mono (by decide)) (pa_cons (pv 1) (pa_cons (pv 4) (pa_cons (pv 2) pa_nil)))) (pe_new N_Ratio_2 (hr.mono (by decide)) (pa_cons (pv 5) (pa_cons pe_int pa_nil))) (nomark _)) (pss_one (ps_ret pe_bl)) pss_nil)
      (pss_cons (ps_if (PW.pt (pw_and (pt_cmp (pc_lt (pe_op op_mulW (pv 4) (pv 4)) (pe_op op_mulW pe_int (pv 2)))) (pw_and1 (pt_cmpR op_ne (pe_cmp (pc_eqI (pv 5) pe_int) rfl) (pe_cal C_L_is_barred (hr.mono (by decide)) (pa_cons (pv 1) (pa_cons (pe_op op_sub (pe_op op_mulW pe_int (pv 2)) (pe_op op_mulW (pv 4) (pv 4))) pa_nil))) (nomark _))))) (pss_one (ps_ret pe_bl)) pss_nil)
      (pss_one (ps_set (i := 3) sc_L_right.nd rfl (Or.inl rfl) (pe_op op_add (pv 3) (pv 5))))))))
      (pss_cons (ps_if (PW.pt (pw_or (pt_cmp (pc_neI (pe_op op_mod (pv 3) pe_int) pe_int)) (pw_or1 (pt_cmp (pc_neI (pe_cal C_P_trace_by_forms (hr.mono (by decide)) (pa_cons (pv 1) (pa_cons (pv 2) pa_nil))) (pe_op op_fdivW (pv 3) pe_int)))))) (pss_one (ps_ret pe_bl)) pss_nil)
      (pss_one (ps_ret (pe_and (pe_cmp (pc_eqI (pe_cal C_P_trace_by_forms (hr.mono (by decide)) (pa_cons (pv 1) (pa_cons pe_int pa_nil))) (pe_cal C_L_classes (hr.mono (by decide)) (pa_cons (pv 1) pa_nil))) rfl) (pe_one (pe_cmpR (eq_ownI M_Ratio_eq.me M_Ratio_eq.ok (hr.mono (by decide)) M_Ratio_eq.b pass0 O_Ratio.si) (pe_cal C_P_summand (hr.mono (by decide)) (pa_cons (pv 1) (pa_cons pe_int (pa_cons pe_int pa_nil)))) pe_int (nomark _)))))))))), ?_⟩
    refine ⟨_, rfl, ⟨p, n, rfl, hs, by omega, fun v H1 hv k1 s1 => ?_⟩⟩
    obtain ⟨t, ps, rfl, ht, hps⟩ := hv
    refine ⟨_, rfl, take_of s1 (by omega) (by decide) (by decide +kernel) fun r H2 r0 r1 k2 s2 _ => ?_⟩
    obtain ⟨m, hm1, hm2, em⟩ : ∃ m : Nat, 1 ≤ m ∧ m ≤ 30 ∧ (1 : Int) + r = m := ⟨(1 + r).toNat, by omega, by omega, by omega⟩
    refine ⟨_, _, rfl, rfl, _, _, rfl, ?_⟩
    have ht2 : H2 t = some (.tup ((iL ps).map V.int)) := k2 _ _ ht fun z => by
      obtain ⟨xs, a1, _⟩ := s1
      rw [z, a1] at ht
      cases ht
    have w4 : (4 : Int).natAbs < 2 ^ 3000 := by decide +kernel
    have wm : (m : Int).natAbs < 2 ^ 3000 := lt3000s (by omega) (by omega)
    refine ⟨_, rfl, -12, 13, rfl, ⟨by decide, by decide, by decide, by decide⟩, ?_⟩
    rw [show ((13 : Int) - -12).toNat = 25 by decide]
    refine for_range (lo := -12) (n := 25) (fun i σ H' => ∃ v4 v5, σ = [some (.ref p), some (.ref t), some (.int m), some (.int (sumT ps m i)), v4, v5] ∧ Same H2 H') ⟨none, none, congrArg (fun z : Int => [some (V.ref p), some (V.ref t), some (V.int z), some (V.int 0), none, none]) em, Same.refl H2⟩ ?_ ?_
    · rintro i σ H3 hi ⟨v4, v5, rfl, e3⟩
      have wt : (-12 + (i : Int)).natAbs < 2 ^ 3000 := lt3000s (by omega) (by omega)
      have hsq : (-12 + (i : Int)) * (-12 + (i : Int)) = (((-12 + (i : Int)) * (-12 + (i : Int))).toNat : Int) := (Int.toNat_of_nonneg (sq_nn _)).symm
      have hts := sumT_succ ps m i
      generalize eT : (-12 + (i : Int)) = tr at *
      refine ⟨fun v H' => v = .int (XIK ps (4 * (m : Int) - tr * tr)) ∧ Same H3 H', ?_, fun v H4 hv => ?_⟩
      · refine ⟨_, rfl, _, rfl, _, _, rfl, rfl, CMulW.of wt wt, _, rfl, _, _, rfl, rfl, CMulW.of w4 wm, tr * tr, 4 * (m : Int), rfl, rfl, _, rfl, ifd (fun c => ?_) (fun c => ?_)⟩
        · refine ⟨_, rfl, _, rfl, _, rfl, ⟨t, ps, tr, m, (4 * (m : Int) - tr * tr).toNat, rfl, e3 _ _ ht2, hps, by omega, by omega, by omega, fun H4 e4 => ⟨?_, e4⟩⟩⟩
          unfold XIK
          rw [if_neg (by omega), XK_eq]
        · refine ⟨?_, Same.refl H3⟩
          unfold XIK
          rw [if_pos (by omega)]
      · obtain ⟨rfl, e4⟩ := hv
        refine ⟨_, rfl, _, rfl, _, rfl, ⟨t, ps, tr, m, rfl, e4 _ _ (e3 _ _ ht2), hps, hm1, by omega, by omega, fun x a b H5 e5 hR5 l5 => ?_⟩⟩
        rw [XIK_eq] at l5
        have hXb := XI_bd hps (N := 4 * (m : Int) - tr * tr) (by omega)
        rw [XIK_eq] at hXb
        refine ⟨_, rfl, fun y dy hy hdy ndy => new_rat (by decide) (Nat.lt_of_le_of_lt hXb (by decide +kernel)) (by decide +kernel) hy hdy ndy fun a2 b2 H6 l6 e6 hR6 => ⟨rfl, ?_⟩⟩
        obtain ⟨rfl, rfl⟩ := lowT_uni24 l5 l6
        refine ⟨x, y, rfl, rfl, (hR5.same e6).ins, hR6.ins, ⟨x, .ref y, a, b, a, b, rfl, hR5.same e6, .rat hR6, fun r hr => ?_⟩⟩
        rw [hr.mpr ⟨rfl, rfl⟩]
        refine ⟨true, rfl, _, rfl, (if_neg (by decide)).mpr ?_⟩
        have e46 := e4.trans (e5.trans e6)
        refine ⟨_, rfl, _, rfl, _, _, rfl, rfl, CMulW.of wt wt, _, rfl, _, _, rfl, rfl, CMulW.of w4 wm, tr * tr, 4 * (m : Int), rfl, rfl, _, rfl, ifd (fun c => ?_) (fun c => ?_)⟩
        · obtain ⟨N, eN, hN1, hN2⟩ : ∃ N : Nat, 4 * (m : Int) - tr * tr = N ∧ 1 ≤ N ∧ N ≤ 120 := ⟨(4 * (m : Int) - tr * tr).toNat, by omega, by omega, by omega⟩
          have h4 := mod4_sq m tr
          have hf := fin_bar ps hps ⟨N, by omega⟩
          replace hf : decide (XK ps N = 0) = barB N ps := by
            rcases hf with z | z | z
            · exact absurd z (by show N ≠ 0; omega)
            · exfalso
              change N % 4 = 1 ∨ N % 4 = 2 at z
              omega
            · exact z
          have hXN : XIK ps (4 * (m : Int) - tr * tr) = XK ps N := by
            unfold XIK
            rw [eN, if_neg (by omega), Int.toNat_natCast]
          refine ⟨_, rfl, _, _, rfl, rfl, _, rfl, _, rfl, _, _, rfl, rfl, CMulW.of w4 wm, _, rfl, _, rfl, _, _, rfl, rfl, CMulW.of wt wt, _, _, rfl, rfl, ⟨t, ps, N, congrArg (fun z : Int => [V.ref t, V.int z]) eN, e46 _ _ (e3 _ _ ht2), hps, hN1, by omega, fun H7 e7 => ⟨rfl, ?_⟩⟩⟩
          have e0 : decide (XIK ps (4 * (m : Int) - tr * tr) = 0) = barB N ps := by rw [hXN]; exact hf
          refine ⟨_, rfl, (if_neg (by show ¬ (!decide (V.bl (decide (XIK ps (4 * (m : Int) - tr * tr) = 0)) = V.bl (barB N ps))) = true; rw [e0]; simp)).mpr ?_⟩
          refine ⟨_, rfl, _, rfl, _, _, rfl, rfl, some (.int tr), some (.int (XIK ps (4 * (m : Int) - tr * tr))), congrArg (fun z : Int => [some (V.ref p), some (V.ref t), some (V.int m), some (V.int z), some (V.int tr), some (V.int (XIK ps (4 * (m : Int) - tr * tr)))]) hts.symm, e3.trans (e46.trans e7)⟩
        · refine ⟨_, rfl, _, rfl, _, _, rfl, rfl, some (.int tr), some (.int (XIK ps (4 * (m : Int) - tr * tr))), congrArg (fun z : Int => [some (V.ref p), some (V.ref t), some (V.int m), some (V.int z), some (V.int tr), some (V.int (XIK ps (4 * (m : Int) - tr * tr)))]) hts.symm, e3.trans e46⟩
    · rintro σ H3 ⟨v4, v5, rfl, e3⟩
      have hS := fin_sumT ps hps ⟨m - 1, by omega⟩
      have h24 := fin_tot ps hps ⟨m - 1, by omega⟩
      have hsm := fin_same ps hps ⟨m - 1, by omega⟩
      have hsm1 := fin_same ps hps ⟨0, by omega⟩
      have hcl := fin_cls ps hps
      simp only [Nat.sub_add_cancel hm1] at hS h24 hsm
      rw [← totXK_eq] at hsm
      have hsm1' : totX ps 1 (PySem.Float64.isqrt (4 * 1)) = 24 * clsV ps := by
        rw [totXK_eq]
        exact hsm1.trans hcl
      have ht3 := e3 _ _ ht2
      rw [hS]
      refine ⟨_, rfl, _, _, rfl, rfl, (by show (0 : Int) < 24; decide), _, _, rfl, rfl, _, rfl, (if_neg (by rw [h24]; decide)).mpr ?_⟩
      refine ⟨_, rfl, _, rfl, ⟨t, ps, m, rfl, ht3, hps, hm1, by omega, fun a b H4 e4 l4 => ?_⟩⟩
      rw [hsm] at l4
      have h5 := low_whole l4 h24
      subst h5
      refine ⟨_, rfl, _, _, rfl, rfl, CDivW.of (by decide) (by decide), _, _, rfl, rfl, _, rfl, ?_⟩
      refine (if_neg (by simp)).mpr ?_
      refine ⟨_, rfl, ⟨t, ps, 1, rfl, e4 _ _ ht3, hps, by decide, by decide, fun a2 b2 H5 e5 l5 => ?_⟩⟩
      rw [hsm1'] at l5
      have h6 : a2 = clsV ps := by
        have := low_whole l5 (by omega)
        omega
      subst h6
      refine ⟨_, rfl, ⟨t, ps, rfl, e5 _ _ (e4 _ _ ht3), hps, fun H6 e6 => ⟨_, _, rfl, rfl, ?_⟩⟩⟩
      refine ⟨_, rfl, (if_pos (by simp)).mpr ?_⟩
      refine ⟨_, rfl, ⟨t, ps, 1000, 200, rfl, e6 _ _ (e5 _ _ (e4 _ _ ht3)), hps, by decide, by decide, by decide, fun x a b H7 e7 hR7 l7 => ?_⟩⟩
      rw [show XI ps (4 * ((200 : Nat) : Int) - 1000 * 1000) = 0 from if_pos (by decide)] at l7
      have hab : a = 0 ∧ b = 1 := by
        obtain ⟨z1, z2, z3⟩ := l7
        have : a = 0 := by omega
        subst this
        refine ⟨rfl, ?_⟩
        rw [show (0 : Int).natAbs = 0 from rfl, Nat.gcd_zero_left] at z3
        omega
      obtain ⟨rfl, rfl⟩ := hab
      refine ⟨x, 0, rfl, rfl, hR7.ins, ⟨x, .int 0, 0, 1, 0, 1, rfl, hR7, .int (by decide), fun r hr => ?_⟩⟩
      rw [hr.mpr ⟨rfl, rfl⟩]
      exact q _ (k1.trans (k2.trans (Keep.same (e3.trans (e4.trans (e5.trans (e6.trans e7))))))) (s2.same (e3.trans (e4.trans (e5.trans (e6.trans e7)))))
end
end Sf

namespace Sf
open PySem PySem.Spec PyProof.Rows L2
def numsM : List Nat := [1, 2, 3, 4, 5, 6, 11]
def numsP : List Nat := [2, 3, 5, 7, 13, 37]
def toldM : List Int := [2, 1, 3, 9, 7, 14, 2]
def toldP : List Int := [1, 1, 1, 1, 1, 3]
theorem told_m : ∀ i : Fin 7, totXK [11] (numsM.getD i.1 1) (PySem.Float64.isqrt (4 * numsM.getD i.1 1)) = 24 * toldM.getD i.1 0 := by decide +kernel
theorem told_p : ∀ i : Fin 6, totXK [numsP.getD i.1 1] 1 (PySem.Float64.isqrt (4 * 1)) = 24 * toldP.getD i.1 0 := by decide +kernel
theorem numsM_ok : ∀ m ∈ numsM, 1 ≤ m ∧ m ≤ 200 := by decide
theorem numsP_ok : ∀ p ∈ numsP, [p] ∈ PT := by decide
theorem x4 : XIK [2] 4 = 6 := by decide +kernel
theorem x0 : XIK [2, 3, 5] 0 = 8 := by decide +kernel
theorem txt14 : ratS 1 4 = (("1/4" : String) : Str) := by decide +kernel
theorem txt13 : ratS 1 3 = (("1/3" : String) : Str) := by decide +kernel
theorem eqv_listI (a b : List Int) : PyData.eqv (.list (a.map PyData.int)) (.list (b.map PyData.int)) = decide (a = b) := by
  unfold PyData.eqv
  exact eqv_ints a b
section
variable {P : Program} {w : World} {K : PySem.W.Frag} {mg : Str → Option Value} {base : Heap} {f : Addr} {fd : FuncData} {CR : Addr}
def spLaw (K : PySem.W.Frag) : Sp := fun vs H Q _ => ∃ (a : Addr) (ns : List Int), vs = [.ref a] ∧ SqL K H a (ns.map V.int) ∧ ns.length ≤ 63 ∧ ∀ H', Q (.bl true) H'
set_option maxHeartbeats 16000000 in
theorem ok_law (F : FnD K "law" "law" s_L_law f fd) (T : Glob mg) (C_L_jar : Cal P w K mg base 1 "_law_jar" ["_law_script", "_law_spot"] (spSack K)) (C_L_right : Cal P w K mg base 9 "_law_right" ["_law_jar_here"] spRgt) (C_P_trace_by_forms : Cal P w K mg base 8 "trace_by_forms" ["primes", "many"] spTrc) (C_P_summand : Cal P w K mg base 8 "summand" ["primes", "trace", "many"] (spSmd CR)) (M_Ratio_str : CalM P w K mg base 1 "__str__" CR ["self"] (spRStr CR)) :
    FnOk P w K mg base CX0 10 f fd ["_law_script"] (spLaw K) := by
  refine F.ok sc_L_law (fun vs H Q E h => ?_) (fun cdv A outer s H vs Q E hr h => ?_)
  · obtain ⟨a, ns, rfl, _⟩ := h; rfl
  · obtain ⟨a, ns, rfl, hS, hl, q⟩ := h
    refine ⟨_, PSs.nox (pss_cons (ps_for PassesOwn.never rfl (pi_range1 (by rfl) T.m_range (pa_cons (pe_callB (call_max2 rfl) (by rfl) T.m_max (by decide +kernel) (pa_cons pe_int (pa_cons (pe_callB (call_min2 rfl) (by rfl) T.m_min (by decide +kernel) (pa_cons pe_int (pa_cons (pe_callB call_len_seq (by rfl) T.m_len (by decide +kernel) (pa_cons (pv 0) pa_nil)) pa_nil))) pa_nil))) pa_nil)) (pg_name (i := 1) sc_L_law.nd rfl (Or.inl rfl)) (pss_cons (ps_set (i := 2) sc_L_law.nd rfl (Or.inl rfl) (pe_cal C_L_jar (hr.mono (by decide)) (pa_cons (pv 0) (pa_cons (pv 1) pa_nil))))
      (pss_one (ps_if (PW.pt (pw_or (pt_not (pt_val (pe_cal C_L_right (hr.mono (by decide)) (pa_cons (pv 2) pa_nil)))) (pw_or1 (pt_not (pt_val (pe_cal C_L_right (hr.mono (by decide)) (pa_cons (pv 2) pa_nil))))))) (pss_one (ps_ret pe_bl)) pss_nil))))
      (pss_cons (ps_setLc (i := 3) rfl sc_L_law.nd rfl rfl (sw_true rfl rfl rfl (by decide +kernel)) (own := [("_law_many", 4)]) (pi_tup (pe_tup (pa_cons pe_int (pa_cons pe_int (pa_cons pe_int (pa_cons pe_int (pa_cons pe_int (pa_cons pe_int (pa_cons pe_int pa_nil))))))))) (blkOk_by (N := ["_law_script", "_law_spot", "_law_jar_here", "_law_told", "_law_many", "_law_ones", "_law_prime"]) (sc := defScope s_L_law) (by decide +kernel)) (fun _ _ _ _ _ => pg_name (i := 4) sc_L_law.nd rfl (Or.inl rfl)) (fun _ _ _ _ _ => pts_nil) (fun _ _ _ _ _ => (pe_cal C_P_trace_by_forms (hr.mono (by decide)) (pa_cons (pe_tup (pa_cons pe_int pa_nil)) (pa_cons (pv 4) pa_nil)))))
      (pss_cons (ps_setLc (i := 5) rfl sc_L_law.nd rfl rfl (sw_true rfl rfl rfl (by decide +kernel)) (own := [("_law_prime", 6)]) (pi_tup (pe_tup (pa_cons pe_int (pa_cons pe_int (pa_cons pe_int (pa_cons pe_int (pa_cons pe_int (pa_cons pe_int pa_nil)))))))) (blkOk_by (N := ["_law_script", "_law_spot", "_law_jar_here", "_law_told", "_law_many", "_law_ones", "_law_prime"]) (sc := defScope s_L_law) (by decide +kernel)) (fun _ _ _ _ _ => pg_name (i := 6) sc_L_law.nd rfl (Or.inl rfl)) (fun _ _ _ _ _ => pts_nil) (fun _ _ _ _ _ => (pe_cal C_P_trace_by_forms (hr.mono (by decide)) (pa_cons (pe_tup (pa_cons (pv 6) pa_nil)) (pa_cons pe_int pa_nil)))))
      (pss_cons (ps_if (PW.pt (pw_or (pt_cmpR (op_neD hr.units) (pv 3) (pe_lst (pa_cons pe_int (pa_cons pe_int (pa_cons pe_int (pa_cons pe_int (pa_cons pe_int (pa_cons pe_int (pa_cons pe_int pa_nil)))))))) (nomark _)) (pw_or1 (pt_cmpR (op_neD hr.units) (pv 5) (pe_lst (pa_cons pe_int (pa_cons pe_int (pa_cons pe_int (pa_cons pe_int (pa_cons pe_int (pa_cons pe_int pa_nil))))))) (nomark _))))) (pss_one (ps_ret pe_bl)) pss_nil)
      (pss_one (ps_ret (pe_and (pe_cmpR op_eq (pe_callTy (str_own M_Ratio_str.me M_Ratio_str.ok (hr.mono (by decide)) M_Ratio_str.b pass0) (by rfl) T.m_str (by decide +kernel) (pa_cons (pe_cal C_P_summand (hr.mono (by decide)) (pa_cons (pe_tup (pa_cons pe_int pa_nil)) (pa_cons pe_int (pa_cons pe_int pa_nil)))) pa_nil)) pe_str (nomark _)) (pe_one (pe_cmpR op_eq (pe_callTy (str_own M_Ratio_str.me M_Ratio_str.ok (hr.mono (by decide)) M_Ratio_str.b pass0) (by rfl) T.m_str (by decide +kernel) (pa_cons (pe_cal C_P_summand (hr.mono (by decide)) (pa_cons (pe_tup (pa_cons pe_int (pa_cons pe_int (pa_cons pe_int pa_nil)))) (pa_cons pe_int (pa_cons pe_int pa_nil)))) pa_nil)) pe_str (nomark _)))))))))), ?_⟩
    have hT : ∀ n : Nat, ∃ t : Nat, (if (if (n : Int) < 2 then (n : Int) else 2) > 1 then (if (n : Int) < 2 then (n : Int) else 2) else 1) = (t : Int) ∧ t ≤ 2 := fun n => by
      by_cases c : n < 2
      · by_cases c2 : n > 1
        · exact ⟨n, by rw [if_pos (by omega : (n : Int) < 2), if_pos (by omega)], by omega⟩
        · exact ⟨1, by rw [if_pos (by omega : (n : Int) < 2), if_neg (by omega)]; rfl, by omega⟩
      · exact ⟨2, by rw [if_neg (by omega : ¬ (n : Int) < 2), if_pos (by decide)]; rfl, by omega⟩
    obtain ⟨t, et, ht⟩ := hT (ns.map V.int).length
    refine ⟨_, rfl, a, _, rfl, .inl hS, _, _, rfl, _, _, rfl, (t : Int), ?_, by omega, by omega, ?_⟩
    · rw [← et]
    refine for_range (lo := 0) (n := t) (fun i σ H' => ∃ v1 v2, σ = [some (.ref a), v1, v2, none, none, none, none] ∧ Same H H') ⟨none, none, rfl, Same.refl H⟩ ?_ ?_
    · rintro i σ H0 hi ⟨v1, v2, rfl, hs0⟩
      refine ⟨_, rfl, _, rfl, a, ns, i, by rw [Int.zero_add]; rfl, hs0.seq hS, hl, by omega, fun p xs H1 e1 hpn hp1 hxs => ?_⟩
      have s1 : Sk p 0 H1 := ⟨xs, hp1, hxs⟩
      have e01 := hs0.trans e1
      have kH : ∀ H', Keep p H1 H' → Same H H' := fun H' k b o e => k _ _ (e01 _ _ e) fun z => by
        rw [z] at e
        have := hs0 _ _ e
        rw [hpn] at this
        cases this
      refine ⟨_, rfl, ⟨p, 0, rfl, s1, by omega, fun H2 k2 s2 => ⟨_, rfl, (if_neg (by decide)).mpr ?_⟩⟩⟩
      refine ⟨_, rfl, ⟨p, 0 + 2, rfl, s2, by omega, fun H3 k3 s3 => ⟨_, rfl, (if_neg (by decide)).mpr ?_⟩⟩⟩
      exact ⟨_, _, rfl, kH _ (k2.trans k3)⟩
    · rintro σ H0 ⟨v1, v2, rfl, hs0⟩
      clear hs0
      refine ⟨(by show 7 ≤ sizeLine; decide), fun tt htt => ⟨tt, rfl, ⟨_, SqT.of upd_same⟩, fun D hD => ?_⟩⟩
      have htt0 : (upd H0 tt (.tup [.int 1, .int 2, .int 3, .int 4, .int 5, .int 6, .int 11])) tt = some (.tup (numsM.map fun m : Nat => V.int (m : Int))) := upd_same
      have hD' : (upd H0 tt (.tup [.int 1, .int 2, .int 3, .int 4, .int 5, .int 6, .int 11])) D = none := hD
      clear hD
      generalize upd H0 tt (.tup [.int 1, .int 2, .int 3, .int 4, .int 5, .int 6, .int 11]) = H1 at htt0 hD' ⊢
      refine lc_tup (K := K) (a := tt) (xs := numsM.map fun m : Nat => V.int (m : Int)) (fun i H2 => Same H1 H2 ∧ H2 D = some (.lst ((toldM.take i).map V.int))) ⟨same_upd hD', upd_same⟩ (fun i H2 _ hp => SqT.of (hp.1 _ _ htt0)) (fun i v H2 hv hP => ?_) (fun H2 hP => ?_)
      · obtain ⟨e2, hd2⟩ := hP
        refine ⟨rfl, ?_⟩
        have hi := (List.getElem?_eq_some_iff.mp hv).1
        have hi7 : i < 7 := hi
        obtain ⟨m, hm, rfl⟩ : ∃ m, numsM[i]? = some m ∧ v = V.int (m : Nat) := by
          rw [List.getElem?_map] at hv
          obtain ⟨m, h1, h2⟩ := Option.map_eq_some_iff.mp hv
          exact ⟨m, h1, h2.symm⟩
        have hb := numsM_ok m (List.mem_of_getElem? hm)
        have hf := told_m ⟨i, hi7⟩
        have hz : toldM[i]? = some (toldM.getD i 0) := by
          rw [List.getD_eq_getElem?_getD, List.getElem?_eq_getElem (show i < toldM.length from hi7)]
          rfl
        have hg : numsM.getD i 1 = m := by rw [List.getD_eq_getElem?_getD, hm]; rfl
        simp only [hg] at hf
        rw [← totXK_eq] at hf
        refine ⟨(by show 1 ≤ sizeLine; decide), fun t1 ht1 => ⟨_, rfl, ⟨t1, [11], m, rfl, upd_same, by decide, hb.1, hb.2, fun a1 b1 H3 e3 l3 => ?_⟩⟩⟩
        rw [hf] at l3
        have h6 : a1 = toldM.getD i 0 := by
          have := low_whole l3 (by omega)
          omega
        subst h6
        have e23 := (same_upd (o := .tup [.int 11]) ht1).trans e3
        refine ⟨_, e23 _ _ hd2, ?_, ?_, ?_⟩
        · rw [List.length_map]
          exact Nat.lt_of_le_of_lt (List.length_take_le _ _) (Nat.lt_of_lt_of_le (by omega : i < 1000000) (by decide))
        · intro b o e
          rw [upd_ne (ne_of_none e hD')]
          exact e23 _ _ (e2 _ _ e)
        · rw [upd_same, List.take_add_one, hz, List.map_append]
          rfl
      obtain ⟨e2, hd2⟩ := hP
      replace hd2 : H2 D = some (.lst (toldM.map V.int)) := hd2
      clear e2 htt0 hD' htt
      refine ⟨(by show 6 ≤ sizeLine; decide), fun tt htt => ⟨tt, rfl, ⟨_, SqT.of upd_same⟩, fun D2 hD2 => ?_⟩⟩
      have htt0 : (upd H2 tt (.tup [.int 2, .int 3, .int 5, .int 7, .int 13, .int 37])) tt = some (.tup (numsP.map fun m : Nat => V.int (m : Int))) := upd_same
      have hd3 := same_upd (o := .tup [.int 2, .int 3, .int 5, .int 7, .int 13, .int 37]) htt _ _ hd2
      have hD' : (upd H2 tt (.tup [.int 2, .int 3, .int 5, .int 7, .int 13, .int 37])) D2 = none := hD2
      clear hD2
      generalize upd H2 tt (.tup [.int 2, .int 3, .int 5, .int 7, .int 13, .int 37]) = H1 at htt0 hD' hd3 ⊢
      refine lc_tup (K := K) (a := tt) (xs := numsP.map fun m : Nat => V.int (m : Int)) (fun i H2 => Same H1 H2 ∧ H2 D2 = some (.lst ((toldP.take i).map V.int))) ⟨same_upd hD', upd_same⟩ (fun i H2 _ hp => SqT.of (hp.1 _ _ htt0)) (fun i v H2 hv hP => ?_) (fun H3 hP => ?_)
      · obtain ⟨e2, hd2⟩ := hP
        refine ⟨rfl, ?_⟩
        have hi := (List.getElem?_eq_some_iff.mp hv).1
        have hi7 : i < 6 := hi
        obtain ⟨m, hm, rfl⟩ : ∃ m, numsP[i]? = some m ∧ v = V.int (m : Nat) := by
          rw [List.getElem?_map] at hv
          obtain ⟨m, h1, h2⟩ := Option.map_eq_some_iff.mp hv
          exact ⟨m, h1, h2.symm⟩
        have hb := numsP_ok m (List.mem_of_getElem? hm)
        have hf := told_p ⟨i, hi7⟩
        have hz : toldP[i]? = some (toldP.getD i 0) := by
          rw [List.getD_eq_getElem?_getD, List.getElem?_eq_getElem (show i < toldP.length from hi7)]
          rfl
        have hg : numsP.getD i 1 = m := by rw [List.getD_eq_getElem?_getD, hm]; rfl
        simp only [hg] at hf
        rw [← totXK_eq] at hf
        refine ⟨_, rfl, (by show 1 ≤ sizeLine; decide), fun t1 ht1 => ⟨t1, [m], 1, rfl, upd_same, hb, by decide, by decide, fun a1 b1 H3 e3 l3 => ?_⟩⟩
        rw [hf] at l3
        have h6 : a1 = toldP.getD i 0 := by
          have := low_whole l3 (by omega)
          omega
        subst h6
        have e23 := (same_upd (o := .tup [.int (m : Int)]) ht1).trans e3
        refine ⟨_, e23 _ _ hd2, ?_, ?_, ?_⟩
        · rw [List.length_map]
          exact Nat.lt_of_le_of_lt (List.length_take_le _ _) (Nat.lt_of_lt_of_le (by omega : i < 1000000) (by decide))
        · intro b o e
          rw [upd_ne (ne_of_none e hD')]
          exact e23 _ _ (e2 _ _ e)
        · rw [upd_same, List.take_add_one, hz, List.map_append]
          rfl
      obtain ⟨e3, hd4⟩ := hP
      replace hd4 : H3 D2 = some (.lst (toldP.map V.int)) := hd4
      replace hd3 := e3 _ _ hd3
      clear e3 htt0 hD' hd2 htt
      refine ⟨_, rfl, (by show 7 ≤ sizeLine; decide), fun N hN => ⟨_, _, dp_list (ns := toldM) (SqL.of (same_upd hN _ _ hd3)), dp_list (ns := toldM) (SqL.of upd_same), shp_list _, shp_list _, ?_⟩⟩
      rw [eqv_listI, decide_eq_true rfl]
      refine ⟨_, rfl, iteF ?_⟩
      replace hd4 := same_upd (o := .lst [.int 2, .int 1, .int 3, .int 9, .int 7, .int 14, .int 2]) hN _ _ hd4
      clear hN hd3
      generalize upd H3 N _ = H4 at hd4 ⊢
      refine ⟨_, rfl, (by show 6 ≤ sizeLine; decide), fun N hN => ⟨_, _, dp_list (ns := toldP) (SqL.of (same_upd hN _ _ hd4)), dp_list (ns := toldP) (SqL.of upd_same), shp_list _, shp_list _, ?_⟩⟩
      rw [eqv_listI, decide_eq_true rfl]
      refine ⟨_, rfl, iteF ?_⟩
      clear hN hd4
      generalize upd H4 N _ = H5
      refine ⟨(by show 1 ≤ sizeLine; decide), fun t1 ht1 => ⟨t1, [2], 0, 1, rfl, upd_same, by decide, by decide, by decide, by decide, fun x a1 b1 H6 e6 hR6 l6 => ?_⟩⟩
      rw [show XI [2] (4 * ((1 : Nat) : Int) - 0 * 0) = 6 from (XIK_eq _ _).trans x4] at l6
      obtain ⟨rfl, rfl⟩ := lowT_uni24 l6 (show LowT 6 24 1 4 from ⟨by decide, by decide, by decide⟩)
      refine ⟨x, rfl, hR6.ins, x, 1, 4, rfl, hR6, by decide +kernel, by decide +kernel, _, rfl, ?_⟩
      rw [txt14]
      refine ⟨rfl, _, rfl, (if_pos (by simp)).mpr ?_⟩
      refine ⟨(by show 3 ≤ sizeLine; decide), fun t2 ht2 => ⟨t2, [2, 3, 5], 4, 4, rfl, upd_same, by decide, by decide, by decide, by decide, fun x a1 b1 H7 e7 hR7 l7 => ?_⟩⟩
      rw [show XI [2, 3, 5] (4 * ((4 : Nat) : Int) - 4 * 4) = 8 from (XIK_eq _ _).trans x0] at l7
      obtain ⟨rfl, rfl⟩ := lowT_uni24 l7 (show LowT 8 24 1 3 from ⟨by decide, by decide, by decide⟩)
      refine ⟨x, rfl, hR7.ins, x, 1, 3, rfl, hR7, by decide +kernel, by decide +kernel, _, rfl, ?_⟩
      rw [txt13]
      refine ⟨rfl, ?_⟩
      rw [decide_eq_true rfl]
      exact q _
end
end Sf

namespace Sf
open PySem PySem.Spec PyProof.Rows L2
theorem facts {P : Program} {w : World} {K : PySem.W.Frag} {h : Heap} {mg : Str → Option Value} {f : Addr} (X : K.In h) (G : h.Ns mainGlobals mg) (hfa : mg ("law" : Str) = some (.ref f)) (c : He.SaysD fa fn K) (z : ex K = true) :
    ∃ fd : FuncData, (∀ (s : Shared) (v : Value), BindsTo s fd ⟨[v], []⟩ [("_law_script", v)]) ∧ ∀ base : Heap, K.In base → base.Ns mainGlobals mg → FnOk P w K mg base CX0 10 f fd ["_law_script"] (spLaw K) := by
  obtain ⟨fd_L_jar, F_L_jar⟩ := c.def_ 0 (d := d_L_jar) rfl
  have g_L_jar := He.glo_ok X G (c.fact 0 (f := .glo "_law_jar") rfl)
  obtain ⟨fd_L_scoop, F_L_scoop⟩ := c.def_ 1 (d := d_L_scoop) rfl
  have g_L_scoop := He.glo_ok X G (c.fact 1 (f := .glo "_law_scoop") rfl)
  obtain ⟨fd_L_pick, F_L_pick⟩ := c.def_ 2 (d := d_L_pick) rfl
  have g_L_pick := He.glo_ok X G (c.fact 2 (f := .glo "_law_pick") rfl)
  obtain ⟨fd_L_primes, F_L_primes⟩ := c.def_ 3 (d := d_L_primes) rfl
  have g_L_primes := He.glo_ok X G (c.fact 3 (f := .glo "_law_primes") rfl)
  obtain ⟨fd_L_lowered, F_L_lowered⟩ := c.def_ 4 (d := d_L_lowered) rfl
  have g_L_lowered := He.glo_ok X G (c.fact 4 (f := .glo "_law_lowered") rfl)
  obtain ⟨fd_L_is_reduced, F_L_is_reduced⟩ := c.def_ 5 (d := d_L_is_reduced) rfl
  have g_L_is_reduced := He.glo_ok X G (c.fact 5 (f := .glo "_law_is_reduced") rfl)
  obtain ⟨fd_L_common, F_L_common⟩ := c.def_ 6 (d := d_L_common) rfl
  have g_L_common := He.glo_ok X G (c.fact 6 (f := .glo "_law_common") rfl)
  obtain ⟨fd_L_two_forms, F_L_two_forms⟩ := c.def_ 7 (d := d_L_two_forms) rfl
  have g_L_two_forms := He.glo_ok X G (c.fact 7 (f := .glo "_law_two_forms") rfl)
  obtain ⟨fd_L_forms, F_L_forms⟩ := c.def_ 8 (d := d_L_forms) rfl
  have g_L_forms := He.glo_ok X G (c.fact 8 (f := .glo "_law_forms") rfl)
  obtain ⟨fd_L_left, F_L_left⟩ := c.def_ 9 (d := d_L_left) rfl
  have g_L_left := He.glo_ok X G (c.fact 9 (f := .glo "_law_left") rfl)
  obtain ⟨fd_L_mark, F_L_mark⟩ := c.def_ 10 (d := d_L_mark) rfl
  have g_L_mark := He.glo_ok X G (c.fact 10 (f := .glo "_law_mark") rfl)
  obtain ⟨fd_L_twelfths, F_L_twelfths⟩ := c.def_ 11 (d := d_L_twelfths) rfl
  have g_L_twelfths := He.glo_ok X G (c.fact 11 (f := .glo "_law_twelfths") rfl)
  obtain ⟨fd_P_is_integer, F_P_is_integer⟩ := c.def_ 12 (d := d_P_is_integer) rfl
  have g_P_is_integer := He.glo_ok X G (c.fact 12 (f := .glo "is_integer") rfl)
  obtain ⟨fd_P_next_divisor, F_P_next_divisor⟩ := c.def_ 13 (d := d_P_next_divisor) rfl
  have g_P_next_divisor := He.glo_ok X G (c.fact 13 (f := .glo "next_divisor") rfl)
  obtain ⟨fd_P_is_prime, F_P_is_prime⟩ := c.def_ 14 (d := d_P_is_prime) rfl
  have g_P_is_prime := He.glo_ok X G (c.fact 14 (f := .glo "is_prime") rfl)
  obtain ⟨fd_P_is_odd_primes, F_P_is_odd_primes⟩ := c.def_ 15 (d := d_P_is_odd_primes) rfl
  have g_P_is_odd_primes := He.glo_ok X G (c.fact 15 (f := .glo "is_odd_primes") rfl)
  obtain ⟨fd_P_check_primes, F_P_check_primes⟩ := c.def_ 16 (d := d_P_check_primes) rfl
  have g_P_check_primes := He.glo_ok X G (c.fact 16 (f := .glo "check_primes") rfl)
  obtain ⟨fd_P_check_trace, F_P_check_trace⟩ := c.def_ 17 (d := d_P_check_trace) rfl
  have g_P_check_trace := He.glo_ok X G (c.fact 17 (f := .glo "check_trace") rfl)
  obtain ⟨fd_P_check_many, F_P_check_many⟩ := c.def_ 18 (d := d_P_check_many) rfl
  have g_P_check_many := He.glo_ok X G (c.fact 18 (f := .glo "check_many") rfl)
  obtain ⟨fd_P_totient, F_P_totient⟩ := c.def_ 19 (d := d_P_totient) rfl
  have g_P_totient := He.glo_ok X G (c.fact 19 (f := .glo "totient") rfl)
  obtain ⟨fd_P_lowest_terms, F_P_lowest_terms⟩ := c.def_ 20 (d := d_P_lowest_terms) rfl
  have g_P_lowest_terms := He.glo_ok X G (c.fact 20 (f := .glo "lowest_terms") rfl)
  obtain ⟨fd_P_sign_of, F_P_sign_of⟩ := c.def_ 21 (d := d_P_sign_of) rfl
  have g_P_sign_of := He.glo_ok X G (c.fact 21 (f := .glo "sign_of") rfl)
  obtain ⟨fd_P_is_passed, F_P_is_passed⟩ := c.def_ 22 (d := d_P_is_passed) rfl
  have g_P_is_passed := He.glo_ok X G (c.fact 22 (f := .glo "is_passed") rfl)
  obtain ⟨fd_P_Ratio___init__, F_P_Ratio___init__⟩ := c.def_ 23 (d := d_P_Ratio___init__) rfl
  obtain ⟨fd_P_made_ratio, F_P_made_ratio⟩ := c.def_ 24 (d := d_P_made_ratio) rfl
  have g_P_made_ratio := He.glo_ok X G (c.fact 23 (f := .glo "made_ratio") rfl)
  obtain ⟨fd_P_square_parts, F_P_square_parts⟩ := c.def_ 25 (d := d_P_square_parts) rfl
  have g_P_square_parts := He.glo_ok X G (c.fact 24 (f := .glo "square_parts") rfl)
  obtain ⟨fd_P_is_triple, F_P_is_triple⟩ := c.def_ 26 (d := d_P_is_triple) rfl
  have g_P_is_triple := He.glo_ok X G (c.fact 25 (f := .glo "is_triple") rfl)
  obtain ⟨fd_P_is_two_form, F_P_is_two_form⟩ := c.def_ 27 (d := d_P_is_two_form) rfl
  have g_P_is_two_form := He.glo_ok X G (c.fact 26 (f := .glo "is_two_form") rfl)
  obtain ⟨fd_P_is_reduced, F_P_is_reduced⟩ := c.def_ 28 (d := d_P_is_reduced) rfl
  have g_P_is_reduced := He.glo_ok X G (c.fact 27 (f := .glo "is_reduced") rfl)
  obtain ⟨fd_P_forms_with, F_P_forms_with⟩ := c.def_ 29 (d := d_P_forms_with) rfl
  have g_P_forms_with := He.glo_ok X G (c.fact 28 (f := .glo "forms_with") rfl)
  obtain ⟨fd_P_power_modulo, F_P_power_modulo⟩ := c.def_ 30 (d := d_P_power_modulo) rfl
  have g_P_power_modulo := He.glo_ok X G (c.fact 29 (f := .glo "power_modulo") rfl)
  obtain ⟨fd_P_rest_sign, F_P_rest_sign⟩ := c.def_ 31 (d := d_P_rest_sign) rfl
  have g_P_rest_sign := He.glo_ok X G (c.fact 30 (f := .glo "rest_sign") rfl)
  obtain ⟨fd_P_mark, F_P_mark⟩ := c.def_ 32 (d := d_P_mark) rfl
  have g_P_mark := He.glo_ok X G (c.fact 31 (f := .glo "mark") rfl)
  obtain ⟨fd_P_units_of, F_P_units_of⟩ := c.def_ 33 (d := d_P_units_of) rfl
  have g_P_units_of := He.glo_ok X G (c.fact 32 (f := .glo "units_of") rfl)
  obtain ⟨fd_P_is_fraction, F_P_is_fraction⟩ := c.def_ 34 (d := d_P_is_fraction) rfl
  have g_P_is_fraction := He.glo_ok X G (c.fact 33 (f := .glo "is_fraction") rfl)
  obtain ⟨fd_P_terms_of, F_P_terms_of⟩ := c.def_ 35 (d := d_P_terms_of) rfl
  have g_P_terms_of := He.glo_ok X G (c.fact 34 (f := .glo "terms_of") rfl)
  obtain ⟨fd_P_Ratio___add__, F_P_Ratio___add__⟩ := c.def_ 36 (d := d_P_Ratio___add__) rfl
  obtain ⟨fd_P_summand_of, F_P_summand_of⟩ := c.def_ 37 (d := d_P_summand_of) rfl
  have g_P_summand_of := He.glo_ok X G (c.fact 35 (f := .glo "summand_of") rfl)
  obtain ⟨fd_P_summand, F_P_summand⟩ := c.def_ 38 (d := d_P_summand) rfl
  have g_P_summand := He.glo_ok X G (c.fact 36 (f := .glo "summand") rfl)
  obtain ⟨fd_P_Ratio___eq__, F_P_Ratio___eq__⟩ := c.def_ 39 (d := d_P_Ratio___eq__) rfl
  obtain ⟨fd_L_is_barred, F_L_is_barred⟩ := c.def_ 40 (d := d_L_is_barred) rfl
  have g_L_is_barred := He.glo_ok X G (c.fact 37 (f := .glo "_law_is_barred") rfl)
  obtain ⟨fd_P_Ratio___mul__, F_P_Ratio___mul__⟩ := c.def_ 41 (d := d_P_Ratio___mul__) rfl
  obtain ⟨fd_P_trace_by_forms, F_P_trace_by_forms⟩ := c.def_ 42 (d := d_P_trace_by_forms) rfl
  have g_P_trace_by_forms := He.glo_ok X G (c.fact 38 (f := .glo "trace_by_forms") rfl)
  obtain ⟨fd_L_classes, F_L_classes⟩ := c.def_ 43 (d := d_L_classes) rfl
  have g_L_classes := He.glo_ok X G (c.fact 39 (f := .glo "_law_classes") rfl)
  obtain ⟨fd_L_right, F_L_right⟩ := c.def_ 44 (d := d_L_right) rfl
  have g_L_right := He.glo_ok X G (c.fact 40 (f := .glo "_law_right") rfl)
  obtain ⟨fd_P_Ratio___str__, F_P_Ratio___str__⟩ := c.def_ 45 (d := d_P_Ratio___str__) rfl
  obtain ⟨fd_L_law, F_L_law⟩ := c.def_ 46 (d := d_L_law) rfl
  have g_L_law := He.glo_ok X G (c.fact 41 (f := .glo "law") rfl)
  have e := hfa.symm.trans g_L_law
  cases e
  have z0 := z
  obtain ⟨y1, z1⟩ := He.ba z0
  obtain ⟨y2, z2⟩ := He.ba z1
  obtain ⟨y3, z3⟩ := He.ba z2
  have own_Ratio : OwnK K (He.ga K "Ratio") := ownB_ok (He.cls_ok (c.fact 62 (f := .cls "Ratio") rfl)) y3
  have T : Glob mg := ⟨He.free_ok X G (c.fact 42 (f := .free "isinstance") rfl), He.free_ok X G (c.fact 43 (f := .free "int") rfl), He.free_ok X G (c.fact 44 (f := .free "bool") rfl), He.free_ok X G (c.fact 45 (f := .free "abs") rfl), He.free_ok X G (c.fact 46 (f := .free "tuple") rfl), He.free_ok X G (c.fact 47 (f := .free "all") rfl), He.free_ok X G (c.fact 48 (f := .free "len") rfl), He.free_ok X G (c.fact 49 (f := .free "str") rfl), He.free_ok X G (c.fact 50 (f := .free "range") rfl), He.free_ok X G (c.fact 51 (f := .free "divmod") rfl), He.free_ok X G (c.fact 52 (f := .free "max") rfl), He.free_ok X G (c.fact 53 (f := .free "sorted") rfl), He.free_ok X G (c.fact 54 (f := .free "set") rfl), He.free_ok X G (c.fact 55 (f := .free "min") rfl), gblB_ok X G y1, gblB_ok X G y2, He.int_ok X G (c.fact 56 (f := .int "TOO_LONG" 1000000000000000000000000000000000000000000000000000000000000) rfl), He.int_ok X G (c.fact 57 (f := .int "MAX_NUMBER" 1000000000) rfl), He.int_ok X G (c.fact 58 (f := .int "MAX_PRODUCT" 120) rfl), He.int_ok X G (c.fact 59 (f := .int "MAX_TRACE" 1000) rfl), He.int_ok X G (c.fact 60 (f := .int "MAX_MANY" 200) rfl)⟩
  obtain ⟨us_P_Ratio___init___1, dv_P_Ratio___init___1, bd_P_Ratio___init___1⟩ := F_P_Ratio___init__.binds1 (ps := ["self", "top", "bottom"]) 2 0 (fun e => by cases e) rfl fun _ _ _ _ _ _ _ us its hl hi => match us, hl, its, hi with | [_, _], _, [_], _ => ⟨_, rfl, rfl⟩
  obtain ⟨us_P_Ratio___init___2, dv_P_Ratio___init___2, bd_P_Ratio___init___2⟩ := F_P_Ratio___init__.binds1 (ps := ["self", "top", "bottom"]) 3 1 (fun e => by cases e) rfl fun _ _ _ _ _ _ _ us its hl hi => match us, hl, its, hi with | [_, _, _], _, [_], _ => ⟨_, rfl, rfl⟩
  have b := FunD.bindsA (ps := ["_law_script"]) F_L_law fun _ _ _ _ _ _ us hl => match us, hl with | [_], _ => rfl
  refine ⟨fd_L_law, fun s v => b s [v] rfl, fun base _ _ => ?_⟩
  have C_L_jar : Cal P w K mg base 1 "_law_jar" ["_law_script", "_law_spot"] (spSack K) := ⟨_, fd_L_jar, ok_jar F_L_jar T, g_L_jar, F_L_jar.kp, F_L_jar.bindsN fun _ _ _ _ _ _ us hl => match us, hl with | [_, _], _ => rfl⟩
  have C_L_scoop : Cal P w K mg base 1 "_law_scoop" ["_law_jar_here", "_law_total"] spTake := ⟨_, fd_L_scoop, ok_scoop F_L_scoop T, g_L_scoop, F_L_scoop.kp, F_L_scoop.bindsN fun _ _ _ _ _ _ us hl => match us, hl with | [_, _], _ => rfl⟩
  have C_L_pick : Cal P w K mg base 2 "_law_pick" ["_law_jar_here", "_law_items"] (spOneOf K) := ⟨_, fd_L_pick, ok_pick F_L_pick T C_L_scoop, g_L_pick, F_L_pick.kp, F_L_pick.bindsN fun _ _ _ _ _ _ us hl => match us, hl with | [_, _], _ => rfl⟩
  have C_L_primes : Cal P w K mg base 3 "_law_primes" ["_law_jar_here"] spPrm := ⟨_, fd_L_primes, ok_primes F_L_primes C_L_pick, g_L_primes, F_L_primes.kp, F_L_primes.bindsN fun _ _ _ _ _ _ us hl => match us, hl with | [_], _ => rfl⟩
  have C_L_lowered : Cal P w K mg base 1 "_law_lowered" ["_law_number"] spLow := ⟨_, fd_L_lowered, ok_lowered F_L_lowered T, g_L_lowered, F_L_lowered.kp, F_L_lowered.bindsN fun _ _ _ _ _ _ us hl => match us, hl with | [_], _ => rfl⟩
  have C_L_is_reduced : Cal P w K mg base 1 "_law_is_reduced" ["_law_a", "_law_b", "_law_c"] (fun vs H Q _ => ∃ a b c : Int, vs = [.int a, .int b, .int c] ∧ ∀ r : Bool, (r = true ↔ RedQ2 a b c) → Q (.bl r) H) := ⟨_, fd_L_is_reduced, ok_law_is_reduced F_L_is_reduced , g_L_is_reduced, F_L_is_reduced.kp, F_L_is_reduced.bindsN fun _ _ _ _ _ _ us hl => match us, hl with | [_, _, _], _ => rfl⟩
  have C_L_common : Cal P w K mg base 1 "_law_common" ["_law_one", "_law_other"] spCommon := ⟨_, fd_L_common, ok_common F_L_common T, g_L_common, F_L_common.kp, F_L_common.bindsN fun _ _ _ _ _ _ us hl => match us, hl with | [_, _], _ => rfl⟩
  have C_L_two_forms : Cal P w K mg base 2 "_law_two_forms" ["_law_a", "_law_b", "_law_c"] spTwoL := ⟨_, fd_L_two_forms, ok_two_forms F_L_two_forms C_L_is_reduced C_L_common, g_L_two_forms, F_L_two_forms.kp, F_L_two_forms.bindsN fun _ _ _ _ _ _ us hl => match us, hl with | [_, _, _], _ => rfl⟩
  have C_L_forms : Cal P w K mg base 3 "_law_forms" ["_law_number"] spLawF := ⟨_, fd_L_forms, ok_law_forms F_L_forms T C_L_two_forms, g_L_forms, F_L_forms.kp, F_L_forms.bindsN fun _ _ _ _ _ _ us hl => match us, hl with | [_], _ => rfl⟩
  have C_L_left : Cal P w K mg base 1 "_law_left" ["_law_number", "_law_prime"] spLeft := ⟨_, fd_L_left, ok_left F_L_left T, g_L_left, F_L_left.kp, F_L_left.bindsN fun _ _ _ _ _ _ us hl => match us, hl with | [_, _], _ => rfl⟩
  have C_L_mark : Cal P w K mg base 2 "_law_mark" ["_law_prime", "_law_number"] spMark := ⟨_, fd_L_mark, ok_law_mark F_L_mark C_L_lowered C_L_left, g_L_mark, F_L_mark.kp, F_L_mark.bindsN fun _ _ _ _ _ _ us hl => match us, hl with | [_, _], _ => rfl⟩
  have C_L_twelfths : Cal P w K mg base 4 "_law_twelfths" ["_law_primes_here", "_law_trace", "_law_many"] spTw := ⟨_, fd_L_twelfths, ok_twelfths F_L_twelfths T C_L_lowered C_L_forms C_L_mark, g_L_twelfths, F_L_twelfths.kp, F_L_twelfths.bindsN fun _ _ _ _ _ _ us hl => match us, hl with | [_, _, _], _ => rfl⟩
  have C_P_is_integer : Cal P w K mg base 1 "is_integer" ["value"] (spIsInt K) := ⟨_, fd_P_is_integer, ok_is_integer F_P_is_integer T, g_P_is_integer, F_P_is_integer.kp, F_P_is_integer.bindsN fun _ _ _ _ _ _ us hl => match us, hl with | [_], _ => rfl⟩
  have C_P_next_divisor : Cal P w K mg base 1 "next_divisor" ["divisor"] spNext := ⟨_, fd_P_next_divisor, ok_next F_P_next_divisor , g_P_next_divisor, F_P_next_divisor.kp, F_P_next_divisor.bindsN fun _ _ _ _ _ _ us hl => match us, hl with | [_], _ => rfl⟩
  have C_P_is_prime : Cal P w K mg base 2 "is_prime" ["value"] (spIsPrime K) := ⟨_, fd_P_is_prime, ok_is_prime F_P_is_prime T C_P_is_integer C_P_next_divisor, g_P_is_prime, F_P_is_prime.kp, F_P_is_prime.bindsN fun _ _ _ _ _ _ us hl => match us, hl with | [_], _ => rfl⟩
  have C_P_is_odd_primes : Cal P w K mg base 3 "is_odd_primes" ["value"] spOddP := ⟨_, fd_P_is_odd_primes, ok_is_odd_primes F_P_is_odd_primes T C_P_is_integer C_P_is_prime, g_P_is_odd_primes, F_P_is_odd_primes.kp, F_P_is_odd_primes.bindsN fun _ _ _ _ _ _ us hl => match us, hl with | [_], _ => rfl⟩
  have C_P_check_primes : Cal P w K mg base 4 "check_primes" ["value"] spChkP := ⟨_, fd_P_check_primes, ok_check_primes F_P_check_primes T C_P_is_odd_primes, g_P_check_primes, F_P_check_primes.kp, F_P_check_primes.bindsN fun _ _ _ _ _ _ us hl => match us, hl with | [_], _ => rfl⟩
  have C_P_check_trace : Cal P w K mg base 2 "check_trace" ["value"] (fun vs H Q _ => ∃ n : Int, vs = [.int n] ∧ n.natAbs ≤ 1000 ∧ Q .non H) := ⟨_, fd_P_check_trace, ok_check_trace F_P_check_trace T C_P_is_integer, g_P_check_trace, F_P_check_trace.kp, F_P_check_trace.bindsN fun _ _ _ _ _ _ us hl => match us, hl with | [_], _ => rfl⟩
  have C_P_check_many : Cal P w K mg base 2 "check_many" ["value"] (fun vs H Q _ => ∃ n : Nat, vs = [.int n] ∧ 1 ≤ n ∧ n ≤ 200 ∧ Q .non H) := ⟨_, fd_P_check_many, ok_check_many F_P_check_many T C_P_is_integer, g_P_check_many, F_P_check_many.kp, F_P_check_many.bindsN fun _ _ _ _ _ _ us hl => match us, hl with | [_], _ => rfl⟩
  have C_P_totient : Cal P w K mg base 1 "totient" ["primes"] spTot := ⟨_, fd_P_totient, ok_totient F_P_totient , g_P_totient, F_P_totient.kp, F_P_totient.bindsN fun _ _ _ _ _ _ us hl => match us, hl with | [_], _ => rfl⟩
  have C_P_lowest_terms : Cal P w K mg base 1 "lowest_terms" ["top", "bottom"] spLowest := ⟨_, fd_P_lowest_terms, ok_lowest_terms F_P_lowest_terms T, g_P_lowest_terms, F_P_lowest_terms.kp, F_P_lowest_terms.bindsN fun _ _ _ _ _ _ us hl => match us, hl with | [_, _], _ => rfl⟩
  have C_P_sign_of : Cal P w K mg base 1 "sign_of" ["number"] spSignOf := ⟨_, fd_P_sign_of, ok_sign_of F_P_sign_of , g_P_sign_of, F_P_sign_of.kp, F_P_sign_of.bindsN fun _ _ _ _ _ _ us hl => match us, hl with | [_], _ => rfl⟩
  have C_P_is_passed : Cal P w K mg base 2 "is_passed" ["value"] (spPassed K) := ⟨_, fd_P_is_passed, ok_is_passed F_P_is_passed T C_P_is_integer, g_P_is_passed, F_P_is_passed.kp, F_P_is_passed.bindsN fun _ _ _ _ _ _ us hl => match us, hl with | [_], _ => rfl⟩
  have OK_P_Ratio___init__ : FnOk P w K mg base CX0 3 _ fd_P_Ratio___init__ ["self", "top", "bottom"] (spRatInit (He.ga K "Ratio")) := ok_Ratio_init F_P_Ratio___init__ (⟨own_Ratio, He.noat_ok (c.fact 63 (f := .noat "Ratio" "top") rfl), He.noat_ok (c.fact 64 (f := .noat "Ratio" "bottom") rfl), He.noat_ok (c.fact 65 (f := .noat "Ratio" "sign") rfl)⟩ : RatioK K (He.ga K "Ratio")) C_P_is_passed C_P_lowest_terms C_P_sign_of
  have C_P_made_ratio : Cal P w K mg base 5 "made_ratio" ["top", "bottom"] (spMadeRatio (He.ga K "Ratio")) := ⟨_, fd_P_made_ratio, ok_made_ratio F_P_made_ratio (⟨own_Ratio, He.noat_ok (c.fact 63 (f := .noat "Ratio" "top") rfl), He.noat_ok (c.fact 64 (f := .noat "Ratio" "bottom") rfl), He.noat_ok (c.fact 65 (f := .noat "Ratio" "sign") rfl)⟩ : RatioK K (He.ga K "Ratio")) C_P_lowest_terms C_P_sign_of (⟨_, fd_P_Ratio___init__, us_P_Ratio___init___1, OK_P_Ratio___init__, He.mkr_ok (c.fact 66 (f := .mkr "Ratio") rfl), (He.glo_ok X G (c.fact 61 (f := .glo "Ratio") rfl)), bd_P_Ratio___init___1, dv_P_Ratio___init___1⟩ : CalC P w K mg base 3 "Ratio" (He.ga K "Ratio") ["self", "top", "bottom"] [.int 1] (spRatInit (He.ga K "Ratio"))), g_P_made_ratio, F_P_made_ratio.kp, F_P_made_ratio.bindsN fun _ _ _ _ _ _ us hl => match us, hl with | [_, _], _ => rfl⟩
  have C_P_square_parts : Cal P w K mg base 1 "square_parts" ["number"] spSqP := ⟨_, fd_P_square_parts, ok_square_parts F_P_square_parts T, g_P_square_parts, F_P_square_parts.kp, F_P_square_parts.bindsN fun _ _ _ _ _ _ us hl => match us, hl with | [_], _ => rfl⟩
  have C_P_is_triple : Cal P w K mg base 2 "is_triple" ["value"] spTripI := ⟨_, fd_P_is_triple, ok_is_triple F_P_is_triple T C_P_is_integer, g_P_is_triple, F_P_is_triple.kp, F_P_is_triple.bindsN fun _ _ _ _ _ _ us hl => match us, hl with | [_], _ => rfl⟩
  have C_P_is_two_form : Cal P w K mg base 3 "is_two_form" ["value"] spTwo := ⟨_, fd_P_is_two_form, ok_is_two_form F_P_is_two_form T C_P_is_triple, g_P_is_two_form, F_P_is_two_form.kp, F_P_is_two_form.bindsN fun _ _ _ _ _ _ us hl => match us, hl with | [_], _ => rfl⟩
  have C_P_is_reduced : Cal P w K mg base 4 "is_reduced" ["value"] spRed := ⟨_, fd_P_is_reduced, ok_is_reduced F_P_is_reduced C_P_is_two_form, g_P_is_reduced, F_P_is_reduced.kp, F_P_is_reduced.bindsN fun _ _ _ _ _ _ us hl => match us, hl with | [_], _ => rfl⟩
  have C_P_forms_with : Cal P w K mg base 5 "forms_with" ["number"] spForms := ⟨_, fd_P_forms_with, ok_forms_with F_P_forms_with T C_P_is_reduced, g_P_forms_with, F_P_forms_with.kp, F_P_forms_with.bindsN fun _ _ _ _ _ _ us hl => match us, hl with | [_], _ => rfl⟩
  have C_P_power_modulo : Cal P w K mg base 1 "power_modulo" ["number", "many", "modulus"] spPowMod := ⟨_, fd_P_power_modulo, ok_powmod F_P_power_modulo , g_P_power_modulo, F_P_power_modulo.kp, F_P_power_modulo.bindsN fun _ _ _ _ _ _ us hl => match us, hl with | [_, _, _], _ => rfl⟩
  have C_P_rest_sign : Cal P w K mg base 2 "rest_sign" ["number", "prime"] spRestSign := ⟨_, fd_P_rest_sign, ok_rest_sign F_P_rest_sign C_P_power_modulo, g_P_rest_sign, F_P_rest_sign.kp, F_P_rest_sign.bindsN fun _ _ _ _ _ _ us hl => match us, hl with | [_, _], _ => rfl⟩
  have C_P_mark : Cal P w K mg base 3 "mark" ["prime", "number"] spMark := ⟨_, fd_P_mark, ok_mark F_P_mark C_P_square_parts C_P_rest_sign, g_P_mark, F_P_mark.kp, F_P_mark.bindsN fun _ _ _ _ _ _ us hl => match us, hl with | [_, _], _ => rfl⟩
  have C_P_units_of : Cal P w K mg base 1 "units_of" ["number"] (fun vs H Q _ => ∃ n : Nat, vs = [.int n] ∧ Q (.int (unitsN n)) H) := ⟨_, fd_P_units_of, ok_units_of F_P_units_of , g_P_units_of, F_P_units_of.kp, F_P_units_of.bindsN fun _ _ _ _ _ _ us hl => match us, hl with | [_], _ => rfl⟩
  have C_P_is_fraction : Cal P w K mg base 3 "is_fraction" ["value"] (spRatV (He.ga K "Ratio") (.bl true)) := ⟨_, fd_P_is_fraction, ok_is_fraction F_P_is_fraction T (⟨own_Ratio, He.noat_ok (c.fact 63 (f := .noat "Ratio" "top") rfl), He.noat_ok (c.fact 64 (f := .noat "Ratio" "bottom") rfl), He.noat_ok (c.fact 65 (f := .noat "Ratio" "sign") rfl)⟩ : RatioK K (He.ga K "Ratio")) (He.glo_ok X G (c.fact 61 (f := .glo "Ratio") rfl)) C_P_is_passed, g_P_is_fraction, F_P_is_fraction.kp, F_P_is_fraction.bindsN fun _ _ _ _ _ _ us hl => match us, hl with | [_], _ => rfl⟩
  have C_P_terms_of : Cal P w K mg base 1 "terms_of" ["ratio"] (spTermsOf (He.ga K "Ratio")) := ⟨_, fd_P_terms_of, ok_terms_of F_P_terms_of T (⟨own_Ratio, He.noat_ok (c.fact 63 (f := .noat "Ratio" "top") rfl), He.noat_ok (c.fact 64 (f := .noat "Ratio" "bottom") rfl), He.noat_ok (c.fact 65 (f := .noat "Ratio" "sign") rfl)⟩ : RatioK K (He.ga K "Ratio")) (He.glo_ok X G (c.fact 61 (f := .glo "Ratio") rfl)), g_P_terms_of, F_P_terms_of.kp, F_P_terms_of.bindsN fun _ _ _ _ _ _ us hl => match us, hl with | [_], _ => rfl⟩
  have OK_P_Ratio___add__ : FnOk P w K mg base CX0 6 _ fd_P_Ratio___add__ ["self", "other"] (spRatOp (He.ga K "Ratio") (fun t b t2 b2 => t * b2 + t2 * b) (fun _ b _ b2 => b * b2)) := ok_Ratio_add F_P_Ratio___add__ (⟨own_Ratio, He.noat_ok (c.fact 63 (f := .noat "Ratio" "top") rfl), He.noat_ok (c.fact 64 (f := .noat "Ratio" "bottom") rfl), He.noat_ok (c.fact 65 (f := .noat "Ratio" "sign") rfl)⟩ : RatioK K (He.ga K "Ratio")) C_P_is_fraction C_P_terms_of C_P_made_ratio
  have C_P_summand_of : Cal P w K mg base 7 "summand_of" ["primes", "number"] (spSum (He.ga K "Ratio")) := ⟨_, fd_P_summand_of, ok_summand_of F_P_summand_of T C_P_totient C_P_made_ratio C_P_square_parts C_P_forms_with C_P_mark C_P_units_of (⟨_, fd_P_Ratio___init__, us_P_Ratio___init___1, OK_P_Ratio___init__, He.mkr_ok (c.fact 66 (f := .mkr "Ratio") rfl), (He.glo_ok X G (c.fact 61 (f := .glo "Ratio") rfl)), bd_P_Ratio___init___1, dv_P_Ratio___init___1⟩ : CalC P w K mg base 3 "Ratio" (He.ga K "Ratio") ["self", "top", "bottom"] [.int 1] (spRatInit (He.ga K "Ratio"))) own_Ratio (⟨_, fd_P_Ratio___add__, OK_P_Ratio___add__, He.meth_ok (c.fact 67 (f := .meth "Ratio" "__add__") rfl), F_P_Ratio___add__.bindsN fun _ _ _ _ _ _ us hl => match us, hl with | [_, _], _ => rfl⟩ : CalM P w K mg base 6 "__add__" (He.ga K "Ratio") ["self", "other"] (spRatOp (He.ga K "Ratio") (fun t b t2 b2 => t * b2 + t2 * b) (fun _ b _ b2 => b * b2))), g_P_summand_of, F_P_summand_of.kp, F_P_summand_of.bindsN fun _ _ _ _ _ _ us hl => match us, hl with | [_, _], _ => rfl⟩
  have C_P_summand : Cal P w K mg base 8 "summand" ["primes", "trace", "many"] (spSmd (He.ga K "Ratio")) := ⟨_, fd_P_summand, ok_summand F_P_summand C_P_check_primes C_P_check_trace C_P_check_many C_P_summand_of, g_P_summand, F_P_summand.kp, F_P_summand.bindsN fun _ _ _ _ _ _ us hl => match us, hl with | [_, _, _], _ => rfl⟩
  have OK_P_Ratio___eq__ : FnOk P w K mg base CX0 2 _ fd_P_Ratio___eq__ ["self", "value"] (spRatEq (He.ga K "Ratio")) := ok_Ratio_eq F_P_Ratio___eq__ T (⟨own_Ratio, He.noat_ok (c.fact 63 (f := .noat "Ratio" "top") rfl), He.noat_ok (c.fact 64 (f := .noat "Ratio" "bottom") rfl), He.noat_ok (c.fact 65 (f := .noat "Ratio" "sign") rfl)⟩ : RatioK K (He.ga K "Ratio")) (He.glo_ok X G (c.fact 61 (f := .glo "Ratio") rfl)) C_P_is_integer
  have C_L_is_barred : Cal P w K mg base 3 "_law_is_barred" ["_law_primes_here", "_law_number"] spBar := ⟨_, fd_L_is_barred, ok_is_barred F_L_is_barred C_L_lowered C_L_mark, g_L_is_barred, F_L_is_barred.kp, F_L_is_barred.bindsN fun _ _ _ _ _ _ us hl => match us, hl with | [_, _], _ => rfl⟩
  have OK_P_Ratio___mul__ : FnOk P w K mg base CX0 6 _ fd_P_Ratio___mul__ ["self", "other"] (spRatOp (He.ga K "Ratio") (fun t b t2 b2 => t * t2) (fun _ b _ b2 => b * b2)) := ok_Ratio_mul F_P_Ratio___mul__ (⟨own_Ratio, He.noat_ok (c.fact 63 (f := .noat "Ratio" "top") rfl), He.noat_ok (c.fact 64 (f := .noat "Ratio" "bottom") rfl), He.noat_ok (c.fact 65 (f := .noat "Ratio" "sign") rfl)⟩ : RatioK K (He.ga K "Ratio")) C_P_is_fraction C_P_terms_of C_P_made_ratio
  have C_P_trace_by_forms : Cal P w K mg base 8 "trace_by_forms" ["primes", "many"] spTrc := ⟨_, fd_P_trace_by_forms, ok_trace_by_forms F_P_trace_by_forms T (⟨own_Ratio, He.noat_ok (c.fact 63 (f := .noat "Ratio" "top") rfl), He.noat_ok (c.fact 64 (f := .noat "Ratio" "bottom") rfl), He.noat_ok (c.fact 65 (f := .noat "Ratio" "sign") rfl)⟩ : RatioK K (He.ga K "Ratio")) C_P_check_primes C_P_check_many C_P_summand_of own_Ratio (⟨_, fd_P_Ratio___add__, OK_P_Ratio___add__, He.meth_ok (c.fact 67 (f := .meth "Ratio" "__add__") rfl), F_P_Ratio___add__.bindsN fun _ _ _ _ _ _ us hl => match us, hl with | [_, _], _ => rfl⟩ : CalM P w K mg base 6 "__add__" (He.ga K "Ratio") ["self", "other"] (spRatOp (He.ga K "Ratio") (fun t b t2 b2 => t * b2 + t2 * b) (fun _ b _ b2 => b * b2))) (⟨_, fd_P_Ratio___mul__, OK_P_Ratio___mul__, He.meth_ok (c.fact 68 (f := .meth "Ratio" "__mul__") rfl), F_P_Ratio___mul__.bindsN fun _ _ _ _ _ _ us hl => match us, hl with | [_, _], _ => rfl⟩ : CalM P w K mg base 6 "__mul__" (He.ga K "Ratio") ["self", "other"] (spRatOp (He.ga K "Ratio") (fun t _ t2 _ => t * t2) (fun _ b _ b2 => b * b2))) (He.noat_ok (c.fact 69 (f := .noat "Ratio" "__rmul__") rfl)), g_P_trace_by_forms, F_P_trace_by_forms.kp, F_P_trace_by_forms.bindsN fun _ _ _ _ _ _ us hl => match us, hl with | [_, _], _ => rfl⟩
  have C_L_classes : Cal P w K mg base 1 "_law_classes" ["_law_primes_here"] spCls := ⟨_, fd_L_classes, ok_classes F_L_classes , g_L_classes, F_L_classes.kp, F_L_classes.bindsN fun _ _ _ _ _ _ us hl => match us, hl with | [_], _ => rfl⟩
  have C_L_right : Cal P w K mg base 9 "_law_right" ["_law_jar_here"] spRgt := ⟨_, fd_L_right, ok_right F_L_right T (⟨own_Ratio, He.noat_ok (c.fact 63 (f := .noat "Ratio" "top") rfl), He.noat_ok (c.fact 64 (f := .noat "Ratio" "bottom") rfl), He.noat_ok (c.fact 65 (f := .noat "Ratio" "sign") rfl)⟩ : RatioK K (He.ga K "Ratio")) C_L_primes C_L_scoop C_L_twelfths C_P_summand (⟨_, fd_P_Ratio___init__, us_P_Ratio___init___2, OK_P_Ratio___init__, He.mkr_ok (c.fact 66 (f := .mkr "Ratio") rfl), (He.glo_ok X G (c.fact 61 (f := .glo "Ratio") rfl)), bd_P_Ratio___init___2, dv_P_Ratio___init___2⟩ : CalC P w K mg base 3 "Ratio" (He.ga K "Ratio") ["self", "top", "bottom"] [] (spRatInit (He.ga K "Ratio"))) own_Ratio (⟨_, fd_P_Ratio___eq__, OK_P_Ratio___eq__, He.meth_ok (c.fact 70 (f := .meth "Ratio" "__eq__") rfl), F_P_Ratio___eq__.bindsN fun _ _ _ _ _ _ us hl => match us, hl with | [_, _], _ => rfl⟩ : CalM P w K mg base 2 "__eq__" (He.ga K "Ratio") ["self", "value"] (spRatEq (He.ga K "Ratio"))) C_L_is_barred C_P_trace_by_forms C_L_classes, g_L_right, F_L_right.kp, F_L_right.bindsN fun _ _ _ _ _ _ us hl => match us, hl with | [_], _ => rfl⟩
  have OK_P_Ratio___str__ : FnOk P w K mg base CX0 1 _ fd_P_Ratio___str__ ["self"] (spRStr (He.ga K "Ratio")) := ok_Ratio_str F_P_Ratio___str__ T (⟨own_Ratio, He.noat_ok (c.fact 63 (f := .noat "Ratio" "top") rfl), He.noat_ok (c.fact 64 (f := .noat "Ratio" "bottom") rfl), He.noat_ok (c.fact 65 (f := .noat "Ratio" "sign") rfl)⟩ : RatioK K (He.ga K "Ratio"))
  exact ok_law F_L_law T C_L_jar C_L_right C_P_trace_by_forms C_P_summand (⟨_, fd_P_Ratio___str__, OK_P_Ratio___str__, He.meth_ok (c.fact 71 (f := .meth "Ratio" "__str__") rfl), F_P_Ratio___str__.bindsN fun _ _ _ _ _ _ us hl => match us, hl with | [_], _ => rfl⟩ : CalM P w K mg base 1 "__str__" (He.ga K "Ratio") ["self"] (spRStr (He.ga K "Ratio")))
end Sf
open PySem PySem.W PySem.Calls PyProof.Rows
set_option maxHeartbeats 0 in
theorem PySem.Challenge.cw_signfours_k72_whole_summands_and_traces_holds : PySem.Challenge.rw_signfours_k72_whole_summands_and_traces.Holds := by
  w_on; o_law
  refine HandSHeadRun.head_imp (r := OpenLaw.row PySem.Challenge.rw_signfours_k72_whole_summands_and_traces) (q := view (OpenLaw.row PySem.Challenge.rw_signfours_k72_whole_summands_and_traces).prog [0, 64]) (H := Sf.hk) (ob := Sf.ob) (M := 20000) (loose := Sf.loose) (d := HandSHeadRun.topDef (OpenLaw.row PySem.Challenge.rw_signfours_k72_whole_summands_and_traces).prog 64) (kwd := []) Sf.ob_eq
    Sf.run (by kernel_rfl) (by kernel_rfl) (by kernel_rfl) (by rfl) (by first | assumption | decide +kernel) (by decide +kernel) ⟨rfl, rfl, rfl, rfl, rfl, by decide +kernel⟩ ?hw ?hc
  case hw => w_witness2
  case hc =>
    refine L2.walk_ofE (l := PySem.Challenge.rw_signfours_k72_whole_summands_and_traces) (n := 63) (k := 10) (x := "_law_script") (CX := L2.CX0) rfl (by decide) (by kernel_rfl) ⟨rfl, by decide, by decide⟩ ?F (fun _ _ _ _ z => z)
    intro w mg fa h Y G hmg0
    obtain ⟨K, KX, c, z⟩ := Y
    have hmg : mg ("law" : PySem.Str) = some (.ref fa) := by
      have e : (HandSHeadRun.topDef (OpenLaw.row PySem.Challenge.rw_signfours_k72_whole_summands_and_traces).prog 64).name = ("law" : PySem.Str) := by kernel_rfl
      rw [← e]
      exact hmg0
    obtain ⟨fd, hb, hF⟩ := Sf.facts (P := (PySem.Challenge.rw_signfours_k72_whole_summands_and_traces).prog) (w := w) KX G hmg c z
    exact ⟨K, fd, Sf.spLaw K, KX, hb, fun H a ns hl _ hS => ⟨a, ns, rfl, hS, hl, fun _ => rfl⟩, hF⟩
