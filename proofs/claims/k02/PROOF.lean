import PyProof.Rows.All
import Wide.All
import OpenK.AllK
import Wide.FinOn
import KE.KStateDown
import Lean
import HandS.Base
import HandS.Call
import HandS.List
import HandS.Comp
import HandS.Ends
import HandS.Evl
import HandS.Dict
import HandS.Iter
import HandS.Text
import HandS.More
import HandS.DictComp
import HandS.Words
import HandS.WordsList
import HandS.WordsExc
import HandS.WordsDict
import HandS.Defaults
import HandS.IsInst
import HandS.Small
import HandS.Wide
import HandS.Style
import HandS.SortInts
import HandS.Set
import HandS.SetFor
import HandS.Strs
import HandS.Star
import HandS.Head0
import HandS.Head1
import HandS.Head2
import HandS.Head3
import HandS.HeadEnd
import HandS.HeadHook1
import HandS.HeadHook2
import KE.KOpsOwn
import KE.GoesMore
import KE.KFmtOwn
import HandS.OwnEq
import HandS.Records
import HandS.Gcd
import HandS.TupAny
import HandS.Walk
import HandS.Zip
import PySem.Challenge.RW_signfours_k02_whole_primes_and_residues
set_option Elab.async false
set_option linter.all false
set_option maxRecDepth 100000
set_option maxHeartbeats 4000000
namespace Sf
open PySem PySem.Spec PyProof.Rows L2
/-- a def of the text that lets no exception out, ready to be called -/
structure Cal (P : Program) (w : World) (K : PySem.W.Frag) (mg : Str → Option Value) (base : Heap) (k : Nat) (x : Str) (ps : List Str) (sp : Sp) where
  f : Addr
  fd : FuncData
  ok : FnOk P w K mg base CX0 k f fd ps sp
  g : mg x = some (.ref f)
  kp : PySem.W.keepIn K (.ref f) = true
  b : Binds K fd ps []
section
variable {X : Cx} {k : Nat} {x : Str} {ps : List Str} {sp : Sp} {e : Expr} {es : List Expr} {t : TA} {p pos : Pos}
theorem pe_cal (C : Cal X.prog X.w X.K X.mg X.base k x ps sp) (hr : Room k X.A) (ha : PA X (e :: es) t) (hg : Gl X x := by rfl) (hdb : (x == ("__debug__" : Str)) = false := by decide)
    (he : starEach (e :: es) X.env = (false, eval e X.env) :: starEach es X.env := by rfl) (hpl : (backTo pos (starEach es X.env)).any (·.1) = false := by rfl) :
    PE X (.Call (.Name x p) (e :: es) [] pos) (tCall sp [] E0 t) :=
  pe_call C.ok hr hg C.g C.kp C.b .nil pass0 ha hdb he hpl
theorem pe_cal0 (C : Cal X.prog X.w X.K X.mg X.base k x ps sp) (hr : Room k X.A) (hg : Gl X x := by rfl) (hdb : (x == ("__debug__" : Str)) = false := by decide) :
    PE X (.Call (.Name x p) [] [] pos) (tCall sp [] E0 tNil) :=
  pe_call0 C.ok hr hg C.g C.kp C.b .nil pass0 hdb
/-- a power of any size that the machine's line takes -/
def CPowW (i j : Int) : Prop := 0 ≤ j ∧ (Builtin.Int.intBits i : Int) * j ≤ 2 ^ 27
theorem op_powW : OpR X (binaryOp .Pow) (rI CPowW fun i j => .int (i ^ j.toNat)) := opI fun _ _ _ _ _ _ _ hc q => pow_int hc.1 hc.2 q
/-- a dict that a call has just made, frozen from here on -/
theorem pe_frz {e : Expr} {te : TE} (h : PE X e te) : PE X e (fun σ H Q => te σ H fun x H1 => ∃ d u, x = .ref d ∧ H1 d = some u ∧ Mut (some u) ∧ ∀ od, Q x (upd H1 d (.frz od u))) := by
  refine ⟨fun pins s σ H Q I hw => ?_⟩
  refine thn (h.run pins s σ _ _ I hw) fun v s1 ⟨y, H1, I1, r, d, u, e1, hd, mu, q⟩ => ?_
  obtain ⟨od, I2⟩ := I1.lock hd mu
  exact ⟨y, _, I2, r, q od⟩
end
section
variable {X : Cx} {e : Expr}
/-- an expression, with a word behind it: what follows is shown once -/
def tMid (t : TE) : TE := fun σ H Q => ∃ Mid : V → Hp → Prop, t σ H Mid ∧ ∀ v H', Mid v H' → Q v H'
theorem pe_cut {t : TE} (h : PE X e t) : PE X e (tMid t) :=
  ⟨fun pins s σ H Q I ⟨Mid, hm, hu⟩ => thn (h.run pins s σ H Mid I hm) fun u s1 ⟨x, H1, I1, r, q⟩ => ⟨x, H1, I1, r, hu x H1 q⟩⟩
def tMidT (t : TT) : TT := fun σ H Q => ∃ Mid : Bool → Hp → Prop, t σ H Mid ∧ ∀ v H', Mid v H' → Q v H'
theorem pt_mid {t : TT} (h : PT X e t) : PT X e (tMidT t) :=
  ⟨fun pins s σ H Q I ⟨Mid, hm, hu⟩ => thn (h.run pins s σ H Mid I hm) fun b s1 ⟨H1, I1, q⟩ => ⟨H1, I1, hu b H1 q⟩⟩
end
theorem same_upd {H : Hp} {p : Addr} {o : HO} (h : H p = none) : Same H (upd H p o) := fun b x e => by
  rw [upd_ne (ne_of_none e h)]
  exact e
theorem CMulW.of {i j : Int} (hi : i.natAbs < 2 ^ 3000) (hj : j.natAbs < 2 ^ 3000) : CMulW i j := wide_mul hi hj (by decide) (by decide) (by decide)
theorem CDivW.of {i j : Int} (h0 : 0 < j) (hj : j.natAbs < 2 ^ 3000) : CDivW i j := wide_div h0 hj (by decide) (by decide)
theorem two3000 : (10 : Nat) ^ 600 < 2 ^ 3000 := by decide +kernel
end Sf
namespace Sf
open PySem PySem.Spec PyProof.Rows L2
/-- an if whose test is a decision -/
theorem ifd {p : Prop} [Decidable p] {A B : Prop} (h1 : p → A) (h2 : ¬ p → B) : if decide p = true then A else B := by
  by_cases h : p
  · rw [if_pos (decide_eq_true h)]; exact h1 h
  · rw [if_neg (by simpa using h)]; exact h2 h
theorem ifn {p : Prop} [Decidable p] {A B : Prop} (h1 : ¬ p → A) (h2 : p → B) : if (!decide p) = true then A else B := by
  by_cases h : p
  · rw [if_neg (by simpa using h)]; exact h2 h
  · rw [if_pos (by simpa using h)]; exact h1 h
theorem ifb {b : Bool} {A B : Prop} (h1 : b = true → A) (h2 : b = false → B) : if b = true then A else B := by
  cases b with
  | true => rw [if_pos rfl]; exact h1 rfl
  | false => rw [if_neg Bool.false_ne_true]; exact h2 rfl
end Sf
namespace Sf
open PySem PySem.Spec PyProof.Rows L2
/-! the head's facts and one more Bool -/
abbrev AlO : Type := He.AlD × Bool
/-- what is looked at: the module's names, what they name, so on; a code object's own things are left out -/
def refsN (o : Obj) : List Addr := match o.data with
  | .dict es _ => es.toList.flatMap fun e => He.refV e.val
  | .func fd => He.refV fd.code ++ He.refV fd.defaults
  | .cls cd => cd.ns :: cd.mro.flatMap He.refV
  | _ => []
def stepN (g : Addr → Option Obj) (as : List Addr) : List Addr := as.flatMap fun a => match g a with
  | some o => refsN o
  | none => []
def asN (g : Addr → Option Obj) : Nat → List Addr → List Addr
  | 0, as => as
  | n + 1, as => as ++ asN g n (stepN g as)
def obsO (n : Nat) (fa : List He.Fa) (fn : List He.DefD) (ex : PySem.W.Frag → Bool) (g : Addr → Option Obj) : AlO := (He.obsD fa fn (He.frG g (asN g n [mainGlobals])), ex (He.frG g (asN g n [mainGlobals])))
def hookO (n : Nat) (fa : List He.Fa) (fn : List He.DefD) (ex : PySem.W.Frag → Bool) : PySem.W.Hook where
  α := AlO
  obs := fun s => obsO n fa fn ex s.heap.get?
  val := fun _ => (He.valD fn, true)
  says := fun _ h => ∃ K : PySem.W.Frag, K.In h ∧ He.SaysD fa fn K ∧ ex K = true
  of := fun _ _ e => ⟨_, He.frG_in, congrArg (fun z : AlO => z.1) e, congrArg (fun z : AlO => z.2) e⟩
  keeps := fun _ _ _ ⟨K, hK, c⟩ k => ⟨K, PySem.W.Frag.In.keeps hK k, c⟩
theorem obsO_eq {n : Nat} {fa : List He.Fa} {fn : List He.DefD} {ex : PySem.W.Frag → Bool} {g : Addr → Option Obj} {s : Shared} (h : ∀ a, g a = s.heap.get? a) : obsO n fa fn ex g = (hookO n fa fn ex).obs s := by
  have e : g = s.heap.get? := funext h
  rw [e] <;> rfl
def ownB (K : PySem.W.Frag) (x : Str) : Bool := PySem.W.selfFirst K (He.ga K x) && (decide (PySem.W.subIn K (.type "int") (.ref (He.ga K x)) = some false) && (He.eqO (PySem.W.findIn K (.ref (He.ga K x)) "__ne__") (some (some (.builtin "object.__ne__"))) &&
  (decide (PySem.W.mroIn K (He.ga K x) (.type "object") = some true) && (He.eqO (PySem.W.findIn K (.ref (He.ga K x)) "__class__") (some (some (.builtin "object.__class__"))) && (He.eqO (PySem.W.specialIn K (.builtin "object.__class__") "__get__") (some (some (.builtin "getset_descriptor.__get__"))) &&
  (decide (PySem.W.takesIn K (.builtin "object.__class__") = some true) && (decide (PySem.W.kitOne K (.ref (He.ga K x)) (.ref (He.ga K x)) = some true) && decide (PySem.W.kitOne K (.type "int") (.ref (He.ga K x)) = some false))))))))
/-- a module's name that holds a built-in function -/
def gblB (K : PySem.W.Frag) (x : Str) (id : String) : Bool := He.eqO (PySem.W.nsIn K mainGlobals x) (some (some (.builtin id)))
theorem gblB_ok {K : PySem.W.Frag} {h : Heap} {mg : Str → Option Value} (X : K.In h) (G : h.Ns mainGlobals mg) {x : Str} {id : String} (c : gblB K x id = true) : mg x = some (.builtin id) := PySem.W.mg_of X G (He.eqO_ok c)
end Sf

namespace Sf
open PySem PySem.Spec PyProof.Rows L2
def top (i : Nat) : Stmt := PySem.Challenge.pw_signfours_k02_whole_primes_and_residues.main.body.getD i (.Pass ⟨0, 0, 0, 0⟩)
abbrev s_P_is_integer : Stmt := top 1
theorem sc_P_is_integer : FnScope ["value"] ["value"] (defScope s_P_is_integer) := ⟨rfl, rfl, rfl, by decide +kernel, rfl, by decide +kernel, by decide +kernel⟩
abbrev s_P_InvalidNumber___init__ : Stmt := inClass (top 3) 0
theorem sc_P_InvalidNumber___init__ : FnScope ["self", "given"] ["self", "given"] (defScope s_P_InvalidNumber___init__) := ⟨rfl, rfl, rfl, by decide +kernel, rfl, by decide +kernel, by decide +kernel⟩
abbrev s_P_is_prime : Stmt := top 6
theorem sc_P_is_prime : FnScope ["value", "divisor"] ["value"] (defScope s_P_is_prime) := ⟨rfl, rfl, rfl, by decide +kernel, rfl, by decide +kernel, by decide +kernel⟩
abbrev s_P_factors : Stmt := top 7
theorem sc_P_factors : FnScope ["number"] ["number"] (defScope s_P_factors) := ⟨rfl, rfl, rfl, by decide +kernel, rfl, by decide +kernel, by decide +kernel⟩
abbrev s_P_prime_powers : Stmt := top 8
theorem sc_P_prime_powers : FnScope ["number", "rest", "found", "divisor"] ["number"] (defScope s_P_prime_powers) := ⟨rfl, rfl, rfl, by decide +kernel, rfl, by decide +kernel, by decide +kernel⟩
abbrev s_P_square_free : Stmt := top 9
theorem sc_P_square_free : FnScope ["number"] ["number"] (defScope s_P_square_free) := ⟨rfl, rfl, rfl, by decide +kernel, rfl, by decide +kernel, by decide +kernel⟩
abbrev s_P_free_part : Stmt := top 10
theorem sc_P_free_part : FnScope ["number", "free", "prime", "many"] ["number"] (defScope s_P_free_part) := ⟨rfl, rfl, rfl, by decide +kernel, rfl, by decide +kernel, by decide +kernel⟩
abbrev s_P_residue_sign : Stmt := top 11
theorem sc_P_residue_sign : FnScope ["number", "prime"] ["number", "prime"] (defScope s_P_residue_sign) := ⟨rfl, rfl, rfl, by decide +kernel, rfl, by decide +kernel, by decide +kernel⟩
abbrev s_P_check_number : Stmt := top 12
theorem sc_P_check_number : FnScope ["value"] ["value"] (defScope s_P_check_number) := ⟨rfl, rfl, rfl, by decide +kernel, rfl, by decide +kernel, by decide +kernel⟩
abbrev s_P_check_prime : Stmt := top 13
theorem sc_P_check_prime : FnScope ["value"] ["value"] (defScope s_P_check_prime) := ⟨rfl, rfl, rfl, by decide +kernel, rfl, by decide +kernel, by decide +kernel⟩
abbrev s_P_next_divisor : Stmt := top 14
theorem sc_P_next_divisor : FnScope ["divisor"] ["divisor"] (defScope s_P_next_divisor) := ⟨rfl, rfl, rfl, by decide +kernel, rfl, by decide +kernel, by decide +kernel⟩
abbrev s_P_stripped : Stmt := top 15
theorem sc_P_stripped : FnScope ["number", "prime", "many"] ["number", "prime"] (defScope s_P_stripped) := ⟨rfl, rfl, rfl, by decide +kernel, rfl, by decide +kernel, by decide +kernel⟩
abbrev s_P_rest_sign : Stmt := top 16
theorem sc_P_rest_sign : FnScope ["number", "prime"] ["number", "prime"] (defScope s_P_rest_sign) := ⟨rfl, rfl, rfl, by decide +kernel, rfl, by decide +kernel, by decide +kernel⟩
abbrev s_P_power_modulo : Stmt := top 17
theorem sc_P_power_modulo : FnScope ["number", "many", "modulus", "made", "square"] ["number", "many", "modulus"] (defScope s_P_power_modulo) := ⟨rfl, rfl, rfl, by decide +kernel, rfl, by decide +kernel, by decide +kernel⟩
abbrev s_L_sack : Stmt := top 19
theorem sc_L_sack : FnScope ["_law_script", "_law_turn", "_law_cell", "_law_great"] ["_law_script", "_law_turn"] (defScope s_L_sack) := ⟨rfl, rfl, rfl, by decide +kernel, rfl, by decide +kernel, by decide +kernel⟩
abbrev s_L_take : Stmt := top 20
theorem sc_L_take : FnScope ["_law_sack_here", "_law_many", "_law_found", "_law_one", "_law_two"] ["_law_sack_here", "_law_many"] (defScope s_L_take) := ⟨rfl, rfl, rfl, by decide +kernel, rfl, by decide +kernel, by decide +kernel⟩
abbrev s_L_one_of : Stmt := top 21
theorem sc_L_one_of : FnScope ["_law_sack_here", "_law_items"] ["_law_sack_here", "_law_items"] (defScope s_L_one_of) := ⟨rfl, rfl, rfl, by decide +kernel, rfl, by decide +kernel, by decide +kernel⟩
abbrev s_L_is_prime : Stmt := top 22
theorem sc_L_is_prime : FnScope ["_law_number", "_law_one"] ["_law_number"] (defScope s_L_is_prime) := ⟨rfl, rfl, rfl, by decide +kernel, rfl, by decide +kernel, by decide +kernel⟩
abbrev s_L_sign : Stmt := top 23
theorem sc_L_sign : FnScope ["_law_number", "_law_prime", "_law_rest", "_law_one"] ["_law_number", "_law_prime"] (defScope s_L_sign) := ⟨rfl, rfl, rfl, by decide +kernel, rfl, by decide +kernel, by decide +kernel⟩
abbrev s_L_parted : Stmt := top 24
theorem sc_L_parted : FnScope ["_law_number", "_law_prime", "_law_many", "_law_left", "_law_turn"] ["_law_number", "_law_prime"] (defScope s_L_parted) := ⟨rfl, rfl, rfl, by decide +kernel, rfl, by decide +kernel, by decide +kernel⟩
abbrev s_L_made : Stmt := top 25
theorem sc_L_made : FnScope ["_law_sack_here", "_law_found", "_law_parts", "_law_turn", "_law_prime"] ["_law_sack_here"] (defScope s_L_made) := ⟨rfl, rfl, rfl, by decide +kernel, rfl, by decide +kernel, by decide +kernel⟩
abbrev s_L_number_right : Stmt := top 26
theorem sc_L_number_right : FnScope ["_law_sack_here", "_law_made_here", "_law_parts", "_law_number", "_law_less", "_law_root", "_law_prime", "_law_turn"] ["_law_sack_here"] (defScope s_L_number_right) := ⟨rfl, rfl, rfl, by decide +kernel, rfl, by decide +kernel, by decide +kernel⟩
abbrev s_L_residues_right : Stmt := top 27
theorem sc_L_residues_right : FnScope ["_law_sack_here", "_law_prime", "_law_one", "_law_other", "_law_odd", "_law_turned"] ["_law_sack_here"] (defScope s_L_residues_right) := ⟨rfl, rfl, rfl, by decide +kernel, rfl, by decide +kernel, by decide +kernel⟩
abbrev s_L_law : Stmt := top 28
theorem sc_L_law : FnScope ["_law_script", "_law_turn", "_law_sack_here", "_law_some", "_law_told"] ["_law_script"] (defScope s_L_law) := ⟨rfl, rfl, rfl, by decide +kernel, rfl, by decide +kernel, by decide +kernel⟩
end Sf

namespace Sf
open PySem PySem.Spec PyProof.Rows L2
def d_L_sack : He.DefD := ⟨("_law_sack", none), "_law_sack", "_law_sack", defArgs s_L_sack, defBody s_L_sack, defScope s_L_sack, [], []⟩
def d_L_take : He.DefD := ⟨("_law_take", none), "_law_take", "_law_take", defArgs s_L_take, defBody s_L_take, defScope s_L_take, [], []⟩
def d_L_one_of : He.DefD := ⟨("_law_one_of", none), "_law_one_of", "_law_one_of", defArgs s_L_one_of, defBody s_L_one_of, defScope s_L_one_of, [], []⟩
def d_L_made : He.DefD := ⟨("_law_made", none), "_law_made", "_law_made", defArgs s_L_made, defBody s_L_made, defScope s_L_made, [], []⟩
def d_P_is_integer : He.DefD := ⟨("is_integer", none), "is_integer", "is_integer", defArgs s_P_is_integer, defBody s_P_is_integer, defScope s_P_is_integer, [], []⟩
def d_P_check_number : He.DefD := ⟨("check_number", none), "check_number", "check_number", defArgs s_P_check_number, defBody s_P_check_number, defScope s_P_check_number, [], []⟩
def d_P_stripped : He.DefD := ⟨("stripped", none), "stripped", "stripped", defArgs s_P_stripped, defBody s_P_stripped, defScope s_P_stripped, [], []⟩
def d_P_next_divisor : He.DefD := ⟨("next_divisor", none), "next_divisor", "next_divisor", defArgs s_P_next_divisor, defBody s_P_next_divisor, defScope s_P_next_divisor, [], []⟩
def d_P_prime_powers : He.DefD := ⟨("prime_powers", none), "prime_powers", "prime_powers", defArgs s_P_prime_powers, defBody s_P_prime_powers, defScope s_P_prime_powers, [], []⟩
def d_P_factors : He.DefD := ⟨("factors", none), "factors", "factors", defArgs s_P_factors, defBody s_P_factors, defScope s_P_factors, [], []⟩
def d_P_free_part : He.DefD := ⟨("free_part", none), "free_part", "free_part", defArgs s_P_free_part, defBody s_P_free_part, defScope s_P_free_part, [], []⟩
def d_P_square_free : He.DefD := ⟨("square_free", none), "square_free", "square_free", defArgs s_P_square_free, defBody s_P_square_free, defScope s_P_square_free, [], []⟩
def d_L_number_right : He.DefD := ⟨("_law_number_right", none), "_law_number_right", "_law_number_right", defArgs s_L_number_right, defBody s_L_number_right, defScope s_L_number_right, [], []⟩
def d_L_sign : He.DefD := ⟨("_law_sign", none), "_law_sign", "_law_sign", defArgs s_L_sign, defBody s_L_sign, defScope s_L_sign, [], []⟩
def d_P_is_prime : He.DefD := ⟨("is_prime", none), "is_prime", "is_prime", defArgs s_P_is_prime, defBody s_P_is_prime, defScope s_P_is_prime, [], []⟩
def d_P_check_prime : He.DefD := ⟨("check_prime", none), "check_prime", "check_prime", defArgs s_P_check_prime, defBody s_P_check_prime, defScope s_P_check_prime, [], []⟩
def d_P_power_modulo : He.DefD := ⟨("power_modulo", none), "power_modulo", "power_modulo", defArgs s_P_power_modulo, defBody s_P_power_modulo, defScope s_P_power_modulo, [], []⟩
def d_P_rest_sign : He.DefD := ⟨("rest_sign", none), "rest_sign", "rest_sign", defArgs s_P_rest_sign, defBody s_P_rest_sign, defScope s_P_rest_sign, [], []⟩
def d_P_residue_sign : He.DefD := ⟨("residue_sign", none), "residue_sign", "residue_sign", defArgs s_P_residue_sign, defBody s_P_residue_sign, defScope s_P_residue_sign, [], []⟩
def d_L_residues_right : He.DefD := ⟨("_law_residues_right", none), "_law_residues_right", "_law_residues_right", defArgs s_L_residues_right, defBody s_L_residues_right, defScope s_L_residues_right, [], []⟩
def d_L_is_prime : He.DefD := ⟨("_law_is_prime", none), "_law_is_prime", "_law_is_prime", defArgs s_L_is_prime, defBody s_L_is_prime, defScope s_L_is_prime, [], []⟩
def d_L_law : He.DefD := ⟨("law", none), "law", "law", defArgs s_L_law, defBody s_L_law, defScope s_L_law, [], []⟩
def fn : List He.DefD := [d_L_sack, d_L_take, d_L_one_of, d_L_made, d_P_is_integer, d_P_check_number, d_P_stripped, d_P_next_divisor, d_P_prime_powers, d_P_factors, d_P_free_part, d_P_square_free, d_L_number_right, d_L_sign, d_P_is_prime, d_P_check_prime, d_P_power_modulo, d_P_rest_sign, d_P_residue_sign, d_L_residues_right, d_L_is_prime, d_L_law]
def fa : List He.Fa := ([.glo "_law_sack", .glo "_law_take", .glo "_law_one_of", .glo "_law_made", .glo "is_integer", .glo "check_number", .glo "stripped", .glo "next_divisor", .glo "prime_powers", .glo "factors", .glo "free_part", .glo "square_free", .glo "_law_number_right", .glo "_law_sign", .glo "is_prime", .glo "check_prime", .glo "power_modulo", .glo "rest_sign", .glo "residue_sign", .glo "_law_residues_right", .glo "_law_is_prime", .glo "law", .free "isinstance", .free "int", .free "bool", .free "abs", .free "max", .free "len", .free "sum", .free "range"] : List He.Fa) ++ ([.free "list", .free "sorted", .free "min", .int "MAX_NUMBER" 1000000000] : List He.Fa)
def ex (K : PySem.W.Frag) : Bool := true
abbrev R : PySem.W.OpenRow := PySem.W.OpenLaw.row PySem.Challenge.rw_signfours_k02_whole_primes_and_residues
abbrev hk : PySem.W.Hook := hookO 4 fa fn ex
def ob (s : PySem.W.SharedT) : AlO := obsO 4 fa fn ex (HandSHeadRun.getT s)
theorem ob_eq (s : PySem.W.SharedT) : ob s = hk.obs s.abs := obsO_eq (HandSHeadRun.getT_eq s)
def loose : List Str := (["is_integer", "InvalidNumber", "MAX_NUMBER", "is_prime", "factors", "prime_powers", "square_free", "free_part", "residue_sign", "check_number", "check_prime", "next_divisor", "stripped", "rest_sign", "power_modulo", "_law_sack", "_law_take", "_law_one_of", "_law_is_prime", "_law_sign", "_law_parted", "_law_made", "_law_number_right", "_law_residues_right"] : List Str)
set_option maxHeartbeats 0 in
theorem run (w : World) : HandSHeadRun.RunEq R (PySem.W.view R.prog [28]) hk ob 20000 loose w := by
  intro os
  kernel_rfl
end Sf

namespace Sf
open PySem PySem.Spec PyProof.Rows L2
section
variable {P : Program} {w : World} {K : PySem.W.Frag} {mg : Str → Option Value} {base : Heap} {f : Addr} {fd : FuncData}
abbrev FnD (K : PySem.W.Frag) (x qual : Str) (st : Stmt) (f : Addr) (fd : FuncData) : Prop := FunD K x qual (defArgs st) (defBody st) (defScope st) [] [] f fd
def spNext : Sp := fun vs H Q _ => ∃ d : Int, vs = [.int d] ∧ Q (.int (if d = 2 then 3 else d + 2)) H
theorem ok_next (F : FnD K "next_divisor" "next_divisor" s_P_next_divisor f fd) : FnOk P w K mg base CX0 1 f fd ["divisor"] spNext := by
  refine F.ok sc_P_next_divisor (fun vs H Q E h => ?_) (fun cdv A outer s H vs Q E hr h => ?_)
  · obtain ⟨d, rfl, _⟩ := h; rfl
  · obtain ⟨d, rfl, q⟩ := h
    refine ⟨_, PSs.nox (pss_one (ps_ret (pe_ifExp (pt_cmp (pc_eqI (pv 0) pe_int)) pe_int (pe_op op_add (pv 0) pe_int)))), ?_⟩
    refine ⟨_, rfl, _, _, rfl, rfl, _, rfl, ifd (fun h => ?_) (fun h => ?_)⟩
    · rw [if_pos h] at q
      exact q
    · rw [if_neg h] at q
      exact ⟨_, rfl, _, _, rfl, rfl, q⟩
/-- what is left of a number other than 0, and how often p was taken out -/
def Strip (n p : Int) (m : Nat) (u : Int) : Prop := n = p ^ m * u ∧ u % p ≠ 0
def spStripped : Sp := fun vs H Q _ => ∃ n p : Int, vs = [.int n, .int p] ∧ n ≠ 0 ∧ 2 ≤ p ∧ p.natAbs < 2 ^ 3000 ∧
  ∀ (m : Nat) (u : Int) (a : Addr), Strip n p m u → H a = none → Q (.ref a) (upd H a (.tup [.int m, .int u]))
theorem strip_less {u p : Int} (hu : u ≠ 0) (hp : 2 ≤ p) (h : u % p = 0) : (u / p).natAbs < u.natAbs ∧ u / p ≠ 0 ∧ u = p * (u / p) := by
  have e : u = p * (u / p) := by
    have := Int.emod_add_mul_ediv u p
    omega
  have h2 : u / p ≠ 0 := fun z => by
    rw [z] at e
    omega
  refine ⟨?_, h2, e⟩
  have e2 : u.natAbs = p.natAbs * (u / p).natAbs := by
    conv => lhs; rw [e]
    exact Int.natAbs_mul _ _
  have h3 : 0 < (u / p).natAbs := by omega
  have h4 : 2 ≤ p.natAbs := by omega
  have h5 : 2 * (u / p).natAbs ≤ p.natAbs * (u / p).natAbs := Nat.mul_le_mul_right _ h4
  omega
theorem ok_stripped (F : FnD K "stripped" "stripped" s_P_stripped f fd) : FnOk P w K mg base CX0 1 f fd ["number", "prime"] spStripped := by
  refine F.ok sc_P_stripped (fun vs H Q E h => ?_) (fun cdv A outer s H vs Q E hr h => ?_)
  · obtain ⟨n, p, rfl, _⟩ := h; rfl
  · obtain ⟨n, p, rfl, hn, hp, hb, q⟩ := h
    refine ⟨_, PSs.nox (pss_cons (ps_set (i := 2) sc_P_stripped.nd rfl (Or.inl rfl) pe_int)
      (pss_cons (ps_while PassesOwn.never (pt_cmp (pc_eqI (pe_op op_mod (pv 0) (pv 1)) pe_int)) (pss_cons (ps_set (i := 2) sc_P_stripped.nd rfl (Or.inl rfl) (pe_op op_add (pv 2) pe_int))
      (pss_one (ps_set (i := 0) sc_P_stripped.nd rfl (Or.inl rfl) (pe_op op_fdivW (pv 0) (pv 1))))))
      (pss_one (ps_ret (pe_tup (pa_cons (pv 2) (pa_cons (pv 0) pa_nil))))))), ?_⟩
    refine ⟨fun c σ H' => H' = H ∧ ∃ (m : Nat) (u : Int), σ = [some (.int u), some (.int p), some (.int m)] ∧ n = p ^ m * u ∧ u ≠ 0 ∧ c = u.natAbs, ⟨_, rfl, 0, n, rfl, by simp, hn, rfl⟩, ?_⟩
    rintro c σ _ ⟨rfl, m, u, rfl, e, hu, rfl⟩
    refine ⟨_, rfl, _, rfl, _, _, rfl, rfl, (by omega), _, _, rfl, rfl, _, rfl, ifd (fun h => ⟨_, fun _ _ z => z, ?_⟩) (fun h => ?_)⟩
    · have hl := strip_less hu hp h
      refine ⟨_, rfl, _, _, rfl, rfl, _, rfl, _, rfl, _, _, rfl, rfl, CDivW.of (by omega) hb, ?_⟩
      refine ⟨_, hl.1, rfl, m + 1, u / p, rfl, ?_, hl.2.1, rfl⟩
      rw [e, Int.pow_succ, Int.mul_assoc, ← hl.2.2]
    · refine ⟨_, rfl, _, rfl, (by show 2 ≤ sizeLine; decide), fun a ha => ?_⟩
      exact q m u a ⟨e, h⟩ ha
theorem pow_mod (a m : Int) (k : Nat) : (a % m) ^ k % m = a ^ k % m := by
  induction k with
  | zero => rw [Int.pow_zero, Int.pow_zero]
  | succ k ih => rw [Int.pow_succ, Int.pow_succ, Int.mul_emod, ih, Int.emod_emod_of_dvd _ (Int.dvd_refl _), ← Int.mul_emod]
/-- a power, reduced -/
def spPowMod : Sp := fun vs H Q _ => ∃ n k m : Int, vs = [.int n, .int k, .int m] ∧ 0 ≤ k ∧ 1 ≤ m ∧ m.natAbs < 2 ^ 1000 ∧ Q (.int (n ^ k.toNat % m)) H
theorem mod_lt3000 {a m : Int} (h1 : 1 ≤ m) (hb : m.natAbs < 2 ^ 1000) : (a % m).natAbs < 2 ^ 3000 := by
  have h2 := Int.emod_nonneg a (by omega : m ≠ 0)
  have h3 := Int.emod_lt_of_pos a (by omega : 0 < m)
  have h4 : (a % m).natAbs < 2 ^ 1000 := by omega
  exact Nat.lt_trans h4 (by decide +kernel)
theorem pow_half (a : Int) (k : Int) (hk : 0 < k) : a ^ k.toNat = (a * a) ^ (k / 2).toNat * a ^ (k % 2).toNat := by
  have e : k.toNat = (k / 2).toNat + (k / 2).toNat + (k % 2).toNat := by omega
  rw [e, Int.pow_add, Int.pow_add, Int.mul_pow]
theorem ok_powmod (F : FnD K "power_modulo" "power_modulo" s_P_power_modulo f fd) : FnOk P w K mg base CX0 1 f fd ["number", "many", "modulus"] spPowMod := by
  refine F.ok sc_P_power_modulo (fun vs H Q E h => ?_) (fun cdv A outer s H vs Q E hr h => ?_)
  · obtain ⟨n, k, m, rfl, _⟩ := h; rfl
  · obtain ⟨n, k, m, rfl, hk, hm, hb, q⟩ := h
    refine ⟨_, PSs.nox (pss_cons (ps_set (i := 3) sc_P_power_modulo.nd rfl (Or.inl rfl) (pe_op op_mod pe_int (pv 2)))
      (pss_cons (ps_set (i := 4) sc_P_power_modulo.nd rfl (Or.inl rfl) (pe_op op_mod (pv 0) (pv 2)))
      (pss_cons (ps_while PassesOwn.never (pt_cmp (pc_gt (pv 1) pe_int)) (pss_cons (ps_if (pt_cmp (pc_eqI (pe_op op_mod (pv 1) pe_int) pe_int)) (pss_one (ps_set (i := 3) sc_P_power_modulo.nd rfl (Or.inl rfl) (pe_op op_mod (pe_op op_mulW (pv 3) (pv 4)) (pv 2)))) pss_nil)
      (pss_cons (ps_set (i := 4) sc_P_power_modulo.nd rfl (Or.inl rfl) (pe_op op_mod (pe_op op_mulW (pv 4) (pv 4)) (pv 2)))
      (pss_one (ps_set (i := 1) sc_P_power_modulo.nd rfl (Or.inl rfl) (pe_op op_fdivW (pv 1) pe_int))))))
      (pss_one (ps_ret (pv 3)))))), ?_⟩
    have hm0 : (0 : Int) < m := by omega
    refine ⟨_, rfl, _, _, rfl, rfl, hm0, _, rfl, _, rfl, _, _, rfl, rfl, hm0, ?_⟩
    refine ⟨fun c σ H' => H' = H ∧ ∃ k' made sq : Int, σ = [some (.int n), some (.int k'), some (.int m), some (.int made), some (.int sq)] ∧ 0 ≤ k' ∧ (made * sq ^ k'.toNat) % m = n ^ k.toNat % m ∧ made % m = made ∧ made.natAbs < 2 ^ 3000 ∧ sq.natAbs < 2 ^ 3000 ∧ c = k'.toNat,
      ⟨_, rfl, k, 1 % m, n % m, rfl, hk, ?_, Int.emod_emod_of_dvd _ (Int.dvd_refl _), mod_lt3000 hm hb, mod_lt3000 hm hb, rfl⟩, ?_⟩
    · rw [Int.mul_emod, Int.emod_emod_of_dvd _ (Int.dvd_refl _), ← Int.mul_emod, Int.one_mul]
      exact pow_mod _ _ _
    rintro c σ _ ⟨rfl, k', made, sq, rfl, hk', e, em, b1, b2, rfl⟩
    refine ⟨_, rfl, _, _, rfl, rfl, _, rfl, ifd (fun h => ⟨_, fun _ _ z => z, ?_⟩) (fun h => ?_)⟩
    · have hh := pow_half sq k' h
      have hsq : ((sq * sq) ^ (k' / 2).toNat) % m = ((sq * sq % m) ^ (k' / 2).toNat) % m := (pow_mod _ _ _).symm
      refine ⟨_, rfl, _, _, rfl, rfl, (by show (0 : Int) < 2; decide), _, _, rfl, rfl, _, rfl, ifd (fun h2 => ?_) (fun h2 => ?_)⟩
      · refine ⟨_, rfl, _, rfl, _, _, rfl, rfl, CMulW.of b1 b2, _, rfl, _, _, rfl, rfl, hm0, ?_⟩
        refine ⟨_, rfl, _, rfl, _, _, rfl, rfl, CMulW.of b2 b2, _, rfl, _, _, rfl, rfl, hm0, ?_⟩
        refine ⟨_, rfl, _, _, rfl, rfl, CDivW.of (by decide) (by decide +kernel), ?_⟩
        refine ⟨_, ?_, rfl, k' / 2, _, _, rfl, by omega, ?_, Int.emod_emod_of_dvd _ (Int.dvd_refl _), mod_lt3000 hm hb, mod_lt3000 hm hb, rfl⟩
        · omega
        · rw [← e, hh, h2]
          show made * sq % m * (sq * sq % m) ^ (k' / 2).toNat % m = made * ((sq * sq) ^ (k' / 2).toNat * sq ^ 1) % m
          rw [Int.mul_emod, ← hsq, Int.emod_emod_of_dvd _ (Int.dvd_refl _), ← Int.mul_emod, Int.pow_one]
          congr 1
          rw [Int.mul_assoc, Int.mul_comm sq]
      · refine ⟨_, rfl, _, rfl, _, _, rfl, rfl, CMulW.of b2 b2, _, rfl, _, _, rfl, rfl, hm0, ?_⟩
        refine ⟨_, rfl, _, _, rfl, rfl, CDivW.of (by decide) (by decide +kernel), ?_⟩
        refine ⟨_, ?_, rfl, k' / 2, _, _, rfl, by omega, ?_, em, b1, mod_lt3000 hm hb, rfl⟩
        · omega
        · have h3 : k' % 2 = 0 := by omega
          rw [← e, hh, h3]
          show made * (sq * sq % m) ^ (k' / 2).toNat % m = made * ((sq * sq) ^ (k' / 2).toNat * sq ^ 0) % m
          rw [Int.mul_emod, ← hsq, ← Int.mul_emod, Int.pow_zero, Int.mul_one]
    · have h3 : k' = 0 := by omega
      subst h3
      have e2 : made = n ^ k.toNat % m := by
        rw [← e]
        show made = made * sq ^ 0 % m
        rw [Int.pow_zero, Int.mul_one, em]
      refine ⟨_, rfl, ?_⟩
      rw [e2]
      exact q
end
end Sf

namespace Sf
/-! primes by trial -/
def PrP (n : Int) : Prop := 2 ≤ n ∧ ∀ k : Int, 2 ≤ k → k < n → n % k ≠ 0
theorem prp_of_trial {n d : Int} (hn : 2 ≤ n) (hd : 2 ≤ d) (h : ∀ k : Int, 2 ≤ k → k < d → n % k ≠ 0) (hl : n < d * d) : PrP n := by
  refine ⟨hn, fun k h2 hk hz => ?_⟩
  by_cases hkd : k < d
  · exact h k h2 hkd hz
  · have e : n = k * (n / k) := by
      have := Int.emod_add_mul_ediv n k
      omega
    have hm0 : 0 < n / k := by
      rcases Int.lt_or_le 0 (n / k) with z | z
      · exact z
      · have : k * (n / k) ≤ 0 := Int.mul_nonpos_of_nonneg_of_nonpos (by omega) z
        omega
    have hm1 : n / k ≠ 1 := fun z => by
      rw [z] at e
      omega
    have h3 : d * (n / k) ≤ k * (n / k) := Int.mul_le_mul_of_nonneg_right (by omega) (by omega)
    have h4 : d * (n / k) < d * d := by omega
    have h5 : n / k < d := Int.lt_of_mul_lt_mul_left h4 (by omega)
    refine h (n / k) (by omega) h5 ?_
    rw [e]
    exact Int.emod_eq_zero_of_dvd ⟨k, by rw [Int.mul_ediv_cancel_left _ (by omega : k ≠ 0)]; exact Int.mul_comm _ _⟩
/-- no divisor below d; d is 2 or odd -/
def NoDiv (n d : Int) : Prop := 2 ≤ d ∧ (d = 2 ∨ d % 2 = 1) ∧ ∀ k : Int, 2 ≤ k → k < d → n % k ≠ 0
theorem nodiv2 (n : Int) : NoDiv n 2 := ⟨by omega, .inl rfl, fun k h1 h2 => by omega⟩
theorem mod_of_dvd {n a b : Int} (h : n % b = 0) (hb : b % a = 0) : n % a = 0 := by
  have h1 : b ∣ n := Int.dvd_of_emod_eq_zero h
  have h2 : a ∣ b := Int.dvd_of_emod_eq_zero hb
  exact Int.emod_eq_zero_of_dvd (Int.dvd_trans h2 h1)
theorem nodiv_next {n d : Int} (h : NoDiv n d) (hd : n % d ≠ 0) : NoDiv n (if d = 2 then 3 else d + 2) := by
  obtain ⟨h1, h2, h3⟩ := h
  by_cases e : d = 2
  · rw [if_pos e]
    refine ⟨by omega, .inr rfl, fun k a b => ?_⟩
    have : k = d := by omega
    rw [this]
    exact hd
  · rw [if_neg e]
    refine ⟨by omega, .inr (by omega), fun k a b => ?_⟩
    by_cases c : k < d
    · exact h3 k a c
    · by_cases c2 : k = d
      · rw [c2]
        exact hd
      · intro z
        exact h3 2 (by omega) (by omega) (mod_of_dvd z (by omega))
theorem nodiv_prime {n d : Int} (h : NoDiv n d) (hd : n % d = 0) : PrP d := by
  refine ⟨h.1, fun k a b z => ?_⟩
  exact h.2.2 k a b (mod_of_dvd hd z)
theorem nodiv_of {n u d : Int} (h : NoDiv n d) (hu : n % u = 0) : NoDiv u d := ⟨h.1, h.2.1, fun k a b z => h.2.2 k a b (mod_of_dvd hu z)⟩
theorem nodiv_lt {n d : Int} (h : NoDiv n d) (hn : 2 ≤ n) : d ≤ n := by
  rcases Int.lt_or_le n d with z | z
  · exact absurd Int.emod_self (h.2.2 n hn z)
  · exact z
/-! factors -/
def prodF : List (Int × Nat) → Int
  | [] => 1
  | q :: l => q.1 ^ q.2 * prodF l
theorem prodF_append : ∀ l m : List (Int × Nat), prodF (l ++ m) = prodF l * prodF m
  | [], m => by
    show prodF m = 1 * prodF m
    rw [Int.one_mul]
  | q :: l, m => by
    show q.1 ^ q.2 * prodF (l ++ m) = q.1 ^ q.2 * prodF l * prodF m
    rw [prodF_append l m, Int.mul_assoc]
def Sorted (l : List (Int × Nat)) : Prop := l.Pairwise fun a b => a.1 < b.1
def Primes (l : List (Int × Nat)) : Prop := ∀ q ∈ l, PrP q.1 ∧ 1 ≤ q.2
def FactOf (n : Int) (l : List (Int × Nat)) : Prop := prodF l = n ∧ Sorted l ∧ Primes l
theorem pow_pos_int {p : Int} (h : 0 < p) (e : Nat) : 0 < p ^ e := Int.pow_pos h
theorem pow_ge {p : Int} (h : 2 ≤ p) : ∀ {e : Nat}, 1 ≤ e → 2 ≤ p ^ e
  | 0, h0 => by omega
  | e + 1, _ => by
    rw [Int.pow_succ]
    have h1 : 0 < p ^ e := pow_pos_int (by omega) e
    have h2 : 1 * 2 ≤ p ^ e * p := Int.mul_le_mul (by omega) h (by omega) (by omega)
    omega
theorem prodF_len : ∀ {l : List (Int × Nat)}, Primes l → (2 : Int) ^ l.length ≤ prodF l
  | [], _ => Int.le_refl _
  | q :: l, h => by
    have ih := prodF_len (l := l) fun r hr => h r (List.mem_cons_of_mem _ hr)
    obtain ⟨hp, he⟩ := h q List.mem_cons_self
    have h1 : 2 ≤ q.1 ^ q.2 := pow_ge hp.1 he
    show (2 : Int) ^ (l.length + 1) ≤ q.1 ^ q.2 * prodF l
    rw [Int.pow_succ, Int.mul_comm]
    have h0 : (0 : Int) < 2 ^ l.length := pow_pos_int (by omega) _
    exact Int.mul_le_mul h1 ih (by omega) (by omega)
theorem len_of_prod {l : List (Int × Nat)} (h : Primes l) (hb : prodF l ≤ 1000000000) : l.length < 30 := by
  have h1 := prodF_len h
  rcases Nat.lt_or_ge l.length 30 with z | z
  · exact z
  · have e : l.length = 30 + (l.length - 30) := by omega
    have h3 : (2 : Int) ^ 30 = 1073741824 := by decide
    have h4 : (0 : Int) < 2 ^ (l.length - 30) := pow_pos_int (by omega) _
    rw [e, Int.pow_add, h3] at h1
    omega
end Sf

namespace Sf
open PySem PySem.Spec PyProof.Rows L2
/-- what the module's names hold -/
structure Glob (mg : Str → Option Value) : Prop where
  m_isinstance : mg "isinstance" = none
  m_int : mg "int" = none
  m_bool : mg "bool" = none
  m_abs : mg "abs" = none
  m_max : mg "max" = none
  m_len : mg "len" = none
  m_sum : mg "sum" = none
  m_range : mg "range" = none
  m_list : mg "list" = none
  m_sorted : mg "sorted" = none
  m_min : mg "min" = none
  m_MAX_NUMBER : ∃ t, mg "MAX_NUMBER" = some (.int 1000000000 t)
/-- what isinstance(x, int) and not isinstance(x, bool) comes to -/
def IntB (K : PySem.W.Frag) (H : Hp) (x : V) (b : Bool) : Prop := ∃ (t : String) (bi bb : Bool), TyX K H x (.type t) ∧ kitB t "int" = some bi ∧ kitB t "bool" = some bb ∧ b = (bi && !bb)
theorem IntB.int {K : PySem.W.Frag} {H : Hp} (i : Int) : IntB K H (.int i) true := ⟨"int", true, false, .base (.int i), by decide +kernel, by decide +kernel, rfl⟩
theorem IntB.bl {K : PySem.W.Frag} {H : Hp} (i : Bool) : IntB K H (.bl i) false := ⟨"bool", true, true, .base (.bl i), by decide +kernel, by decide +kernel, rfl⟩
theorem IntB.non {K : PySem.W.Frag} {H : Hp} : IntB K H .non false := ⟨"NoneType", false, false, .base .non, by decide +kernel, by decide +kernel, rfl⟩
theorem IntB.str {K : PySem.W.Frag} {H : Hp} (x : Str) : IntB K H (.str x) false := ⟨"str", false, false, .base (.str x), by decide +kernel, by decide +kernel, rfl⟩
theorem IntB.lst {K : PySem.W.Frag} {H : Hp} {a : Addr} {xs : List V} (h : H a = some (.lst xs)) : IntB K H (.ref a) false := ⟨"list", false, false, .base (.lst h), by decide +kernel, by decide +kernel, rfl⟩
theorem IntB.tup {K : PySem.W.Frag} {H : Hp} {a : Addr} {xs : List V} (h : H a = some (.tup xs)) : IntB K H (.ref a) false := ⟨"tuple", false, false, .base (.tup h), by decide +kernel, by decide +kernel, rfl⟩
theorem IntB.dK {K : PySem.W.Frag} {H : Hp} {a : Addr} {xs : List (Key × V)} (h : H a = some (.dK xs)) : IntB K H (.ref a) false := ⟨"dict", false, false, .base (.dK h), by decide +kernel, by decide +kernel, rfl⟩
section
variable {P : Program} {w : World} {K : PySem.W.Frag} {mg : Str → Option Value} {base : Heap} {f : Addr} {fd : FuncData}
def spIsInt (K : PySem.W.Frag) : Sp := fun vs H Q _ => ∃ (x : V) (b : Bool), vs = [x] ∧ IntB K H x b ∧ Q (.bl b) H
theorem ok_is_integer (F : FnD K "is_integer" "is_integer" s_P_is_integer f fd) (T : Glob mg) : FnOk P w K mg base CX0 1 f fd ["value"] (spIsInt K) := by
  refine F.ok sc_P_is_integer (fun vs H Q E h => ?_) (fun cdv A outer s H vs Q E hr h => ?_)
  · obtain ⟨x, b, rfl, _⟩ := h; rfl
  · obtain ⟨x, b, rfl, ⟨t, bi, bb, ty, h1, h2, rfl⟩, q⟩ := h
    refine ⟨_, PSs.nox (pss_one (ps_ret (pe_and (pe_callB call_isi (by rfl) T.m_isinstance (by decide +kernel) (pa_cons (pv 0) (pa_cons (pe_bltn (v := .ty "int") (u := .type "int") (by rfl) T.m_int (by decide +kernel) rfl) pa_nil))) (pe_one (pe_not (pe_callB call_isi (by rfl) T.m_isinstance (by decide +kernel) (pa_cons (pv 0) (pa_cons (pe_bltn (v := .ty "bool") (u := .type "bool") (by rfl) T.m_bool (by decide +kernel) rfl) pa_nil)))))))), ?_⟩
    refine ⟨_, rfl, _, _, _, _, _, rfl, .ty "int", ty, kit_ty h1, _, rfl, ifb (fun e => ?_) (fun e => ?_)⟩
    · refine ⟨_, rfl, _, _, _, _, _, rfl, .ty "bool", ty, kit_ty h2, _, rfl, ?_⟩
      rw [e] at q
      exact q
    · rw [e] at q
      exact q
def spCheckNumber : Sp := fun vs H Q _ => ∃ n : Int, vs = [.int n] ∧ n ≠ 0 ∧ -1000000000 ≤ n ∧ n ≤ 1000000000 ∧ Q .non H
theorem ok_check_number (F : FnD K "check_number" "check_number" s_P_check_number f fd) (T : Glob mg) (C_P_is_integer : Cal P w K mg base 1 "is_integer" ["value"] (spIsInt K)) : FnOk P w K mg base CX0 2 f fd ["value"] spCheckNumber := by
  refine F.ok sc_P_check_number (fun vs H Q E h => ?_) (fun cdv A outer s H vs Q E hr h => ?_)
  · obtain ⟨n, rfl, _⟩ := h; rfl
  · obtain ⟨n, rfl, h0, h1, h2, q⟩ := h
    obtain ⟨tM, hc_MAX_NUMBER⟩ := T.m_MAX_NUMBER
    refine ⟨_, PSs.nox (pss_one (ps_if (PW.pt (pw_or (pt_not (pt_val (pe_cal C_P_is_integer (hr.mono (by decide)) (pa_cons (pv 0) pa_nil)))) (pw_or (pt_cmp (pc_eqI (pv 0) pe_int)) (pw_or1 (pt_cmp (pc_gt (pe_callB call_abs (by rfl) T.m_abs (by decide +kernel) (pa_cons (pv 0) pa_nil)) (pe_glob (v := .int 1000000000) rfl hc_MAX_NUMBER ⟨_, rfl⟩))))))) (pss_one ps_never) pss_nil)), ?_⟩
    refine ⟨_, rfl, .int n, true, rfl, .int n, _, rfl, iteF ?_⟩
    refine ⟨_, rfl, _, _, rfl, rfl, _, rfl, ifd (fun e => absurd e h0) (fun _ => ?_)⟩
    refine ⟨_, rfl, n, rfl, _, _, rfl, rfl, _, rfl, ifd (fun e => ?_) (fun e => ?_)⟩
    · exfalso
      split at e <;> omega
    · exact q
def spIsPrime (K : PySem.W.Frag) : Sp := fun vs H Q _ => ∃ (x : V) (b : Bool), vs = [x] ∧ IntB K H x b ∧ (b = true → ∃ n, x = .int n) ∧ ∀ r : Bool, (r = true ↔ ∃ n, x = .int n ∧ PrP n ∧ n ≤ 1000000000) → Q (.bl r) H
theorem ok_is_prime (F : FnD K "is_prime" "is_prime" s_P_is_prime f fd) (T : Glob mg) (C_P_is_integer : Cal P w K mg base 1 "is_integer" ["value"] (spIsInt K)) (C_P_next_divisor : Cal P w K mg base 1 "next_divisor" ["divisor"] spNext) :
    FnOk P w K mg base CX0 2 f fd ["value"] (spIsPrime K) := by
  refine F.ok sc_P_is_prime (fun vs H Q E h => ?_) (fun cdv A outer s H vs Q E hr h => ?_)
  · obtain ⟨x, b, rfl, _⟩ := h; rfl
  · obtain ⟨x, b, rfl, hx, hi, q⟩ := h
    obtain ⟨tM, hc_MAX_NUMBER⟩ := T.m_MAX_NUMBER
    refine ⟨_, PSs.nox (pss_cons (ps_if (PW.pt (pw_or (pt_not (pt_val (pe_cal C_P_is_integer (hr.mono (by decide)) (pa_cons (pv 0) pa_nil)))) (pw_or (pt_cmp (pc_lt (pv 0) pe_int)) (pw_or1 (pt_cmp (pc_gt (pv 0) (pe_glob (v := .int 1000000000) rfl hc_MAX_NUMBER ⟨_, rfl⟩))))))) (pss_one (ps_ret pe_bl)) pss_nil)
      (pss_cons (ps_set (i := 1) sc_P_is_prime.nd rfl (Or.inl rfl) pe_int)
      (pss_cons (ps_while PassesOwn.never (pt_cmp (pc_le (pe_op op_mulW (pv 1) (pv 1)) (pv 0))) (pss_cons (ps_if (pt_cmp (pc_eqI (pe_op op_mod (pv 0) (pv 1)) pe_int)) (pss_one (ps_ret pe_bl)) pss_nil)
      (pss_one (ps_set (i := 1) sc_P_is_prime.nd rfl (Or.inl rfl) (pe_cal C_P_next_divisor (hr.mono (by decide)) (pa_cons (pv 1) pa_nil))))))
      (pss_one (ps_ret pe_bl))))), ?_⟩
    refine ⟨_, rfl, x, b, rfl, hx, _, rfl, ?_⟩
    cases b with
    | false =>
      refine iteT (q false ⟨fun z => Bool.noConfusion z, fun ⟨n, e, _⟩ => ?_⟩)
      subst e
      obtain ⟨t, bi, bb, ty, k1, k2, k3⟩ := hx
      cases ty with
      | base ty => cases ty with
        | int _ =>
          have e1 : kitB "int" "int" = some true := by decide +kernel
          have e2 : kitB "int" "bool" = some false := by decide +kernel
          rw [e1] at k1
          rw [e2] at k2
          cases k1
          cases k2
          cases k3
    | true =>
      obtain ⟨n, rfl⟩ := hi rfl
      have qf : ¬ (PrP n ∧ n ≤ 1000000000) → Q (.bl false) H := fun hn => q false ⟨fun z => Bool.noConfusion z, fun ⟨m, e, h⟩ => by
        cases e
        exact absurd h hn⟩
      refine iteF ⟨_, rfl, _, _, rfl, rfl, _, rfl, ifd (fun e => qf fun z => ?_) (fun e => ⟨_, rfl, _, _, rfl, rfl, _, rfl, ifd (fun e2 => qf fun z => ?_) (fun e2 => ?_)⟩)⟩
      · have := z.1.1
        omega
      · have := z.2
        omega
      · refine ⟨fun c σ H' => H' = H ∧ ∃ d : Int, σ = [some (.int n), some (.int d)] ∧ NoDiv n d ∧ d ≤ n + 2 ∧ c = (n + 2 - d).toNat, ⟨_, rfl, 2, rfl, nodiv2 n, by omega, rfl⟩, ?_⟩
        rintro c σ _ ⟨rfl, d, rfl, hd, hdn, rfl⟩
        have hd2 := hd.1
        have hdb : d.natAbs < 2 ^ 3000 := Nat.lt_trans (by omega : d.natAbs < 2 ^ 31) (by decide +kernel)
        refine ⟨_, rfl, _, rfl, _, _, rfl, rfl, CMulW.of hdb hdb, _, rfl, _, _, rfl, rfl, _, rfl, ifd (fun h => ⟨_, fun _ _ z => z, ?_⟩) (fun h => ?_)⟩
        · refine ⟨_, rfl, _, rfl, _, _, rfl, rfl, (by omega), _, _, rfl, rfl, _, rfl, ifd (fun h2 => ?_) (fun h2 => ?_)⟩
          · refine qf fun z => ?_
            have h3 : d < n := by
              have : d * 2 ≤ d * d := Int.mul_le_mul_of_nonneg_left hd2 (by omega)
              omega
            exact z.1.2 d hd2 h3 h2
          · refine ⟨_, rfl, d, rfl, ?_⟩
            have hlt : d ≤ n := by
              have : d * 1 ≤ d * d := Int.mul_le_mul_of_nonneg_left (by omega) (by omega)
              omega
            have hnx := nodiv_next hd h2
            refine ⟨_, ?_, rfl, _, rfl, hnx, ?_, rfl⟩
            · split <;> omega
            · split <;> omega
        · refine q true ⟨fun _ => ⟨n, rfl, prp_of_trial (by omega) hd2 hd.2.2 (by omega), by omega⟩, fun _ => rfl⟩
def spCheckPrime : Sp := fun vs H Q _ => ∃ n : Int, vs = [.int n] ∧ PrP n ∧ n ≤ 1000000000 ∧ Q .non H
theorem ok_check_prime (F : FnD K "check_prime" "check_prime" s_P_check_prime f fd) (C_P_is_prime : Cal P w K mg base 2 "is_prime" ["value"] (spIsPrime K)) : FnOk P w K mg base CX0 3 f fd ["value"] spCheckPrime := by
  refine F.ok sc_P_check_prime (fun vs H Q E h => ?_) (fun cdv A outer s H vs Q E hr h => ?_)
  · obtain ⟨n, rfl, _⟩ := h; rfl
  · obtain ⟨n, rfl, h0, h1, q⟩ := h
    refine ⟨_, PSs.nox (pss_one (ps_if (pt_not (pt_val (pe_cal C_P_is_prime (hr.mono (by decide)) (pa_cons (pv 0) pa_nil)))) (pss_one ps_never) pss_nil)), ?_⟩
    refine ⟨_, rfl, .int n, true, rfl, .int n, fun _ => ⟨n, rfl⟩, fun r hr => ⟨_, rfl, ?_⟩⟩
    have e : r = true := hr.mpr ⟨n, rfl, h0, h1⟩
    subst e
    exact iteF q
theorem inV_two (x a b : Int) : inV (.int x) [.int a, .int b] = decide (x = a ∨ x = b) := by
  show ((a == x) || ((b == x) || false)) = _
  rw [Bool.or_false, Bool.eq_iff_iff]
  simp only [Bool.or_eq_true, beq_iff_eq, decide_eq_true_eq]
  constructor
  · rintro (h | h)
    · exact .inl h.symm
    · exact .inr h.symm
  · rintro (h | h)
    · exact .inl h.symm
    · exact .inr h.symm
/-- the residue sign by a power -/
def restSign (n p : Int) : Int := if n % p = 0 then 0 else if p = 2 then (if n % 8 = 1 ∨ n % 8 = 7 then 1 else -1) else if n ^ ((p - 1) / 2).toNat % p = 1 then 1 else -1
def spRestSign : Sp := fun vs H Q _ => ∃ n p : Int, vs = [.int n, .int p] ∧ 2 ≤ p ∧ p.natAbs < 2 ^ 1000 ∧ ∀ H', Same H H' → Q (.int (restSign n p)) H'
theorem ok_rest_sign (F : FnD K "rest_sign" "rest_sign" s_P_rest_sign f fd) (C_P_power_modulo : Cal P w K mg base 1 "power_modulo" ["number", "many", "modulus"] spPowMod) : FnOk P w K mg base CX0 2 f fd ["number", "prime"] spRestSign := by
  refine F.ok sc_P_rest_sign (fun vs H Q E h => ?_) (fun cdv A outer s H vs Q E hr h => ?_)
  · obtain ⟨n, p, rfl, _⟩ := h; rfl
  · obtain ⟨n, p, rfl, hp, hb, q⟩ := h
    refine ⟨_, PSs.nox (pss_cons (ps_if (pt_cmp (pc_eqI (pe_op op_mod (pv 0) (pv 1)) pe_int)) (pss_one (ps_ret pe_int)) pss_nil)
      (pss_cons (ps_if (pt_cmp (pc_eqI (pv 1) pe_int)) (pss_one (ps_ret (pe_ifExp (pt_cmpR op_in_seq (pe_op op_mod (pv 0) pe_int) (pe_tup (pa_cons pe_int (pa_cons pe_int pa_nil))) (by rfl)) pe_int (pe_un un_neg pe_int)))) pss_nil)
      (pss_one (ps_ret (pe_ifExp (pt_cmp (pc_eqI (pe_cal C_P_power_modulo (hr.mono (by decide)) (pa_cons (pv 0) (pa_cons (pe_op op_fdivW (pe_op op_sub (pv 1) pe_int) pe_int) (pa_cons (pv 1) pa_nil)))) pe_int)) pe_int (pe_un un_neg pe_int)))))), ?_⟩
    unfold restSign at q
    refine ⟨_, rfl, _, rfl, _, _, rfl, rfl, (by omega), _, _, rfl, rfl, _, rfl, ifd (fun h => ?_) (fun h => ?_)⟩
    · rw [if_pos h] at q
      exact q H (Same.refl H)
    · rw [if_neg h] at q
      refine ⟨_, rfl, _, _, rfl, rfl, _, rfl, ifd (fun h2 => ?_) (fun h2 => ?_)⟩
      · rw [if_pos h2] at q
        refine ⟨_, rfl, _, _, rfl, rfl, (by show (0 : Int) < 8; decide), (by show 2 ≤ sizeLine; decide), fun a ha => ?_⟩
        refine ⟨a, _, rfl, .inr (.inl (.inl upd_same)), rfl, rfl, _, rfl, ?_⟩
        rw [inV_two]
        refine ifd (fun e => ?_) (fun e => ?_)
        · rw [if_pos e] at q
          exact q _ (same_upd ha)
        · rw [if_neg e] at q
          exact ⟨_, rfl, q _ (same_upd ha)⟩
      · rw [if_neg h2] at q
        refine ⟨_, rfl, _, rfl, _, _, rfl, rfl, _, _, rfl, rfl, CDivW.of (by decide) (by decide +kernel), _, rfl, n, (p - 1) / 2, p, rfl, by omega, by omega, hb, _, _, rfl, rfl, _, rfl, ifd (fun h3 => ?_) (fun h3 => ?_)⟩
        · rw [if_pos h3] at q
          exact q H (Same.refl H)
        · rw [if_neg h3] at q
          exact ⟨_, rfl, q H (Same.refl H)⟩
end
end Sf

namespace Sf
open PySem PySem.Spec PyProof.Rows L2
/-- the sack of draws: three numbers, so many draws made -/
def SackO (n : Nat) (xs : List V) : Prop := ∃ a b c : Int, xs = [.int a, .int b, .int c] ∧ 0 ≤ a ∧ a < 10 ^ 290 ∧ 0 ≤ b ∧ b < 1000000000000000000 ∧ 0 ≤ c ∧ c ≤ n
set_option exponentiation.threshold 4000 in
theorem lt3000 {a : Int} (h0 : 0 ≤ a) (h : a < 10 ^ 290) : a.natAbs < 2 ^ 3000 := by
  have h1 : (10 : Int) ^ 290 < 2 ^ 3000 := by decide +kernel
  have h2 : ((a.natAbs : Nat) : Int) < ((2 ^ 3000 : Nat) : Int) := by
    rw [Int.natAbs_of_nonneg h0]
    exact Int.lt_trans h h1
  exact Int.ofNat_lt.mp h2
theorem lt3000s {a : Int} (h0 : -1000000000000000000000000000000 < a) (h : a < 1000000000000000000000000000000) : a.natAbs < 2 ^ 3000 := Nat.lt_trans (by omega : a.natAbs < 1000000000000000000000000000000) (by decide +kernel)
section
variable {P : Program} {w : World} {K : PySem.W.Frag} {mg : Str → Option Value} {base : Heap} {f : Addr} {fd : FuncData}
structure TakeP (vs : List V) (H : Hp) (Q : VK) : Prop where
  ex : ∃ (p : Addr) (xs : List V) (n : Nat) (m : Int), vs = [.ref p, .int m] ∧ H p = some (.lst xs) ∧ SackO n xs ∧ n ≤ 1000000 ∧ 1 ≤ m ∧ m < 10 ^ 80 ∧
  ∀ (r : Int) (ys : List V), 0 ≤ r → r < m → SackO (n + 1) ys → Q (.int r) (upd H p (.lst ys))
def spTake : Sp := fun vs H Q _ => TakeP vs H Q
theorem ok_take (F : FnD K "_law_take" "_law_take" s_L_take f fd) (T : Glob mg) : FnOk P w K mg base CX0 1 f fd ["_law_sack_here", "_law_many"] spTake := by
  refine F.ok sc_L_take (fun vs H Q E h => ?_) (fun cdv A outer s H vs Q E hr h => ?_)
  · obtain ⟨p, xs, n, m, rfl, _⟩ := h.ex; rfl
  · obtain ⟨p, _, n, m, rfl, hp, ⟨a, b, c, rfl, a0, a1, b0, b1, c0, c1⟩, hn, hm, hm1, q⟩ := h.ex
    have m0 : (0 : Int) < m := by omega
    have mb : m.natAbs < 2 ^ 3000 := lt3000 (by omega) (Int.lt_trans hm1 (by decide +kernel))
    have hS : SqL K H p [.int a, .int b, .int c] := SqL.of hp
    refine ⟨_, PSs.nox (pss_cons (ps_if (pt_cmp (pc_gt (pe_ix ix_list (pv 0) pe_int (fun _ _ => rfl)) pe_int)) (pss_cons (ps_set (i := 2) sc_L_take.nd rfl (Or.inl rfl) (pe_op op_mod (pe_callTy call_int1 (by rfl) T.m_int (by decide +kernel) (pa_cons (pe_ix ix_list (pv 0) pe_int (fun _ _ => rfl)) pa_nil)) (pv 1)))
      (pss_cons (ps_asg (pe_op op_fdivW (pe_callTy call_int1 (by rfl) T.m_int (by decide +kernel) (pa_cons (pe_ix ix_list (pv 0) pe_int (fun _ _ => rfl)) pa_nil)) (pv 1)) (pg_sub (pv 0) pe_int set_list))
      (pss_one (ps_ret (pv 2))))) pss_nil)
      (pss_cons (ps_asg (pe_op op_add (pe_ix ix_list (pv 0) pe_int (fun _ _ => rfl)) pe_int) (pg_sub (pv 0) pe_int set_list))
      (pss_cons (ps_set (i := 3) sc_L_take.nd rfl (Or.inl rfl) (pe_op op_mod (pe_callTy call_int1 (by rfl) T.m_int (by decide +kernel) (pa_cons (pe_op op_add (pe_ix ix_list (pv 0) pe_int (fun _ _ => rfl)) (pe_op op_mulW pe_int (pe_ix ix_list (pv 0) pe_int (fun _ _ => rfl)))) pa_nil)) pe_int))
      (pss_cons (ps_set (i := 4) sc_L_take.nd rfl (Or.inl rfl) (pe_op op_mod (pe_callTy call_int1 (by rfl) T.m_int (by decide +kernel) (pa_cons (pe_op op_add (pe_op op_add (pe_op op_mulW (pv 3) (pv 3)) (pe_op op_mulW pe_int (pe_ix ix_list (pv 0) pe_int (fun _ _ => rfl)))) pe_int) pa_nil)) pe_int))
      (pss_one (ps_ret (pe_op op_mod (pe_callTy call_int1 (by rfl) T.m_int (by decide +kernel) (pa_cons (pe_op op_fdivW (pe_op op_mulW (pv 4) (pe_op op_add (pe_op op_mod (pv 3) pe_int) pe_int)) pe_int) pa_nil)) (pv 1)))))))), ?_⟩
    refine ⟨_, rfl, p, _, 0, .int a, rfl, rfl, hS, rfl, _, _, rfl, rfl, _, rfl, ifd (fun h => ?_) (fun h => ?_)⟩
    · refine ⟨_, rfl, p, _, 0, .int a, rfl, rfl, hS, rfl, .inl ⟨_, rfl, _, rfl, _, _, rfl, rfl, m0, ?_⟩⟩
      refine ⟨_, rfl, p, _, 0, .int a, rfl, rfl, hS, rfl, .inl ⟨_, rfl, _, rfl, _, _, rfl, rfl, CDivW.of m0 mb, ?_⟩⟩
      refine ⟨_, rfl, p, _, 0, 0, rfl, rfl, hp, rfl, ?_⟩
      refine ⟨_, rfl, q (a % m) _ (Int.emod_nonneg _ (by omega)) (Int.emod_lt_of_pos _ m0) ⟨a / m, b, c, rfl, Int.ediv_nonneg a0 (by omega), ?_, b0, b1, c0, by omega⟩⟩
      exact Int.lt_of_le_of_lt (Int.ediv_le_self m a0) a1
    · refine ⟨_, rfl, p, _, 2, .int c, rfl, rfl, hS, rfl, _, _, rfl, rfl, ?_⟩
      refine ⟨_, rfl, p, _, 2, 2, rfl, rfl, hp, rfl, ?_⟩
      have hS2 : SqL K (upd H p (.lst [.int a, .int b, .int (c + 1)])) p [.int a, .int b, .int (c + 1)] := SqL.of upd_same
      refine ⟨_, rfl, p, _, 1, .int b, rfl, rfl, hS2, rfl, _, rfl, p, _, 2, .int (c + 1), rfl, rfl, hS2, rfl, _, _, rfl, rfl, CMulW.of (lt3000s (by decide) (by decide)) (lt3000s (by omega) (by omega)), _, _, rfl, rfl, .inl ⟨_, rfl, _, _, rfl, rfl, (by show (0 : Int) < 2305843009213693951; decide), ?_⟩⟩
      refine ⟨_, rfl, _, rfl, _, _, rfl, rfl, CMulW.of (lt3000s (by omega) (by omega)) (lt3000s (by omega) (by omega)), _, rfl, p, _, 2, .int (c + 1), rfl, rfl, hS2, rfl, _, _, rfl, rfl, CMulW.of (lt3000s (by decide) (by decide)) (lt3000s (by omega) (by omega)), _, _, rfl, rfl, _, _, rfl, rfl, .inl ⟨_, rfl, _, _, rfl, rfl, (by show (0 : Int) < 1152921504606846883; decide), ?_⟩⟩
      refine ⟨_, rfl, _, rfl, _, _, rfl, rfl, (by show (0 : Int) < 1021; decide), _, _, rfl, rfl, _, _, rfl, rfl, CMulW.of (lt3000s (by omega) (by omega)) (lt3000s (by omega) (by omega)), _, _, rfl, rfl, CDivW.of (by decide) (lt3000s (by decide) (by decide)), .inl ⟨_, rfl, _, rfl, _, _, rfl, rfl, m0, ?_⟩⟩
      refine q _ _ (Int.emod_nonneg _ (by omega)) (Int.emod_lt_of_pos _ m0) ⟨a, b, c + 1, rfl, a0, a1, b0, b1, by omega, by omega⟩
end
end Sf

namespace Sf
open PySem PySem.Spec PyProof.Rows L2
theorem cut_first (xs : List V) : cutV xs none (some 1) = xs.take 1 := by
  unfold cutV
  rw [show HT.sIx xs.length xs.length (some 1) = min 1 xs.length from HT.sIx_nat xs.length xs.length 1, HT.sIx_none]
  cases xs with
  | nil => rfl
  | cons x r =>
    rw [show min 1 (x :: r).length = 1 by
      rw [List.length_cons]
      omega]
    rfl
theorem same_ne {H H' : Hp} {p q : Addr} {o u : HO} (s : Same H H') (h : H p = some o) (n : H q = none) : p ≠ q := ne_of_none h n
section
variable {P : Program} {w : World} {K : PySem.W.Frag} {mg : Str → Option Value} {base : Heap} {f : Addr} {fd : FuncData}
def spSack (K : PySem.W.Frag) : Sp := fun vs H Q _ => ∃ (a : Addr) (ns : List Int) (t : Nat), vs = [.ref a, .int t] ∧ SqL K H a (ns.map V.int) ∧ ns.length ≤ 63 ∧ t ≤ 10 ∧
  ∀ (p : Addr) (xs : List V) (H' : Hp), Same H H' → H p = none → H' p = some (.lst xs) → SackO 0 xs → Q (.ref p) H'
theorem ok_sack (F : FnD K "_law_sack" "_law_sack" s_L_sack f fd) (T : Glob mg) : FnOk P w K mg base CX0 1 f fd ["_law_script", "_law_turn"] (spSack K) := by
  refine F.ok sc_L_sack (fun vs H Q E h => ?_) (fun cdv A outer s H vs Q E hr h => ?_)
  · obtain ⟨a, ns, t, rfl, _⟩ := h; rfl
  · obtain ⟨a, ns, t, rfl, hS, hl, ht, q⟩ := h
    refine ⟨_, PSs.nox (Evl.pss_cut (ps_set (i := 2) sc_L_sack.nd rfl (Or.inl rfl) (pe_ifExp (pt_cmp (pc_lt (pv 1) (pe_callB call_len_seq (by rfl) T.m_len (by decide +kernel) (pa_cons (pv 0) pa_nil)))) (pe_callTy call_int1 (by rfl) T.m_int (by decide +kernel) (pa_cons (pe_ix ix_list (pv 0) (pv 1) (fun _ _ => rfl)) pa_nil)) (pe_op op_add (pe_op op_add (pe_op op_mulW pe_int (pv 1)) pe_int) (pe_op op_mod (pe_callTy call_int1 (by rfl) T.m_int (by decide +kernel) (pa_cons (pe_callB (cr_sum rfl) (by rfl) T.m_sum (by decide +kernel) (pa_cons (pe_slice sl_list (pv 0) po_none (po_some pe_int)) pa_nil)) pa_nil)) pe_int))))
      (pss_cons (ps_set (i := 3) sc_L_sack.nd rfl (Or.inl rfl) (pe_op op_mod (pe_callB call_abs (by rfl) T.m_abs (by decide +kernel) (pa_cons (pv 2) pa_nil)) (pe_op op_powW (pe_op op_powW pe_int pe_int) pe_int)))
      (pss_one (ps_ret (pe_lst (pa_cons (pe_callB (call_max2 rfl) (by rfl) T.m_max (by decide +kernel) (pa_cons pe_int (pa_cons (pe_op op_sub (pv 3) (pe_op op_powW pe_int pe_int)) pa_nil))) (pa_cons (pe_op op_add (pe_op op_add (pe_op op_add (pe_op op_mulW (pe_op op_mod (pv 3) pe_int) pe_int) (pe_op op_mulW pe_int (pv 1))) (pe_op op_mulW pe_int (pe_callTy call_int1 (by rfl) T.m_int (by decide +kernel) (pa_cons (pe_cmp (pc_lt (pv 2) pe_int) rfl) pa_nil)))) pe_int) (pa_cons pe_int pa_nil)))))))), ?_⟩
    refine ⟨fun σ' H' => ∃ c : Int, σ' = [some (.ref a), some (.int t), some (.int c), none] ∧ Same H H', ?_, ?_⟩
    · refine ⟨_, rfl, _, rfl, a, _, rfl, .inl hS, _, _, rfl, rfl, _, rfl, ifd (fun h => ?_) (fun h => ?_)⟩
      · have hi : t < ns.length := by
          rw [List.length_map] at h
          omega
        refine ⟨_, rfl, _, rfl, a, _, t, .int ns[t], rfl, rfl, hS, atI_nat (by rw [List.getElem?_map, List.getElem?_eq_getElem hi]; rfl), .inl ⟨_, rfl, ?_⟩⟩
        exact ⟨_, rfl, Same.refl H⟩
      · refine ⟨_, rfl, _, _, rfl, rfl, CMulW.of (lt3000s (by decide) (by decide)) (lt3000s (by omega) (by omega)), _, _, rfl, rfl, _, rfl, _, rfl, a, _, rfl, hS, fun p hp => ?_⟩
        refine ⟨p, ns.take 1, rfl, SqL.of ?_, .inl ⟨_, rfl, _, _, rfl, rfl, (by show (0 : Int) < 1000003; decide), _, _, rfl, rfl, ?_⟩⟩
        · rw [upd_same, cut_first, List.map_take]
        · exact ⟨_, rfl, same_upd hp⟩
    · rintro σ' H' ⟨c, rfl, hs⟩
      refine ⟨_, rfl, c, rfl, 10, 58, rfl, rfl, ⟨by decide, by decide +kernel⟩, 10 ^ 58, 5, rfl, rfl, ⟨by decide, by decide +kernel⟩, _, _, rfl, rfl, (by show (0 : Int) < (10 ^ 58) ^ (5 : Int).toNat; decide +kernel), ?_⟩
      have g0 := Int.emod_nonneg (if c < 0 then -c else c) (by decide +kernel : ((10 : Int) ^ 58) ^ (5 : Int).toNat ≠ 0)
      have g1 := Int.emod_lt_of_pos (if c < 0 then -c else c) (by decide +kernel : (0 : Int) < ((10 : Int) ^ 58) ^ (5 : Int).toNat)
      have e290 : ((10 : Int) ^ 58) ^ (5 : Int).toNat = 10 ^ 290 := by decide +kernel
      rw [e290] at g0 g1
      have gb := lt3000 g0 g1
      refine ⟨_, rfl, 10, 16, rfl, rfl, ⟨by decide, by decide +kernel⟩, _, _, rfl, rfl, _, _, rfl, ?_⟩
      refine ⟨_, rfl, _, _, rfl, rfl, (by show (0 : Int) < 1000000000061; decide), _, _, rfl, rfl, CMulW.of (lt3000s (by omega) (by omega)) (lt3000s (by decide) (by decide)), _, rfl, _, _, rfl, rfl, CMulW.of (lt3000s (by decide) (by decide)) (lt3000s (by omega) (by omega)), _, _, rfl, rfl, ?_⟩
      refine ⟨_, rfl, _, _, rfl, rfl, .inr ⟨_, rfl, _, _, rfl, rfl, CMulW.of (lt3000s (by decide) (by decide)) (lt3000s (by split <;> decide) (by split <;> decide)), _, _, rfl, rfl, _, _, rfl, rfl, (by show 3 ≤ sizeLine; decide), fun p hp => ?_⟩⟩
      have e16 : (10 : Int) ^ (16 : Int).toNat = 10000000000000000 := by decide +kernel
      have eb : ∀ b : Bool, 0 ≤ (if b = true then (1 : Int) else 0) ∧ (if b = true then (1 : Int) else 0) ≤ 1 := fun b => by cases b <;> decide
      have hb := eb (decide (c < 0))
      refine q p _ _ (hs.trans (same_upd hp)) (hs.free hp) upd_same ⟨_, _, _, rfl, ?_, ?_, ?_, ?_, by decide, by decide⟩
      · rw [e16]
        split <;> omega
      · rw [e16, e290]
        have : (0 : Int) < 10 ^ 290 := by decide +kernel
        have h1 : ∀ z N : Int, 0 ≤ z → z < N → 0 < N → (if z - 10000000000000000 > 0 then z - 10000000000000000 else 0) < N := fun z N a b c => by split <;> omega
        exact h1 _ _ g0 g1 this
      · omega
      · omega
structure OneOfP (K : PySem.W.Frag) (vs : List V) (H : Hp) (Q : VK) : Prop where
  ex : ∃ (p b : Addr) (xs items : List V) (n : Nat), vs = [.ref p, .ref b] ∧ H p = some (.lst xs) ∧ SackO n xs ∧ n ≤ 1000000 ∧ b ≠ p ∧ SqL K H b items ∧ 1 ≤ items.length ∧ items.length ≤ 1000000 ∧
  ∀ (v : V) (ys : List V), v ∈ items → SackO (n + 1) ys → Q v (upd H p (.lst ys))
def spOneOf (K : PySem.W.Frag) : Sp := fun vs H Q _ => OneOfP K vs H Q
theorem sq_upd {K : PySem.W.Frag} {H : Hp} {a p : Addr} {xs : List V} {o : HO} (h : SqL K H a xs) (n : a ≠ p) : SqL K (upd H p o) a xs := by
  rcases h with (h | ⟨u, h⟩) | h
  · exact .inl (.inl (by rw [upd_ne n]; exact h))
  · exact .inl (.inr ⟨u, by rw [upd_ne n]; exact h⟩)
  · exact .inr h
theorem ok_one_of (F : FnD K "_law_one_of" "_law_one_of" s_L_one_of f fd) (T : Glob mg) (C_L_take : Cal P w K mg base 1 "_law_take" ["_law_sack_here", "_law_many"] spTake) : FnOk P w K mg base CX0 2 f fd ["_law_sack_here", "_law_items"] (spOneOf K) := by
  refine F.ok sc_L_one_of (fun vs H Q E h => ?_) (fun cdv A outer s H vs Q E hr h => ?_)
  · obtain ⟨p, b, xs, items, n, rfl, _⟩ := h.ex; rfl
  · obtain ⟨p, b, xs, items, n, rfl, hp, hx, hn, hne, hS, hl0, hl1, q⟩ := h.ex
    refine ⟨_, PSs.nox (pss_one (ps_ret (pe_ix ix_list (pv 1) (pe_cal C_L_take (hr.mono (by decide)) (pa_cons (pv 0) (pa_cons (pe_callB call_len_seq (by rfl) T.m_len (by decide +kernel) (pa_cons (pv 1) pa_nil)) pa_nil))) (fun _ _ => rfl)))), ?_⟩
    refine ⟨_, rfl, _, rfl, _, rfl, b, _, rfl, .inl hS, ⟨p, xs, n, _, rfl, hp, hx, hn, by omega, ?_, fun r ys h0 h1 hy => ?_⟩⟩
    · exact Int.lt_trans (by omega : (items.length : Int) < 1000001) (by decide +kernel)
    · have hi : r.toNat < items.length := by omega
      have er : ((r.toNat : Nat) : Int) = r := by omega
      refine ⟨b, items, r, items[r.toNat], rfl, rfl, sq_upd hS hne, ?_, q _ ys (List.getElem_mem hi) hy⟩
      have z := atI_nat (List.getElem?_eq_getElem hi)
      rw [er] at z
      exact z
end
end Sf

namespace Sf
/-! the state of trial division: what was found, what is left -/
structure Trial (N : Int) (l : List (Int × Nat)) (r d : Int) : Prop where
  prod : prodF l * r = N
  pos : 1 ≤ r
  le : r ≤ N
  srt : Sorted l
  prm : Primes l
  low : ∀ q ∈ l, q.1 < d
  nod : NoDiv r d
theorem trial_start {N : Int} (h : 1 ≤ N) : Trial N [] N 2 := ⟨by show 1 * N = N; omega, h, Int.le_refl _, List.Pairwise.nil, (fun _ h => by cases h), (fun _ h => by cases h), nodiv2 N⟩
theorem sorted_snoc {l : List (Int × Nat)} {p : Int} {e : Nat} (h : Sorted l) (hl : ∀ q ∈ l, q.1 < p) : Sorted (l ++ [(p, e)]) := by
  unfold Sorted at *
  rw [List.pairwise_append]
  refine ⟨h, List.pairwise_singleton _ _, fun a ha b hb => ?_⟩
  rw [List.mem_singleton] at hb
  rw [hb]
  exact hl a ha
theorem primes_snoc {l : List (Int × Nat)} {p : Int} {e : Nat} (h : Primes l) (hp : PrP p) (he : 1 ≤ e) : Primes (l ++ [(p, e)]) := fun q hq => by
  rcases List.mem_append.mp hq with z | z
  · exact h q z
  · rw [List.mem_singleton] at z
    rw [z]
    exact ⟨hp, he⟩
theorem prodF_one (p : Int) (e : Nat) : prodF [(p, e)] = p ^ e := by
  show p ^ e * 1 = p ^ e
  rw [Int.mul_one]
theorem next_gt {d : Int} (h : 2 ≤ d) : d < (if d = 2 then 3 else d + 2) := by split <;> omega
theorem trial_pass {N r d : Int} {l : List (Int × Nat)} (h : Trial N l r d) (hd : r % d ≠ 0) : Trial N l r (if d = 2 then 3 else d + 2) :=
  ⟨h.prod, h.pos, h.le, h.srt, h.prm, fun q hq => Int.lt_trans (h.low q hq) (next_gt h.nod.1), nodiv_next h.nod hd⟩
theorem trial_take {N r d u : Int} {m : Nat} {l : List (Int × Nat)} (h : Trial N l r d) (hd : r % d = 0) (e : r = d ^ m * u) (hu : u % d ≠ 0) : Trial N (l ++ [(d, m)]) u (if d = 2 then 3 else d + 2) ∧ 1 ≤ m ∧ u ≤ r := by
  have hd2 := h.nod.1
  have hr := h.pos
  have hm : 1 ≤ m := by
    rcases Nat.eq_zero_or_pos m with z | z
    · subst z
      rw [Int.pow_zero, Int.one_mul] at e
      rw [e] at hd
      exact absurd hd hu
    · exact z
  have hdm : 0 < d ^ m := pow_pos_int (by omega) m
  have hu0 : 1 ≤ u := by
    rcases Int.lt_or_le 0 u with z | z
    · omega
    · have := Int.mul_nonpos_of_nonneg_of_nonpos (Int.le_of_lt hdm) z
      omega
  have hur : u ≤ r := by
    have : 1 * u ≤ d ^ m * u := Int.mul_le_mul_of_nonneg_right (by omega) (by omega)
    omega
  have hdu : r % u = 0 := Int.emod_eq_zero_of_dvd ⟨d ^ m, by rw [e]; exact Int.mul_comm _ _⟩
  refine ⟨⟨?_, hu0, Int.le_trans hur h.le, sorted_snoc h.srt h.low, primes_snoc h.prm (nodiv_prime h.nod hd) hm, fun q hq => ?_, nodiv_next (nodiv_of h.nod hdu) hu⟩, hm, hur⟩
  · rw [prodF_append, prodF_one, Int.mul_assoc, ← e]
    exact h.prod
  · have hn := next_gt hd2
    rcases List.mem_append.mp hq with z | z
    · exact Int.lt_trans (h.low q z) hn
    · rw [List.mem_singleton] at z
      rw [z]
      exact hn
theorem trial_end1 {N d : Int} {l : List (Int × Nat)} (h : Trial N l 1 d) : FactOf N l := ⟨by have := h.prod; rw [Int.mul_one] at this; exact this, h.srt, h.prm⟩
theorem trial_end {N r d : Int} {l : List (Int × Nat)} (h : Trial N l r d) (hr : 1 < r) (hd : r < d * d) : FactOf N (l ++ [(r, 1)]) ∧ ∀ q ∈ l, q.1 < r := by
  have h2 := nodiv_lt h.nod (by omega)
  have hl : ∀ q ∈ l, q.1 < r := fun q hq => Int.lt_of_lt_of_le (h.low q hq) h2
  have hp : PrP r := prp_of_trial (by omega) h.nod.1 h.nod.2.2 hd
  refine ⟨⟨?_, sorted_snoc h.srt hl, primes_snoc h.prm hp (by omega)⟩, hl⟩
  rw [prodF_append, prodF_one, Int.pow_succ, Int.pow_zero, Int.one_mul]
  exact h.prod
theorem prodF_pos {l : List (Int × Nat)} (h : Primes l) : 1 ≤ prodF l := by
  have h1 := prodF_len h
  have h2 : (0 : Int) < 2 ^ l.length := pow_pos_int (by omega) _
  omega
theorem trial_len {N r d : Int} {l : List (Int × Nat)} (h : Trial N l r d) (hN : N ≤ 1000000000) : l.length < 30 := by
  refine len_of_prod h.prm ?_
  have h1 := prodF_pos h.prm
  have h2 := h.prod
  have h3 := h.pos
  have h4 : prodF l * 1 ≤ prodF l * r := Int.mul_le_mul_of_nonneg_left h3 (by omega)
  omega
theorem fact_len {N : Int} {l : List (Int × Nat)} (h : FactOf N l) (hN : N ≤ 1000000000) : l.length < 30 := len_of_prod h.2.2 (by rw [h.1]; exact hN)
/-- the product of the primes with an odd power -/
def oddF : List (Int × Nat) → Int
  | [] => 1
  | q :: l => (if q.2 % 2 = 1 then q.1 else 1) * oddF l
theorem oddF_append : ∀ l m : List (Int × Nat), oddF (l ++ m) = oddF l * oddF m
  | [], m => by
    show oddF m = 1 * oddF m
    rw [Int.one_mul]
  | q :: l, m => by
    show (if q.2 % 2 = 1 then q.1 else 1) * oddF (l ++ m) = (if q.2 % 2 = 1 then q.1 else 1) * oddF l * oddF m
    rw [oddF_append l m, Int.mul_assoc]
theorem pow_split (p : Int) (e : Nat) : p ^ e = (if e % 2 = 1 then p else 1) * (p ^ (e / 2) * p ^ (e / 2)) := by
  have e1 : e = e % 2 + (e / 2 + e / 2) := by omega
  conv => lhs; rw [e1]
  rw [Int.pow_add, Int.pow_add]
  congr 1
  split
  · rename_i h
    rw [h, Int.pow_succ, Int.pow_zero, Int.one_mul]
  · rename_i h
    rw [show e % 2 = 0 by omega, Int.pow_zero]
theorem oddF_bound {l : List (Int × Nat)} : Primes l → 1 ≤ oddF l ∧ oddF l ≤ prodF l := by
  induction l with
  | nil => intro _; exact ⟨Int.le_refl _, Int.le_refl _⟩
  | cons q l ih =>
    intro h
    have ih := ih fun r hr => h r (List.mem_cons_of_mem _ hr)
    obtain ⟨hp, he⟩ := h q List.mem_cons_self
    have hp2 := hp.1
    have h1 : 1 ≤ (if q.2 % 2 = 1 then q.1 else 1) := by split <;> omega
    have h2 : (if q.2 % 2 = 1 then q.1 else 1) ≤ q.1 ^ q.2 := by
      rw [pow_split q.1 q.2]
      have h3 : 0 < q.1 ^ (q.2 / 2) := pow_pos_int (by omega) _
      have h4 : 0 < q.1 ^ (q.2 / 2) * q.1 ^ (q.2 / 2) := Int.mul_pos h3 h3
      have h5 : (if q.2 % 2 = 1 then q.1 else 1) * 1 ≤ (if q.2 % 2 = 1 then q.1 else 1) * (q.1 ^ (q.2 / 2) * q.1 ^ (q.2 / 2)) := Int.mul_le_mul_of_nonneg_left h4 (by omega)
      omega
    show 1 ≤ (if q.2 % 2 = 1 then q.1 else 1) * oddF l ∧ (if q.2 % 2 = 1 then q.1 else 1) * oddF l ≤ q.1 ^ q.2 * prodF l
    refine ⟨?_, Int.mul_le_mul h2 ih.2 (by omega) (by omega)⟩
    have := Int.mul_pos (show 0 < (if q.2 % 2 = 1 then q.1 else 1) by omega) (show 0 < oddF l by omega)
    omega
theorem prodF_take {l : List (Int × Nat)} (h : Primes l) (i : Nat) : prodF (l.take i) ≤ prodF l := by
  have e : prodF l = prodF (l.take i) * prodF (l.drop i) := by rw [← prodF_append, List.take_append_drop]
  have h1 : 1 ≤ prodF (l.take i) := prodF_pos fun q hq => h q (List.mem_of_mem_take hq)
  have h2 : 1 ≤ prodF (l.drop i) := prodF_pos fun q hq => h q (List.mem_of_mem_drop hq)
  have h3 : prodF (l.take i) * 1 ≤ prodF (l.take i) * prodF (l.drop i) := Int.mul_le_mul_of_nonneg_left h2 (by omega)
  omega
theorem self_le_pow {p : Int} (h : 2 ≤ p) : ∀ {e : Nat}, 1 ≤ e → p ≤ p ^ e
  | 0, h0 => by omega
  | e + 1, _ => by
    rw [Int.pow_succ]
    have h1 : 0 < p ^ e := pow_pos_int (by omega) e
    have h2 : 1 * p ≤ p ^ e * p := Int.mul_le_mul_of_nonneg_right (by omega) (by omega)
    omega
theorem prodF_mem : ∀ {l : List (Int × Nat)}, Primes l → ∀ q ∈ l, q.1 ≤ prodF l
  | [], _, q, hq => by cases hq
  | r :: l, h, q, hq => by
    have h1 : 1 ≤ prodF l := prodF_pos fun q hq => h q (List.mem_cons_of_mem _ hq)
    obtain ⟨hp, he⟩ := h r List.mem_cons_self
    have hp2 := hp.1
    have h2 := self_le_pow hp2 he
    show q.1 ≤ r.1 ^ r.2 * prodF l
    rcases List.mem_cons.mp hq with z | z
    · subst z
      have h3 : q.1 ^ q.2 * 1 ≤ q.1 ^ q.2 * prodF l := Int.mul_le_mul_of_nonneg_left h1 (by omega)
      omega
    · have h3 := prodF_mem (l := l) (fun q hq => h q (List.mem_cons_of_mem _ hq)) q z
      have h4 : 1 * prodF l ≤ r.1 ^ r.2 * prodF l := Int.mul_le_mul_of_nonneg_right (by omega) (by omega)
      omega
theorem nat_lt_pow {p : Int} (h : 2 ≤ p) : ∀ e : Nat, (e : Int) < p ^ e
  | 0 => by rw [Int.pow_zero]; decide
  | e + 1 => by
    have ih := nat_lt_pow h e
    rw [Int.pow_succ]
    have h1 : 0 < p ^ e := pow_pos_int (by omega) e
    have h2 : p ^ e * 2 ≤ p ^ e * p := Int.mul_le_mul_of_nonneg_left h (by omega)
    omega
theorem prodF_mem2 : ∀ {l : List (Int × Nat)}, Primes l → ∀ q ∈ l, (q.2 : Int) < prodF l
  | [], _, q, hq => by cases hq
  | r :: l, h, q, hq => by
    have h1 : 1 ≤ prodF l := prodF_pos fun q hq => h q (List.mem_cons_of_mem _ hq)
    obtain ⟨hp, he⟩ := h r List.mem_cons_self
    have hp2 := hp.1
    have h2 := self_le_pow hp2 he
    show (q.2 : Int) < r.1 ^ r.2 * prodF l
    rcases List.mem_cons.mp hq with z | z
    · subst z
      have h3 : q.1 ^ q.2 * 1 ≤ q.1 ^ q.2 * prodF l := Int.mul_le_mul_of_nonneg_left h1 (by omega)
      have h4 := nat_lt_pow hp2 q.2
      omega
    · have h3 := prodF_mem2 (l := l) (fun q hq => h q (List.mem_cons_of_mem _ hq)) q z
      have h4 : 1 * prodF l ≤ r.1 ^ r.2 * prodF l := Int.mul_le_mul_of_nonneg_right (by omega) (by omega)
      omega
end Sf

namespace Sf
open PySem PySem.Spec PyProof.Rows L2
/-- the pairs of a dict of factors -/
def kvsF (l : List (Int × Nat)) : List (Key × V) := l.map fun q => ((Sum.inl q.1 : Key), V.int q.2)
theorem kvsF_none : ∀ {l : List (Int × Nat)} {p : Int}, (∀ q ∈ l, q.1 < p) → valV (kvsF l) (Sum.inl p : Key) = none
  | [], _, _ => rfl
  | q :: l, p, h => by
    show valV (((Sum.inl q.1 : Key), V.int q.2) :: kvsF l) (Sum.inl p : Key) = none
    rw [valV_neg]
    · exact kvsF_none fun r hr => h r (List.mem_cons_of_mem _ hr)
    · intro e
      have e1 : q.1 = p := Sum.inl.inj e
      have := h q List.mem_cons_self
      omega
theorem kvsF_snoc (l : List (Int × Nat)) (p : Int) (e : Nat) : kvsF (l ++ [(p, e)]) = kvsF l ++ [((Sum.inl p : Key), V.int e)] := by
  unfold kvsF
  rw [List.map_append]
  rfl
theorem kvsF_len (l : List (Int × Nat)) : (kvsF l).length = l.length := List.length_map ..
section
variable {P : Program} {w : World} {K : PySem.W.Frag} {mg : Str → Option Value} {base : Heap} {f : Addr} {fd : FuncData}
def absI (n : Int) : Int := if n < 0 then -n else n
def spFactors : Sp := fun vs H Q _ => ∃ n : Int, vs = [.int n] ∧ n ≠ 0 ∧ -1000000000 ≤ n ∧ n ≤ 1000000000 ∧
  ∀ (l : List (Int × Nat)) (d : Addr) (H' : Hp), FactOf (absI n) l → Same H H' → H d = none → H' d = some (.dK (kvsF l)) → Q (.ref d) H'
theorem ok_prime_powers (F : FnD K "prime_powers" "prime_powers" s_P_prime_powers f fd) (T : Glob mg)
    (C_P_stripped : Cal P w K mg base 1 "stripped" ["number", "prime"] spStripped) (C_P_next_divisor : Cal P w K mg base 1 "next_divisor" ["divisor"] spNext) :
    FnOk P w K mg base CX0 2 f fd ["number"] spFactors := by
  refine F.ok sc_P_prime_powers (fun vs H Q E h => ?_) (fun cdv A outer s H vs Q E hr h => ?_)
  · obtain ⟨n, rfl, _⟩ := h; rfl
  · obtain ⟨n, rfl, hn, h1, h2, q⟩ := h
    have hu := hu_of hr
    have hN1 : 1 ≤ absI n := by unfold absI; split <;> omega
    have hN2 : absI n ≤ 1000000000 := by unfold absI; split <;> omega
    refine ⟨_, PSs.nox (pss_cons (ps_set (i := 1) sc_P_prime_powers.nd rfl (Or.inl rfl) (pe_callB call_abs (by rfl) T.m_abs (by decide +kernel) (pa_cons (pv 0) pa_nil)))
      (pss_cons (ps_set (i := 2) sc_P_prime_powers.nd rfl (Or.inl rfl) pe_dnewK)
      (pss_cons (ps_set (i := 3) sc_P_prime_powers.nd rfl (Or.inl rfl) pe_int)
      (pss_cons (ps_while PassesOwn.never (pt_cmp (pc_le (pe_op op_mulW (pv 3) (pv 3)) (pv 1))) (pss_cons (ps_if (pt_cmp (pc_eqI (pe_op op_mod (pv 1) (pv 3)) pe_int)) (pss_one (ps_asg (pe_cal C_P_stripped (hr.mono (by decide)) (pa_cons (pv 1) (pa_cons (pv 3) pa_nil))) (pg_tup (by rfl) (pgs_cons (pg_sub (pv 2) (pv 3) (set_dict hu)) (pgs_cons (pg_name (i := 1) sc_P_prime_powers.nd rfl (Or.inl rfl)) pgs_nil))))) pss_nil)
      (pss_one (ps_set (i := 3) sc_P_prime_powers.nd rfl (Or.inl rfl) (pe_cal C_P_next_divisor (hr.mono (by decide)) (pa_cons (pv 3) pa_nil))))))
      (pss_cons (ps_if (pt_cmp (pc_gt (pv 1) pe_int)) (pss_one (ps_dput hu (pv 2) (pv 1) pe_int rfl)) pss_nil)
      (pss_one (ps_ret (pv 2)))))))), ?_⟩
    refine ⟨_, rfl, n, rfl, fun d hd => ?_⟩
    refine ⟨fun c σ H' => ∃ (l : List (Int × Nat)) (r t : Int), σ = [some (.int n), some (.int r), some (.ref d), some (.int t)] ∧ Same H H' ∧ H' d = some (.dK (kvsF l)) ∧ Trial (absI n) l r t ∧ t ≤ absI n + 2 ∧ c = (r - t + 3).toNat,
      ⟨_, [], absI n, 2, rfl, same_upd hd, upd_same, trial_start hN1, by omega, rfl⟩, ?_⟩
    rintro c σ H' ⟨l, r, t, rfl, hs, hdd, ht, htN, rfl⟩
    have t2 := ht.nod.1
    have rN := ht.le
    have r1 := ht.pos
    have hlen := trial_len ht hN2
    have tb : t.natAbs < 2 ^ 3000 := lt3000s (by omega) (by omega)
    have htt : t * 2 ≤ t * t := Int.mul_le_mul_of_nonneg_left t2 (by omega)
    refine ⟨_, rfl, _, rfl, _, _, rfl, rfl, CMulW.of tb tb, _, rfl, _, _, rfl, rfl, _, rfl, ifd (fun h => ⟨_, fun _ _ z => z, ?_⟩) (fun h => ?_)⟩
    · have tr : t ≤ r := nodiv_lt ht.nod (by omega)
      refine ⟨_, rfl, _, rfl, _, _, rfl, rfl, (by omega), _, _, rfl, rfl, _, rfl, ifd (fun h2 => ?_) (fun h2 => ?_)⟩
      · refine ⟨_, rfl, _, rfl, r, t, rfl, by omega, t2, tb, fun m u a hst ha => ?_⟩
        obtain ⟨k1, k2, k3⟩ := trial_take ht h2 hst.1 hst.2
        have nad : d ≠ a := ne_of_none hdd ha
        refine ⟨a, _, rfl, .inl (.inl upd_same), rfl, _, _, rfl, _, rfl, _, rfl, d, _, rfl, DPut.k (k := Sum.inl t) (by rw [upd_ne nad]; exact hdd) (by rw [kvsF_len]; exact small1000 (by omega)), _, _, rfl, rfl, ?_⟩
        refine ⟨_, rfl, t, rfl, ?_⟩
        refine ⟨_, ?_, l ++ [(t, m)], u, _, rfl, ?_, ?_, k1, ?_, rfl⟩
        · split <;> omega
        · intro b o e
          have h3 := hs b o e
          have nb : b ≠ d := ne_of_none e hd
          rw [upd_ne nb, upd_ne (ne_of_none h3 ha)]
          exact h3
        · rw [upd_same, putK_new _ (kvsF_none ht.low), kvsF_snoc]
        · split <;> omega
      · refine ⟨_, rfl, t, rfl, ?_⟩
        refine ⟨_, ?_, l, r, _, rfl, hs, hdd, trial_pass ht h2, ?_, rfl⟩
        · split <;> omega
        · split <;> omega
    · refine ⟨_, rfl, _, _, rfl, rfl, _, rfl, ifd (fun h3 => ?_) (fun h3 => ?_)⟩
      · obtain ⟨k1, k2⟩ := trial_end ht (by omega) (by omega)
        refine ⟨_, rfl, _, rfl, d, _, rfl, DPut.k (k := Sum.inl r) hdd (by rw [kvsF_len]; exact small1000 (by omega)), ?_⟩
        refine ⟨_, rfl, q _ d _ k1 (fun b o e => ?_) hd ?_⟩
        · rw [upd_ne (ne_of_none e hd)]
          exact hs b o e
        · rw [upd_same, putK_new _ (kvsF_none k2), kvsF_snoc]
          rfl
      · have hr : r = 1 := by omega
        subst hr
        exact ⟨_, rfl, q l d H' (trial_end1 ht) hs hd hdd⟩
theorem ok_factors (F : FnD K "factors" "factors" s_P_factors f fd) (C_P_check_number : Cal P w K mg base 2 "check_number" ["value"] spCheckNumber)
    (C_P_prime_powers : Cal P w K mg base 2 "prime_powers" ["number"] spFactors) :
    FnOk P w K mg base CX0 3 f fd ["number"] spFactors := by
  refine F.ok sc_P_factors (fun vs H Q E h => ?_) (fun cdv A outer s H vs Q E hr h => ?_)
  · obtain ⟨n, rfl, _⟩ := h; rfl
  · obtain ⟨n, rfl, hn, h1, h2, q⟩ := h
    refine ⟨_, PSs.nox (pss_cons (ps_expr (pe_cal C_P_check_number (hr.mono (by decide)) (pa_cons (pv 0) pa_nil)))
      (pss_one (ps_ret (pe_cal C_P_prime_powers (hr.mono (by decide)) (pa_cons (pv 0) pa_nil))))), ?_⟩
    exact ⟨_, rfl, n, rfl, hn, h1, h2, _, rfl, n, rfl, hn, h1, h2, fun l d H1 hf hs hd hdd => q l d H1 hf hs hd hdd⟩
end
end Sf
namespace Sf
open PySem PySem.Spec PyProof.Rows L2
section
variable {P : Program} {w : World} {K : PySem.W.Frag} {mg : Str → Option Value} {base : Heap} {f : Addr} {fd : FuncData}
def spSquareFree : Sp := fun vs H Q _ => ∃ n : Int, vs = [.int n] ∧ n ≠ 0 ∧ -1000000000 ≤ n ∧ n ≤ 1000000000 ∧
  ∀ (l : List (Int × Nat)) (H' : Hp), FactOf (absI n) l → Same H H' → Q (.int (if 0 < n then oddF l else -oddF l)) H'
theorem ok_free_part (F : FnD K "free_part" "free_part" s_P_free_part f fd) (C_P_prime_powers : Cal P w K mg base 2 "prime_powers" ["number"] spFactors) : FnOk P w K mg base CX0 3 f fd ["number"] spSquareFree := by
  refine F.ok sc_P_free_part (fun vs H Q E h => ?_) (fun cdv A outer s H vs Q E hr h => ?_)
  · obtain ⟨n, rfl, _⟩ := h; rfl
  · obtain ⟨n, rfl, hn, h1, h2, q⟩ := h
    have hN2 : absI n ≤ 1000000000 := by unfold absI; split <;> omega
    refine ⟨_, PSs.nox (pss_cons (ps_set (i := 1) sc_P_free_part.nd rfl (Or.inl rfl) pe_int)
      (pss_cons (ps_for PassesOwn.never rfl (pi_items (pe_frz (pe_cal C_P_prime_powers (hr.mono (by decide)) (pa_cons (pv 0) pa_nil)))) (pg_tup (by rfl) (pgs_cons (pg_name (i := 2) sc_P_free_part.nd rfl (Or.inl rfl)) (pgs_cons (pg_name (i := 3) sc_P_free_part.nd rfl (Or.inl rfl)) pgs_nil))) (pss_one (ps_if (pt_cmp (pc_eqI (pe_op op_mod (pv 3) pe_int) pe_int)) (pss_one (ps_set (i := 1) sc_P_free_part.nd rfl (Or.inl rfl) (pe_op op_mulW (pv 1) (pv 2)))) pss_nil)))
      (pss_one (ps_ret (pe_ifExp (pt_cmp (pc_gt (pv 0) pe_int)) (pv 1) (pe_un un_neg (pv 1))))))), ?_⟩
    refine ⟨_, rfl, n, rfl, hn, h1, h2, fun l d H1 hf hs hd hdd => ⟨d, _, rfl, hdd, True.intro, fun od => ?_⟩⟩
    have hs1 : Same H (upd H1 d (.frz od (.dK (kvsF l)))) := fun b o e => by
      rw [upd_ne (ne_of_none e hd)]
      exact hs b o e
    refine ⟨d, od, kvsF l, rfl, upd_same, fun i c σ H' => ∃ v1 v2, σ = [some (.int n), some (.int (oddF (l.take i))), v1, v2] ∧ i + c = l.length ∧ Same H H' ∧ H' d = some (.frz od (.dK (kvsF l))), ⟨l.length, none, none, rfl, by omega, hs1, upd_same⟩, ?_⟩
    rintro i c σ H' ⟨v1, v2, rfl, hc, hs', hd'⟩
    by_cases hi : i < l.length
    · refine .inr ⟨⟨hd', by rw [kvsF_len]; exact hi⟩, _, fun _ _ z => z, fun x H2 hy => ?_⟩
      obtain ⟨T, k, v, e1, rfl, hT, rfl⟩ := hy
      have ek : ((Sum.inl l[i].1 : Key), V.int l[i].2) = (k, v) := by
        unfold kvsF at e1
        rw [List.getElem?_map, List.getElem?_eq_getElem hi] at e1
        exact Option.some.inj e1
      cases ek
      refine ⟨T, _, rfl, .inl (.inl upd_same), rfl, _, _, rfl, _, _, rfl, rfl, ?_⟩
      have hsT : Same H (upd H' T (.tup [kV (Sum.inl l[i].1), .int l[i].2])) := hs'.trans (same_upd hT)
      have hdT : (upd H' T (.tup [kV (Sum.inl l[i].1), .int l[i].2])) d = some (.frz od (.dK (kvsF l))) := by
        rw [upd_ne (ne_of_none hd' hT)]
        exact hd'
      have et : oddF (l.take (i + 1)) = oddF (l.take i) * (if l[i].2 % 2 = 1 then l[i].1 else 1) := by
        rw [List.take_add_one, List.getElem?_eq_getElem hi, oddF_append]
        show _ = _
        congr 1
        show (if l[i].2 % 2 = 1 then l[i].1 else 1) * 1 = _
        rw [Int.mul_one]
      refine ⟨_, rfl, _, _, rfl, rfl, (by show (0 : Int) < 2; decide), _, _, rfl, rfl, _, rfl, ifd (fun h3 => ?_) (fun h3 => ?_)⟩
      · have h4 : l[i].2 % 2 = 1 := by omega
        rw [if_pos h4] at et
        have hp : Primes (l.take i) := fun r hr => hf.2.2 r (List.mem_of_mem_take hr)
        have k1 := oddF_bound hp
        have k2 := prodF_take hf.2.2 i
        have k3 := prodF_mem hf.2.2 l[i] (List.getElem_mem hi)
        have k4 := (hf.2.2 l[i] (List.getElem_mem hi)).1.1
        have k5 := hf.1
        refine ⟨_, rfl, _, rfl, _, _, rfl, rfl, CMulW.of (lt3000s (by omega) (by omega)) (lt3000s (by omega) (by omega)), ?_⟩
        exact ⟨c - 1, by omega, some (.int l[i].1), some (.int l[i].2), (by rw [et]; rfl), by omega, hsT, hdT⟩
      · have h4 : ¬ l[i].2 % 2 = 1 := by omega
        rw [if_neg h4, Int.mul_one] at et
        exact ⟨c - 1, by omega, some (.int l[i].1), some (.int l[i].2), (by rw [et]; rfl), by omega, hsT, hdT⟩
    · refine .inl ⟨⟨hd', by rw [kvsF_len]; omega⟩, ?_⟩
      have ei : l.take i = l := List.take_of_length_le (by omega)
      rw [ei]
      refine ⟨_, rfl, _, _, rfl, rfl, _, rfl, ifd (fun h3 => ?_) (fun h3 => ?_)⟩
      · have z := q l H' hf hs'
        rw [if_pos h3] at z
        exact ⟨_, rfl, z⟩
      · have z := q l H' hf hs'
        rw [if_neg h3] at z
        exact ⟨_, rfl, _, rfl, z⟩
theorem ok_square_free (F : FnD K "square_free" "square_free" s_P_square_free f fd) (C_P_check_number : Cal P w K mg base 2 "check_number" ["value"] spCheckNumber) (C_P_free_part : Cal P w K mg base 3 "free_part" ["number"] spSquareFree) : FnOk P w K mg base CX0 4 f fd ["number"] spSquareFree := by
  refine F.ok sc_P_square_free (fun vs H Q E h => ?_) (fun cdv A outer s H vs Q E hr h => ?_)
  · obtain ⟨n, rfl, _⟩ := h; rfl
  · obtain ⟨n, rfl, hn, h1, h2, q⟩ := h
    refine ⟨_, PSs.nox (pss_cons (ps_expr (pe_cal C_P_check_number (hr.mono (by decide)) (pa_cons (pv 0) pa_nil)))
      (pss_one (ps_ret (pe_cal C_P_free_part (hr.mono (by decide)) (pa_cons (pv 0) pa_nil))))), ?_⟩
    exact ⟨_, rfl, n, rfl, hn, h1, h2, _, rfl, n, rfl, hn, h1, h2, q⟩
end
end Sf
namespace Sf
open PySem PySem.Spec PyProof.Rows L2
section
variable {P : Program} {w : World} {K : PySem.W.Frag} {mg : Str → Option Value} {base : Heap} {f : Addr} {fd : FuncData}
def spResidue : Sp := fun vs H Q _ => ∃ n p : Int, vs = [.int n, .int p] ∧ -1000000000 ≤ n ∧ n ≤ 1000000000 ∧ PrP p ∧ p ≤ 1000000000 ∧ ∀ H', Same H H' → Q (.int (restSign n p)) H'
theorem ok_residue_sign (F : FnD K "residue_sign" "residue_sign" s_P_residue_sign f fd) (T : Glob mg) (C_P_is_integer : Cal P w K mg base 1 "is_integer" ["value"] (spIsInt K)) (C_P_check_prime : Cal P w K mg base 3 "check_prime" ["value"] spCheckPrime)
    (C_P_rest_sign : Cal P w K mg base 2 "rest_sign" ["number", "prime"] spRestSign) : FnOk P w K mg base CX0 4 f fd ["number", "prime"] spResidue := by
  refine F.ok sc_P_residue_sign (fun vs H Q E h => ?_) (fun cdv A outer s H vs Q E hr h => ?_)
  · obtain ⟨n, p, rfl, _⟩ := h; rfl
  · obtain ⟨n, p, rfl, h1, h2, hp, hp2, q⟩ := h
    obtain ⟨tM, hc_MAX_NUMBER⟩ := T.m_MAX_NUMBER
    have p2 := hp.1
    refine ⟨_, PSs.nox (pss_cons (ps_if (PW.pt (pw_or (pt_not (pt_val (pe_cal C_P_is_integer (hr.mono (by decide)) (pa_cons (pv 0) pa_nil)))) (pw_or1 (pt_cmp (pc_gt (pe_callB call_abs (by rfl) T.m_abs (by decide +kernel) (pa_cons (pv 0) pa_nil)) (pe_glob (v := .int 1000000000) rfl hc_MAX_NUMBER ⟨_, rfl⟩)))))) (pss_one ps_never) pss_nil)
      (pss_cons (ps_expr (pe_cal C_P_check_prime (hr.mono (by decide)) (pa_cons (pv 1) pa_nil)))
      (pss_one (ps_ret (pe_cal C_P_rest_sign (hr.mono (by decide)) (pa_cons (pv 0) (pa_cons (pv 1) pa_nil))))))), ?_⟩
    refine ⟨_, rfl, .int n, true, rfl, .int n, _, rfl, iteF ?_⟩
    refine ⟨_, rfl, n, rfl, _, _, rfl, rfl, _, rfl, ifd (fun e => ?_) (fun e => ?_)⟩
    · exfalso
      split at e <;> omega
    · refine ⟨_, rfl, p, rfl, hp, hp2, _, rfl, _, rfl, n, p, rfl, p2, ?_, q⟩
      exact Nat.lt_trans (by omega : p.natAbs < 2 ^ 31) (by decide +kernel)
end
end Sf

namespace Sf
/-! a prime divides a product only if it divides a factor -/
theorem PrP.pos {p : Int} (h : PrP p) : 0 < p := by have := h.1; omega
theorem gcd_of_prime {p : Int} (h : PrP p) {a : Int} (ha : ¬ p ∣ a) : Nat.Coprime p.natAbs a.natAbs := by
  have hp := h.1
  have h1 : Nat.gcd p.natAbs a.natAbs ∣ p.natAbs := Nat.gcd_dvd_left ..
  have h2 : Nat.gcd p.natAbs a.natAbs ∣ a.natAbs := Nat.gcd_dvd_right ..
  have h0 : 0 < Nat.gcd p.natAbs a.natAbs := Nat.gcd_pos_of_pos_left _ (by omega)
  have hle : Nat.gcd p.natAbs a.natAbs ≤ p.natAbs := Nat.le_of_dvd (by omega) h1
  unfold Nat.Coprime
  rcases Nat.lt_or_ge (Nat.gcd p.natAbs a.natAbs) 2 with z | z
  · omega
  · rcases Nat.lt_or_ge (Nat.gcd p.natAbs a.natAbs) p.natAbs with z2 | z2
    · exfalso
      refine h.2 (Nat.gcd p.natAbs a.natAbs : Int) (by omega) (by omega) ?_
      refine Int.emod_eq_zero_of_dvd ?_
      have : ((Nat.gcd p.natAbs a.natAbs : Nat) : Int) ∣ ((p.natAbs : Nat) : Int) := Int.ofNat_dvd.mpr h1
      rwa [Int.natAbs_of_nonneg (by omega : 0 ≤ p)] at this
    · exfalso
      have e : Nat.gcd p.natAbs a.natAbs = p.natAbs := by omega
      rw [e] at h2
      exact ha (Int.natAbs_dvd_natAbs.mp h2)
theorem prime_mul {p : Int} (h : PrP p) {a b : Int} (hd : p ∣ a * b) : p ∣ a ∨ p ∣ b := by
  by_cases ha : p ∣ a
  · exact .inl ha
  · refine .inr ?_
    have h1 : p.natAbs ∣ a.natAbs * b.natAbs := by
      rw [← Int.natAbs_mul]
      exact Int.natAbs_dvd_natAbs.mpr hd
    exact Int.natAbs_dvd_natAbs.mp (Nat.Coprime.dvd_of_dvd_mul_left (gcd_of_prime h ha) h1)
theorem prime_one {p : Int} (h : PrP p) : ¬ p ∣ 1 := fun z => by
  have h1 := Int.le_of_dvd (by omega) z
  have := h.1
  omega
theorem prime_pow {p a : Int} (h : PrP p) : ∀ {e : Nat}, p ∣ a ^ e → p ∣ a
  | 0, z => absurd (by rwa [Int.pow_zero] at z) (prime_one h)
  | e + 1, z => by
    rw [Int.pow_succ] at z
    rcases prime_mul h z with y | y
    · exact prime_pow h y
    · exact y
theorem prime_dvd_prime {p q : Int} (hp : PrP p) (hq : PrP q) (h : p ∣ q) : p = q := by
  have h1 := hp.1
  have h2 := hq.1
  have h3 := Int.le_of_dvd (by omega) h
  rcases Int.lt_or_le p q with z | z
  · exact absurd (Int.emod_eq_zero_of_dvd h) (hq.2 p h1 z)
  · omega
theorem prime_prodF {p : Int} (h : PrP p) : ∀ {l : List (Int × Nat)}, Primes l → p ∣ prodF l → ∃ e, (p, e) ∈ l
  | [], _, z => absurd z (prime_one h)
  | q :: l, hl, z => by
    rcases prime_mul h (show p ∣ q.1 ^ q.2 * prodF l from z) with y | y
    · have e := prime_dvd_prime h (hl q List.mem_cons_self).1 (prime_pow h y)
      exact ⟨q.2, by rw [e]; exact List.mem_cons_self⟩
    · obtain ⟨e, he⟩ := prime_prodF h (fun r hr => hl r (List.mem_cons_of_mem _ hr)) y
      exact ⟨e, List.mem_cons_of_mem _ he⟩
theorem pow_cancel {p : Int} (h : PrP p) {R S : Int} (hR : ¬ p ∣ R) (hS : ¬ p ∣ S) : ∀ {a b : Nat}, p ^ a * R = p ^ b * S → a = b ∧ R = S
  | 0, 0, e => ⟨rfl, by rwa [Int.pow_zero, Int.one_mul, Int.one_mul] at e⟩
  | 0, b + 1, e => by
    rw [Int.pow_zero, Int.one_mul, Int.pow_succ, Int.mul_assoc] at e
    refine absurd ?_ hR
    rw [e, Int.mul_comm, Int.mul_assoc]
    exact Int.dvd_mul_right ..
  | a + 1, 0, e => by
    rw [Int.pow_zero, Int.one_mul, Int.pow_succ, Int.mul_assoc] at e
    refine absurd ?_ hS
    rw [← e, Int.mul_comm, Int.mul_assoc]
    exact Int.dvd_mul_right ..
  | a + 1, b + 1, e => by
    have h0 := h.pos
    rw [Int.pow_succ, Int.pow_succ, Int.mul_comm (p ^ a), Int.mul_comm (p ^ b), Int.mul_assoc, Int.mul_assoc] at e
    obtain ⟨h1, h2⟩ := pow_cancel h hR hS (Int.eq_of_mul_eq_mul_left (by omega) e)
    exact ⟨by omega, h2⟩
/-! one number, one factorization -/
def Distinct (l : List (Int × Nat)) : Prop := (l.map (·.1)).Nodup
theorem distinct_of_sorted {l : List (Int × Nat)} (h : Sorted l) : Distinct l := by
  unfold Distinct List.Nodup
  rw [List.pairwise_map]
  exact h.imp fun h e => by omega
theorem distinct_perm {l m : List (Int × Nat)} (h : l.Perm m) (d : Distinct l) : Distinct m := by
  unfold Distinct at *
  exact (h.map _).nodup_iff.mp d
theorem prodF_perm {l m : List (Int × Nat)} (h : l.Perm m) : prodF l = prodF m := by
  induction h with
  | nil => rfl
  | cons x _ ih => show x.1 ^ x.2 * _ = x.1 ^ x.2 * _; rw [ih]
  | swap x y l => show y.1 ^ y.2 * (x.1 ^ x.2 * _) = x.1 ^ x.2 * (y.1 ^ y.2 * _); exact Int.mul_left_comm ..
  | trans _ _ a b => exact a.trans b
theorem oddF_perm {l m : List (Int × Nat)} (h : l.Perm m) : oddF l = oddF m := by
  induction h with
  | nil => rfl
  | cons x _ ih => show (if x.2 % 2 = 1 then x.1 else 1) * _ = (if x.2 % 2 = 1 then x.1 else 1) * _; rw [ih]
  | swap x y l => exact Int.mul_left_comm ..
  | trans _ _ a b => exact a.trans b
theorem not_dvd_rest {p : Int} {e : Nat} {l : List (Int × Nat)} (hp : Primes ((p, e) :: l)) (hd : Distinct ((p, e) :: l)) : ¬ p ∣ prodF l := fun z => by
  obtain ⟨e', he⟩ := prime_prodF (hp (p, e) List.mem_cons_self).1 (fun r hr => hp r (List.mem_cons_of_mem _ hr)) z
  unfold Distinct at hd
  rw [List.map_cons, List.nodup_cons] at hd
  exact hd.1 (List.mem_map.mpr ⟨(p, e'), he, rfl⟩)
theorem fact_unique : ∀ {l m : List (Int × Nat)}, Primes l → Distinct l → Primes m → Distinct m → prodF l = prodF m → l.Perm m
  | [], m, _, _, hm, _, e => by
    cases m with
    | nil => exact List.Perm.nil
    | cons q m =>
      have h1 := prodF_len hm
      rw [← e] at h1
      have h2 : (0 : Int) < 2 ^ m.length := pow_pos_int (by omega) _
      rw [List.length_cons, Int.pow_succ] at h1
      have h3 : prodF [] = 1 := rfl
      omega
  | (p, a) :: l, m, hl, dl, hm, dm, e => by
    have hp := (hl (p, a) List.mem_cons_self).1
    have ha := (hl (p, a) List.mem_cons_self).2
    have hdv : p ∣ prodF m := by
      rw [← e]
      show p ∣ p ^ a * prodF l
      obtain ⟨k, rfl⟩ : ∃ k, a = k + 1 := ⟨a - 1, by have : 1 ≤ a := ha; omega⟩
      rw [Int.pow_succ, Int.mul_comm (p ^ k), Int.mul_assoc]
      exact Int.dvd_mul_right ..
    obtain ⟨b, hb⟩ := prime_prodF hp hm hdv
    have hperm := List.perm_cons_erase hb
    have hm2 : Primes ((p, b) :: m.erase (p, b)) := fun r hr => hm r (hperm.mem_iff.mpr hr)
    have dm2 : Distinct ((p, b) :: m.erase (p, b)) := distinct_perm hperm dm
    have e2 : p ^ a * prodF l = p ^ b * prodF (m.erase (p, b)) := e.trans (prodF_perm hperm)
    obtain ⟨h1, h2⟩ := pow_cancel hp (not_dvd_rest hl dl) (not_dvd_rest hm2 dm2) e2
    subst h1
    have ih := fact_unique (l := l) (m := m.erase (p, a)) (fun r hr => hl r (List.mem_cons_of_mem _ hr)) ((List.nodup_cons.mp dl).2) (fun r hr => hm2 r (List.mem_cons_of_mem _ hr)) ((List.nodup_cons.mp dm2).2) h2
    exact (ih.cons (p, a)).trans hperm.symm
/-! the square-free part -/
def oddL (l : List (Int × Nat)) : List (Int × Nat) := (l.filter fun q => q.2 % 2 == 1).map fun q => (q.1, 1)
theorem oddL_prod : ∀ l : List (Int × Nat), prodF (oddL l) = oddF l ∧ oddF (oddL l) = oddF l
  | [] => ⟨rfl, rfl⟩
  | q :: l => by
    obtain ⟨h1, h2⟩ := oddL_prod l
    unfold oddL at *
    by_cases h : q.2 % 2 = 1
    · rw [List.filter_cons_of_pos (by simp [h]), List.map_cons]
      show q.1 ^ 1 * _ = (if q.2 % 2 = 1 then q.1 else 1) * _ ∧ (if (1 : Nat) % 2 = 1 then q.1 else 1) * _ = (if q.2 % 2 = 1 then q.1 else 1) * _
      rw [if_pos h, h1, h2, Int.pow_succ, Int.pow_zero, Int.one_mul]
      exact ⟨rfl, rfl⟩
    · rw [List.filter_cons_of_neg (by simp [h])]
      show _ = (if q.2 % 2 = 1 then q.1 else 1) * _ ∧ _ = (if q.2 % 2 = 1 then q.1 else 1) * _
      rw [if_neg h, h1, h2, Int.one_mul]
      exact ⟨rfl, rfl⟩
theorem oddL_primes {l : List (Int × Nat)} (h : Primes l) : Primes (oddL l) := fun q hq => by
  obtain ⟨r, hr, e⟩ := List.mem_map.mp hq
  rw [← e]
  exact ⟨(h r (List.mem_filter.mp hr).1).1, Nat.le_refl _⟩
theorem oddL_distinct {l : List (Int × Nat)} (h : Distinct l) : Distinct (oddL l) := by
  unfold Distinct oddL
  rw [List.map_map]
  have : ((fun x : Int × Nat => x.1) ∘ fun q => (q.1, 1)) = fun q : Int × Nat => q.1 := rfl
  rw [this]
  exact h.sublist (List.filter_sublist.map _)
def rootF : List (Int × Nat) → Int
  | [] => 1
  | q :: l => q.1 ^ (q.2 / 2) * rootF l
theorem rootF_append : ∀ l m : List (Int × Nat), rootF (l ++ m) = rootF l * rootF m
  | [], m => by show rootF m = 1 * rootF m; rw [Int.one_mul]
  | q :: l, m => by
    show q.1 ^ (q.2 / 2) * rootF (l ++ m) = q.1 ^ (q.2 / 2) * rootF l * rootF m
    rw [rootF_append l m, Int.mul_assoc]
theorem odd_root : ∀ l : List (Int × Nat), oddF l * rootF l * rootF l = prodF l
  | [] => rfl
  | q :: l => by
    have ih := odd_root l
    show (if q.2 % 2 = 1 then q.1 else 1) * oddF l * (q.1 ^ (q.2 / 2) * rootF l) * (q.1 ^ (q.2 / 2) * rootF l) = q.1 ^ q.2 * prodF l
    rw [pow_split q.1 q.2, ← ih]
    generalize (if q.2 % 2 = 1 then q.1 else 1) = c
    generalize q.1 ^ (q.2 / 2) = g
    generalize oddF l = o
    generalize rootF l = r
    simp only [Int.mul_comm, Int.mul_left_comm, Int.mul_assoc]
theorem rootF_bound : ∀ {l : List (Int × Nat)}, Primes l → 1 ≤ rootF l ∧ rootF l ≤ prodF l
  | [], _ => ⟨Int.le_refl _, Int.le_refl _⟩
  | q :: l, h => by
    have ih := rootF_bound (l := l) fun r hr => h r (List.mem_cons_of_mem _ hr)
    have hp2 := (h q List.mem_cons_self).1.1
    have h1 : 0 < q.1 ^ (q.2 / 2) := pow_pos_int (by omega) _
    have h2 : q.1 ^ (q.2 / 2) ≤ q.1 ^ q.2 := by
      have e : q.2 = q.2 / 2 + (q.2 - q.2 / 2) := by omega
      have h3 : 0 < q.1 ^ (q.2 - q.2 / 2) := pow_pos_int (by omega) _
      have h4 : q.1 ^ (q.2 / 2) * 1 ≤ q.1 ^ (q.2 / 2) * q.1 ^ (q.2 - q.2 / 2) := Int.mul_le_mul_of_nonneg_left (by omega) (by omega)
      rw [← Int.pow_add, ← e] at h4
      omega
    show 1 ≤ q.1 ^ (q.2 / 2) * rootF l ∧ q.1 ^ (q.2 / 2) * rootF l ≤ q.1 ^ q.2 * prodF l
    refine ⟨?_, Int.mul_le_mul h2 ih.2 (by omega) (by omega)⟩
    have := Int.mul_pos h1 (show 0 < rootF l by omega)
    omega
theorem primes_take {l : List (Int × Nat)} (h : Primes l) (i : Nat) : Primes (l.take i) := fun r hr => h r (List.mem_of_mem_take hr)
theorem rootF_take_pos {l : List (Int × Nat)} (h : Primes l) (i j : Nat) {q : Int} (hq : 2 ≤ q := by omega) : 1 ≤ rootF (l.take i) * q ^ j := by
  have h1 := (rootF_bound (primes_take h i)).1
  have h2 : 0 < q ^ j := pow_pos_int (by omega) _
  have := Int.mul_pos (show 0 < rootF (l.take i) by omega) h2
  omega
theorem pow_le_pow {p : Int} (h : 1 ≤ p) {a b : Nat} (hab : a ≤ b) : p ^ a ≤ p ^ b := by
  have e : b = a + (b - a) := by omega
  have h1 : 0 < p ^ a := pow_pos_int (by omega) _
  have h2 : 0 < p ^ (b - a) := pow_pos_int (by omega) _
  have h4 : p ^ a * 1 ≤ p ^ a * p ^ (b - a) := Int.mul_le_mul_of_nonneg_left (by omega) (by omega)
  rw [← Int.pow_add, ← e] at h4
  omega
theorem rootF_take_le {l : List (Int × Nat)} (h : Primes l) {i j : Nat} (hi : i < l.length) (hj : j < l[i].2 / 2) : rootF (l.take i) * l[i].1 ^ j ≤ prodF l := by
  have hp2 := (h _ (List.getElem_mem hi)).1.1
  have h1 := rootF_bound (primes_take h (i + 1))
  have e : rootF (l.take (i + 1)) = rootF (l.take i) * l[i].1 ^ (l[i].2 / 2) := by
    rw [List.take_add_one, List.getElem?_eq_getElem hi, rootF_append]
    show _ = _
    congr 1
    show l[i].1 ^ (l[i].2 / 2) * 1 = _
    rw [Int.mul_one]
  have h2 := (rootF_bound (primes_take h i)).1
  have h3 : l[i].1 ^ j ≤ l[i].1 ^ (l[i].2 / 2) := pow_le_pow (by omega) (by omega)
  have h4 : rootF (l.take i) * l[i].1 ^ j ≤ rootF (l.take i) * l[i].1 ^ (l[i].2 / 2) := Int.mul_le_mul_of_nonneg_left h3 (by omega)
  have h5 := prodF_take h (i + 1)
  rw [← e] at h4
  omega
theorem sq_not_dvd {l : List (Int × Nat)} (h : Primes l) (d : Distinct l) {q : Int × Nat} (hq : q ∈ l) : ¬ (q.1 * q.1) ∣ oddF l := fun z => by
  have hp := (h q hq).1
  have hperm := List.perm_cons_erase hq
  have h2 : Primes (q :: l.erase q) := fun r hr => h r (hperm.mem_iff.mpr hr)
  have d2 : Distinct (q :: l.erase q) := distinct_perm hperm d
  rw [oddF_perm hperm] at z
  have h3 : q.1 ∣ oddF (l.erase q) := by
    obtain ⟨k, hk⟩ := z
    have hk2 : (if q.2 % 2 = 1 then q.1 else 1) * oddF (l.erase q) = q.1 * q.1 * k := hk
    by_cases c : q.2 % 2 = 1
    · rw [if_pos c, Int.mul_assoc] at hk2
      exact ⟨k, Int.eq_of_mul_eq_mul_left (by have := hp.pos; omega) hk2⟩
    · rw [if_neg c, Int.one_mul, Int.mul_assoc] at hk2
      exact ⟨q.1 * k, hk2⟩
  have h4 : q.1 ∣ prodF (l.erase q) := by
    rw [← odd_root]
    exact Int.dvd_mul_of_dvd_left (Int.dvd_mul_of_dvd_left h3)
  obtain ⟨p, e⟩ := q
  exact not_dvd_rest h2 d2 h4
end Sf

namespace Sf
open PySem PySem.Spec PyProof.Rows L2
section
variable {P : Program} {w : World} {K : PySem.W.Frag} {mg : Str → Option Value} {base : Heap} {f : Addr} {fd : FuncData}
def spLIsPrime : Sp := fun vs H Q _ => ∃ n : Int, vs = [.int n] ∧ n ≤ 1000077375 ∧ ∀ r : Bool, (r = true ↔ PrP n) → Q (.bl r) H
theorem ok_l_is_prime (F : FnD K "_law_is_prime" "_law_is_prime" s_L_is_prime f fd) (T : Glob mg) : FnOk P w K mg base CX0 1 f fd ["_law_number"] spLIsPrime := by
  refine F.ok sc_L_is_prime (fun vs H Q E h => ?_) (fun cdv A outer s H vs Q E hr h => ?_)
  · obtain ⟨n, rfl, _⟩ := h; rfl
  · obtain ⟨n, rfl, hn, q⟩ := h
    refine ⟨_, PSs.nox (pss_cons (ps_if (pt_cmp (pc_lt (pv 0) pe_int)) (pss_one (ps_ret pe_bl)) pss_nil)
      (pss_cons (ps_for PassesOwn.never rfl (pi_range2 (by rfl) T.m_range (pa_cons pe_int (pa_cons pe_int pa_nil))) (pg_name (i := 1) sc_L_is_prime.nd rfl (Or.inl rfl)) (pss_cons (ps_if (pt_cmp (pc_gt (pe_op op_mulW (pv 1) (pv 1)) (pv 0))) (pss_one (ps_ret pe_bl)) pss_nil)
      (pss_one (ps_if (pt_cmp (pc_eqI (pe_op op_mod (pv 0) (pv 1)) pe_int)) (pss_one (ps_ret pe_bl)) pss_nil))))
      (pss_one (ps_ret pe_bl)))), ?_⟩
    refine ⟨_, rfl, _, _, rfl, rfl, _, rfl, ifd (fun h => ?_) (fun h => ?_)⟩
    · refine q false ⟨fun z => Bool.noConfusion z, fun z => ?_⟩
      have := z.1
      omega
    · refine ⟨2, 31624, rfl, by decide, fun i c σ H' => H' = H ∧ ∃ v, σ = [some (.int n), v] ∧ i + c = 31622 ∧ ∀ k : Int, 2 ≤ k → k < 2 + i → n % k ≠ 0, ⟨31622, rfl, none, rfl, by omega, fun k a b => by omega⟩, ?_⟩
      rintro i c σ _ ⟨rfl, v, rfl, hc, hd⟩
      by_cases hi : i < 31622
      · refine .inr ⟨hi, _, fun _ _ z => z, fun x H2 hy => ?_⟩
        obtain ⟨rfl, rfl⟩ := hy
        have bb : ((2 : Int) + i).natAbs < 2 ^ 3000 := lt3000s (by omega) (by omega)
        refine ⟨_, rfl, _, rfl, _, _, rfl, rfl, CMulW.of bb bb, _, rfl, _, _, rfl, rfl, _, rfl, ifd (fun h2 => ?_) (fun h2 => ?_)⟩
        · exact q true ⟨fun _ => prp_of_trial (by omega) (by omega) hd h2, fun _ => rfl⟩
        · refine ⟨_, rfl, _, rfl, _, _, rfl, rfl, (by omega), _, _, rfl, rfl, _, rfl, ifd (fun h3 => ?_) (fun h3 => ?_)⟩
          · refine q false ⟨fun z => Bool.noConfusion z, fun z => absurd h3 (z.2 _ (by omega) ?_)⟩
            have : ((2 : Int) + i) * 2 ≤ (2 + i) * (2 + i) := Int.mul_le_mul_of_nonneg_left (by omega) (by omega)
            have h2' : ¬ n < (2 + (i : Int)) * (2 + i) := h2
            omega
          · refine ⟨c - 1, by omega, rfl, _, rfl, by omega, fun k a b => ?_⟩
            by_cases e : k = 2 + i
            · rw [e]
              exact h3
            · exact hd k a (by omega)
      · refine .inl ⟨(by show 31622 ≤ i; omega), ?_⟩
        exact q true ⟨fun _ => prp_of_trial (d := 31624) (by omega) (by decide) (fun k a b => hd k a (by omega)) (by show n < 1000077376; omega), fun _ => rfl⟩
/-- the rests of squares, and the sign by them -/
def sqs (p : Int) : List Int := (List.range (p - 1).toNat).map fun i => ((1 : Int) + (i : Nat)) * (1 + (i : Nat)) % p
theorem sqs_at {p : Int} {i : Nat} (h : i < (p - 1).toNat) : (sqs p)[i]? = some (((1 : Int) + (i : Nat)) * (1 + (i : Nat)) % p) := by
  unfold sqs
  rw [List.getElem?_map, List.getElem?_range h]
  rfl
def lawSign (n p : Int) : Int := if n % p = 0 then 0 else if p = 2 then (if n % 8 = 1 ∨ n % 8 = 7 then 1 else -1) else if n % p ∈ sqs p then 1 else -1
theorem inV_ints (x : Int) (l : List Int) : inV (.int x) (l.map V.int) = decide (x ∈ l) := by
  unfold inV
  rw [List.any_map, Bool.eq_iff_iff, List.any_eq_true]
  simp only [decide_eq_true_eq]
  constructor
  · rintro ⟨y, hy, e⟩
    have e2 : (y == x) = true := e
    rw [← beq_iff_eq.mp e2]
    exact hy
  · intro h
    refine ⟨x, h, ?_⟩
    show (x == x) = true
    exact beq_self_eq_true x
theorem all_flat (l : List Int) : (l.map V.int).all flatV = true := by
  rw [List.all_map, List.all_eq_true]
  intro x _
  rfl
def spLSign : Sp := fun vs H Q _ => ∃ n p : Int, vs = [.int n, .int p] ∧ 2 ≤ p ∧ p ≤ 100000 ∧ ∀ H', Same H H' → Q (.int (lawSign n p)) H'
theorem ok_l_sign (F : FnD K "_law_sign" "_law_sign" s_L_sign f fd) (T : Glob mg) : FnOk P w K mg base CX0 1 f fd ["_law_number", "_law_prime"] spLSign := by
  refine F.ok sc_L_sign (fun vs H Q E h => ?_) (fun cdv A outer s H vs Q E hr h => ?_)
  · obtain ⟨n, p, rfl, _⟩ := h; rfl
  · obtain ⟨n, p, rfl, hp, hb, q⟩ := h
    refine ⟨_, PSs.nox (pss_cons (ps_set (i := 2) sc_L_sign.nd rfl (Or.inl rfl) (pe_op op_mod (pe_callTy call_int1 (by rfl) T.m_int (by decide +kernel) (pa_cons (pv 0) pa_nil)) (pv 1)))
      (pss_cons (ps_if (pt_cmp (pc_eqI (pv 2) pe_int)) (pss_one (ps_ret pe_int)) pss_nil)
      (pss_cons (ps_if (pt_cmp (pc_eqI (pv 1) pe_int)) (pss_one (ps_ret (pe_ifExp (pt_cmpR op_in_seq (pe_op op_mod (pe_callTy call_int1 (by rfl) T.m_int (by decide +kernel) (pa_cons (pv 0) pa_nil)) pe_int) (pe_tup (pa_cons pe_int (pa_cons pe_int pa_nil))) (by rfl)) pe_int (pe_un un_neg pe_int)))) pss_nil)
      (pss_one (ps_ret (pe_ifExp (pt_cmpR op_in_seq (pv 2) (pe_lc rfl sc_L_sign.nd (own := [("_law_one", 3)]) (pi_range2 (by rfl) T.m_range (pa_cons pe_int (pa_cons (pv 1) pa_nil))) (blkOk_by (N := ["_law_number", "_law_prime", "_law_rest", "_law_one"]) (sc := defScope s_L_sign) (by decide +kernel)) (fun _ _ _ _ _ => pg_name (i := 3) sc_L_sign.nd rfl (Or.inl rfl)) (fun _ _ _ _ _ => pts_nil) (fun _ _ _ _ _ => (pe_op op_mod (pe_callTy call_int1 (by rfl) T.m_int (by decide +kernel) (pa_cons (pe_op op_mulW (pv 3) (pv 3)) pa_nil)) (pv 1)))) (by rfl)) pe_int (pe_un un_neg pe_int))))))), ?_⟩
    unfold lawSign at q
    refine ⟨_, rfl, .inl ⟨_, rfl, _, rfl, _, _, rfl, rfl, (by omega), ?_⟩⟩
    refine ⟨_, rfl, _, _, rfl, rfl, _, rfl, ifd (fun h => ?_) (fun h => ?_)⟩
    · rw [if_pos h] at q
      exact q H (Same.refl H)
    · rw [if_neg h] at q
      refine ⟨_, rfl, _, _, rfl, rfl, _, rfl, ifd (fun h2 => ?_) (fun h2 => ?_)⟩
      · rw [if_pos h2] at q
        refine ⟨_, rfl, .inl ⟨_, rfl, _, _, rfl, rfl, (by show (0 : Int) < 8; decide), (by show 2 ≤ sizeLine; decide), fun a ha => ?_⟩⟩
        refine ⟨a, _, rfl, .inr (.inl (.inl upd_same)), rfl, rfl, _, rfl, ?_⟩
        rw [inV_two]
        refine ifd (fun e => ?_) (fun e => ?_)
        · rw [if_pos e] at q
          exact q _ (same_upd ha)
        · rw [if_neg e] at q
          exact ⟨_, rfl, q _ (same_upd ha)⟩
      · rw [if_neg h2] at q
        refine ⟨_, rfl, _, rfl, 1, p, rfl, ⟨by decide, by decide, by omega, by omega⟩, fun D hD => lc_range (lo := 1) (n := (p - 1).toNat) (fun i H' => Same H H' ∧ H' D = some (.lst (((sqs p).take i).map V.int))) ⟨same_upd hD, by rw [upd_same]; rfl⟩ (fun i H' hi hP => ?_) (fun H' hP => ?_)⟩
        · obtain ⟨hs, hd⟩ := hP
          have ib : ((1 : Int) + (i : Nat)).natAbs < 2 ^ 3000 := lt3000s (by omega) (by omega)
          refine ⟨rfl, ?_⟩
          refine ⟨_, rfl, _, rfl, _, _, rfl, rfl, CMulW.of ib ib, .inl ⟨_, rfl, _, rfl, _, _, rfl, rfl, (by omega), _, hd, ?_, ?_, ?_⟩⟩
          · rw [List.length_map]
            exact Nat.lt_of_le_of_lt (List.length_take_le _ _) (Nat.lt_of_lt_of_le (by omega : i < 1000000) (by decide))
          · intro b o e
            rw [upd_ne (ne_of_none e hD)]
            exact hs b o e
          · rw [upd_same, List.take_add_one, sqs_at hi, List.map_append]
            rfl
        · obtain ⟨hs, hd⟩ := hP
          have et : (sqs p).take (p - 1).toNat = sqs p := List.take_of_length_le (by unfold sqs; rw [List.length_map, List.length_range]; exact Nat.le_refl _)
          rw [et] at hd
          refine ⟨D, _, rfl, .inl (SqL.of hd), rfl, all_flat _, _, rfl, ?_⟩
          rw [inV_ints]
          refine ifd (fun e => ?_) (fun e => ?_)
          · rw [if_pos e] at q
            exact q _ hs
          · rw [if_neg e] at q
            exact ⟨_, rfl, q _ hs⟩
end
end Sf

namespace Sf
/-! residues by tables -/
def maskOf (p : Nat) : List Nat → Nat
  | [] => 0
  | x :: l => maskOf p l ||| 2 ^ (x * x % p)
theorem maskOf_bit (p r : Nat) : ∀ l : List Nat, (maskOf p l).testBit r = l.any fun x => x * x % p == r
  | [] => Nat.zero_testBit r
  | x :: l => by
    unfold maskOf
    rw [Nat.testBit_or, maskOf_bit p r l, Nat.testBit_two_pow, List.any_cons, Bool.or_comm]
    rfl
def euler (p : Nat) : Bool :=
  let m := maskOf p (List.range' 1 (p - 1))
  (List.range' 1 (p - 1)).all fun r => (r ^ ((p - 1) / 2) % p == 1) == m.testBit r && (r ^ ((p - 1) / 2) % p == 1 || r ^ ((p - 1) / 2) % p == p - 1)
theorem sqs_nat {p r : Nat} : ((r : Int) ∈ sqs p) ↔ (List.range' 1 (p - 1)).any (fun x => x * x % p == r) = true := by
  unfold sqs
  rw [List.mem_map, List.any_eq_true]
  constructor
  · rintro ⟨i, hi, e⟩
    rw [List.mem_range] at hi
    refine ⟨1 + i, by rw [List.mem_range'_1]; omega, ?_⟩
    rw [beq_iff_eq]
    have e2 : (((1 + i) * (1 + i) % p : Nat) : Int) = (r : Int) := by
      rw [← e]
      push_cast
      rfl
    exact Int.ofNat.inj e2
  · rintro ⟨x, hx, e⟩
    rw [List.mem_range'_1] at hx
    refine ⟨x - 1, by rw [List.mem_range]; omega, ?_⟩
    rw [beq_iff_eq] at e
    have e1 : (1 : Int) + ((x - 1 : Nat) : Int) = (x : Int) := by omega
    rw [e1, ← e]
    push_cast
    rfl
theorem emod_cast {n : Int} {p : Nat} (hp : 0 < p) : ∃ r : Nat, r < p ∧ n % p = (r : Int) := by
  have h1 := Int.emod_nonneg n (by omega : (p : Int) ≠ 0)
  have h2 := Int.emod_lt_of_pos n (by omega : (0 : Int) < p)
  exact ⟨(n % p).toNat, by omega, by omega⟩
theorem half_cast (p : Nat) (hp : 1 ≤ p) : ((((p : Int) - 1) / 2).toNat) = (p - 1) / 2 := by omega
theorem pow_rest {n : Int} {p r : Nat} (k : Nat) (e : n % p = (r : Int)) : n ^ k % p = ((r ^ k % p : Nat) : Int) := by
  rw [← pow_mod, e]
  push_cast
  rfl
theorem euler_at {p : Nat} (h : euler p = true) {r : Nat} (h1 : 1 ≤ r) (h2 : r < p) : (r ^ ((p - 1) / 2) % p = 1 ↔ (r : Int) ∈ sqs p) ∧ (r ^ ((p - 1) / 2) % p = 1 ∨ r ^ ((p - 1) / 2) % p = p - 1) := by
  unfold euler at h
  have h3 := List.all_eq_true.mp h r (by rw [List.mem_range'_1]; omega)
  rw [Bool.and_eq_true, maskOf_bit] at h3
  obtain ⟨h4, h5⟩ := h3
  refine ⟨?_, by simpa using h5⟩
  rw [sqs_nat]
  have h6 := beq_iff_eq.mp h4
  rw [← h6, beq_iff_eq]
theorem sign_eq {p : Nat} (hp : 3 ≤ p) (h : euler p = true) (n : Int) : restSign n p = lawSign n p := by
  unfold restSign lawSign
  by_cases h0 : n % p = 0
  · rw [if_pos h0, if_pos h0]
  · rw [if_neg h0, if_neg h0, if_neg (by omega : ¬ (p : Int) = 2), if_neg (by omega : ¬ (p : Int) = 2)]
    obtain ⟨r, hr, e⟩ := emod_cast (n := n) (by omega : 0 < p)
    have h1 : 1 ≤ r := by
      rcases Nat.eq_zero_or_pos r with z | z
      · rw [z] at e
        exact absurd e h0
      · exact z
    have h2 := (euler_at h h1 hr).1
    rw [half_cast p (by omega), pow_rest _ e, e]
    by_cases c : r ^ ((p - 1) / 2) % p = 1
    · rw [if_pos (h2.mp c), if_pos (by rw [c]; rfl)]
    · rw [if_neg (fun z => c (h2.mpr z)), if_neg (fun z => c (by omega))]
theorem sign_eq2 (n : Int) : restSign n 2 = lawSign n 2 := by
  unfold restSign lawSign
  rfl
theorem sign_mul {p : Nat} (hp : 3 ≤ p) (h : euler p = true) (hq : PrP p) (a b : Int) : restSign (a * b) p = restSign a p * restSign b p := by
  unfold restSign
  have hn : ¬ (p : Int) = 2 := by omega
  by_cases ha : a % p = 0
  · have hab : a * b % p = 0 := Int.emod_eq_zero_of_dvd (Int.dvd_mul_of_dvd_left (Int.dvd_of_emod_eq_zero ha))
    rw [if_pos ha, if_pos hab, Int.zero_mul]
  · by_cases hb : b % p = 0
    · have hab : a * b % p = 0 := Int.emod_eq_zero_of_dvd (Int.dvd_mul_of_dvd_right (Int.dvd_of_emod_eq_zero hb))
      rw [if_pos hb, if_pos hab, Int.mul_zero]
    · have hab : ¬ a * b % p = 0 := fun z => by
        rcases prime_mul hq (Int.dvd_of_emod_eq_zero z) with y | y
        · exact ha (Int.emod_eq_zero_of_dvd y)
        · exact hb (Int.emod_eq_zero_of_dvd y)
      rw [if_neg ha, if_neg hb, if_neg hab, if_neg hn, if_neg hn, if_neg hn, half_cast p (by omega)]
      obtain ⟨r, hr, er⟩ := emod_cast (n := a) (by omega : 0 < p)
      obtain ⟨t, ht, et⟩ := emod_cast (n := b) (by omega : 0 < p)
      have r1 : 1 ≤ r := by
        rcases Nat.eq_zero_or_pos r with z | z
        · rw [z] at er
          exact absurd er ha
        · exact z
      have t1 : 1 ≤ t := by
        rcases Nat.eq_zero_or_pos t with z | z
        · rw [z] at et
          exact absurd et hb
        · exact z
      have e1 := (euler_at h r1 hr).2
      have e2 := (euler_at h t1 ht).2
      have p1 := pow_rest ((p - 1) / 2) er
      have p2 := pow_rest ((p - 1) / 2) et
      have pm : (a * b) ^ ((p - 1) / 2) % p = ((a ^ ((p - 1) / 2) % p) * (b ^ ((p - 1) / 2) % p)) % p := by rw [Int.mul_pow, Int.mul_emod]
      have c1 : ((p - 1 : Nat) : Int) = (p : Int) - 1 := by omega
      have q1 : ((p : Int) - 1) * ((p : Int) - 1) % p = 1 := by
        have : ((p : Int) - 1) * ((p : Int) - 1) = 1 + p * (p - 2) := by
          have e3 : (p : Int) * (p - 2) = p * p - p * 2 := Int.mul_sub ..
          rw [e3, Int.sub_mul, Int.mul_sub]
          omega
        rw [this, Int.add_mul_emod_self_left]
        exact Int.emod_eq_of_lt (by omega) (by omega)
      have q2 : ((p : Int) - 1) % p = p - 1 := Int.emod_eq_of_lt (by omega) (by omega)
      have n1 : ¬ ((p : Int) - 1) = 1 := by omega
      rw [pm, p1, p2]
      rcases e1 with e1 | e1 <;> rcases e2 with e2 | e2 <;> rw [e1, e2]
      · have : ((1 : Nat) : Int) * ((1 : Nat) : Int) % p = 1 := Int.emod_eq_of_lt (by decide) (by show (1 : Int) < p; omega)
        rw [this]
        rfl
      · rw [c1, show ((1 : Nat) : Int) * ((p : Int) - 1) = p - 1 by omega, q2, if_neg n1]
        rfl
      · rw [c1, show ((p : Int) - 1) * ((1 : Nat) : Int) = p - 1 by omega, q2, if_neg n1]
        rfl
      · rw [c1, q1, if_neg n1]
        rfl
theorem sign_mul2 (a b : Int) : restSign (a * b) 2 = restSign a 2 * restSign b 2 := by
  have key : ∀ r : Fin 8, ∀ t : Fin 8, restSign ((r.val : Int) * (t.val : Int)) 2 = restSign r.val 2 * restSign t.val 2 := by decide +kernel
  have red : ∀ n : Int, restSign n 2 = restSign (n % 8) 2 := fun n => by
    unfold restSign
    have h1 : n % 8 % 2 = n % 2 := by omega
    have h2 : n % 8 % 8 = n % 8 := by omega
    rw [h1, h2]
    rfl
  have k2 : ∀ n : Int, ∃ r : _root_.Fin 8, n % 8 = (r.val : Int) := fun n => ⟨⟨(n % 8).toNat, by omega⟩, by show n % 8 = ((n % 8).toNat : Int); omega⟩
  obtain ⟨r, hr⟩ := k2 a
  obtain ⟨t, ht⟩ := k2 b
  rw [red (a * b), Int.mul_emod, ← red, red a, red b, hr, ht]
  exact key r t
end Sf

namespace Sf
open PySem PySem.Spec PyProof.Rows L2
/-! lists and tuples of ints as data -/
theorem lay_ints : ∀ ns : List Int, PyData.canLayAll0 (ns.map PyData.int) = true ∧ PyData.depthAll (ns.map PyData.int) = 0
  | [] => ⟨rfl, rfl⟩
  | n :: ns => by
    obtain ⟨h1, h2⟩ := lay_ints ns
    refine ⟨?_, ?_⟩
    · show (true && PyData.canLayAll0 (ns.map PyData.int)) = true
      rw [h1]
      rfl
    · show max 0 (PyData.depthAll (ns.map PyData.int)) = 0
      rw [h2]
      rfl
theorem shp_list (ns : List Int) : SeqAt.shaped (.list (ns.map PyData.int)) = true := by
  obtain ⟨h1, h2⟩ := lay_ints ns
  show (PyData.canLayAll0 (ns.map PyData.int) && decide (PyData.depthAll (ns.map PyData.int) + 1 ≤ 64)) = true
  rw [h1, h2]
  rfl
theorem shp_tup (ns : List Int) : SeqAt.shaped (.tuple (ns.map PyData.int)) = true := by
  obtain ⟨h1, h2⟩ := lay_ints ns
  show (PyData.canLayAll0 (ns.map PyData.int) && decide (PyData.depthAll (ns.map PyData.int) + 1 ≤ 64)) = true
  rw [h1, h2]
  rfl
theorem eqv_ints : ∀ a b : List Int, PyData.eqvAll (a.map PyData.int) (b.map PyData.int) = decide (a = b)
  | [], [] => rfl
  | [], _ :: _ => rfl
  | _ :: _, [] => rfl
  | x :: a, y :: b => by
    show ((x == y) && PyData.eqvAll (a.map PyData.int) (b.map PyData.int)) = _
    rw [eqv_ints a b, Bool.eq_iff_iff]
    simp only [Bool.and_eq_true, beq_iff_eq, decide_eq_true_eq, List.cons.injEq]
theorem dpAll_ints (K : PySem.W.Frag) (H : Hp) : ∀ ns : List Int, DpAll K H (ns.map V.int) (ns.map PyData.int)
  | [] => .nil
  | n :: ns => .cons (.int n) (dpAll_ints K H ns)
theorem dp_list {K : PySem.W.Frag} {H : Hp} {a : Addr} {ns : List Int} (h : SqL K H a (ns.map V.int)) : Dp K H (.ref a) (.list (ns.map PyData.int)) := .lst h (dpAll_ints K H ns)
theorem dp_tup {K : PySem.W.Frag} {H : Hp} {a : Addr} {ns : List Int} (h : SqT K H a (ns.map V.int)) : Dp K H (.ref a) (.tuple (ns.map PyData.int)) := .tup h (dpAll_ints K H ns)
/-! one factor more -/
def addF : List (Int × Nat) → Int → List (Int × Nat)
  | [], p => [(p, 1)]
  | q :: l, p => if q.1 = p then (q.1, q.2 + 1) :: l else q :: addF l p
def lookF : List (Int × Nat) → Int → Nat
  | [], _ => 0
  | q :: l, p => if q.1 = p then q.2 else lookF l p
theorem addF_prod : ∀ (l : List (Int × Nat)) (p : Int), prodF (addF l p) = prodF l * p
  | [], p => by
    show p ^ 1 * 1 = 1 * p
    rw [Int.mul_one, Int.one_mul, Int.pow_succ, Int.pow_zero, Int.one_mul]
  | q :: l, p => by
    unfold addF
    by_cases h : q.1 = p
    · rw [if_pos h]
      show q.1 ^ (q.2 + 1) * prodF l = q.1 ^ q.2 * prodF l * p
      rw [h, Int.pow_succ, Int.mul_assoc, Int.mul_assoc, Int.mul_comm p]
    · rw [if_neg h]
      show q.1 ^ q.2 * prodF (addF l p) = q.1 ^ q.2 * prodF l * p
      rw [addF_prod l p, Int.mul_assoc]
theorem addF_keys : ∀ (l : List (Int × Nat)) (p k : Int), k ∈ (addF l p).map (·.1) ↔ k ∈ l.map (·.1) ∨ k = p
  | [], p, k => by
    show k ∈ [p] ↔ k ∈ [] ∨ k = p
    simp
  | q :: l, p, k => by
    unfold addF
    by_cases h : q.1 = p
    · rw [if_pos h, List.map_cons, List.map_cons]
      simp only [List.mem_cons]
      constructor
      · exact .inl
      · rintro (z | z)
        · exact z
        · exact .inl (z.trans h.symm)
    · rw [if_neg h, List.map_cons, List.map_cons, List.mem_cons, List.mem_cons, addF_keys l p k]
      constructor
      · rintro (z | z | z)
        · exact .inl (.inl z)
        · exact .inl (.inr z)
        · exact .inr z
      · rintro ((z | z) | z)
        · exact .inl z
        · exact .inr (.inl z)
        · exact .inr (.inr z)
theorem addF_distinct : ∀ {l : List (Int × Nat)} {p : Int}, Distinct l → Distinct (addF l p)
  | [], p, _ => by
    unfold Distinct addF
    simp
  | q :: l, p, h => by
    unfold addF
    have h1 : q.1 ∉ l.map (·.1) ∧ (l.map (·.1)).Nodup := List.nodup_cons.mp h
    by_cases e : q.1 = p
    · rw [if_pos e]
      exact h
    · rw [if_neg e]
      show (q.1 :: (addF l p).map (·.1)).Nodup
      rw [List.nodup_cons, addF_keys]
      refine ⟨?_, addF_distinct (l := l) h1.2⟩
      rintro (z | z)
      · exact h1.1 z
      · exact e z
theorem addF_primes : ∀ {l : List (Int × Nat)} {p : Int}, Primes l → PrP p → Primes (addF l p)
  | [], p, _, hp => fun q hq => by
    have e : q = (p, 1) := List.mem_singleton.mp hq
    rw [e]
    exact ⟨hp, Nat.le_refl _⟩
  | r :: l, p, h, hp => fun q hq => by
    unfold addF at hq
    by_cases e : r.1 = p
    · rw [if_pos e] at hq
      rcases List.mem_cons.mp hq with z | z
      · rw [z]
        exact ⟨(h r List.mem_cons_self).1, Nat.le_add_left ..⟩
      · exact h q (List.mem_cons_of_mem _ z)
    · rw [if_neg e] at hq
      rcases List.mem_cons.mp hq with z | z
      · rw [z]
        exact h r List.mem_cons_self
      · exact addF_primes (l := l) (fun s hs => h s (List.mem_cons_of_mem _ hs)) hp q z
theorem addF_len : ∀ (l : List (Int × Nat)) (p : Int), (addF l p).length ≤ l.length + 1
  | [], p => Nat.le_refl _
  | q :: l, p => by
    unfold addF
    by_cases e : q.1 = p
    · rw [if_pos e]
      exact Nat.le_succ _
    · rw [if_neg e]
      exact Nat.succ_le_succ (addF_len l p)
theorem look_kvs : ∀ (l : List (Int × Nat)) (p : Int), (valV (kvsF l) (Sum.inl p : Key)).getD (.int 0) = .int (lookF l p)
  | [], p => rfl
  | q :: l, p => by
    show (valV (((Sum.inl q.1 : Key), V.int q.2) :: kvsF l) (Sum.inl p : Key)).getD (.int 0) = _
    unfold lookF
    by_cases e : q.1 = p
    · rw [if_pos e, valV_pos (by rw [e])]
      rfl
    · rw [if_neg e, valV_neg (fun z => e (Sum.inl.inj z))]
      exact look_kvs l p
theorem val_kvs : ∀ {l : List (Int × Nat)} {q : Int × Nat}, Distinct l → q ∈ l → valV (kvsF l) (Sum.inl q.1 : Key) = some (.int q.2)
  | r :: l, q, d, h => by
    have h1 : r.1 ∉ l.map (·.1) ∧ (l.map (·.1)).Nodup := List.nodup_cons.mp d
    show valV (((Sum.inl r.1 : Key), V.int r.2) :: kvsF l) (Sum.inl q.1 : Key) = _
    rcases List.mem_cons.mp h with z | z
    · rw [z, valV_pos rfl]
    · have e : ¬ r.1 = q.1 := fun y => h1.1 (by rw [y]; exact List.mem_map.mpr ⟨q, z, rfl⟩)
      rw [valV_neg (fun z => e (Sum.inl.inj z))]
      exact val_kvs (l := l) h1.2 z
theorem put_kvs : ∀ {l : List (Int × Nat)} {p : Int}, Distinct l → putK (kvsF l) (Sum.inl p : Key) (.int ((lookF l p : Int) + 1)) = kvsF (addF l p)
  | [], p, _ => rfl
  | q :: l, p, d => by
    have h1 : q.1 ∉ l.map (·.1) ∧ (l.map (·.1)).Nodup := List.nodup_cons.mp d
    have ih := put_kvs (l := l) (p := p) h1.2
    unfold addF lookF
    show putK (((Sum.inl q.1 : Key), V.int q.2) :: kvsF l) (Sum.inl p : Key) _ = _
    by_cases e : q.1 = p
    · rw [if_pos e, if_pos e]
      have hm : ∀ (m : List (Int × Nat)) (v : V), p ∉ m.map (·.1) → (kvsF m).map (fun kv => if kv.1 = (Sum.inl p : Key) then (kv.1, v) else kv) = kvsF m := by
        intro m v
        induction m with
        | nil => intro _; rfl
        | cons r m ih2 =>
          intro hr
          have hr2 : p ∉ r.1 :: m.map (·.1) := hr
          rw [List.mem_cons, not_or] at hr2
          show (if (Sum.inl r.1 : Key) = Sum.inl p then ((Sum.inl r.1 : Key), v) else ((Sum.inl r.1 : Key), V.int r.2)) :: (kvsF m).map _ = ((Sum.inl r.1 : Key), V.int r.2) :: kvsF m
          rw [if_neg (fun z => hr2.1 (Sum.inl.inj z).symm), ih2 hr2.2]
      unfold putK
      rw [List.any_cons, decide_eq_true (by rw [e]), Bool.true_or, if_pos rfl, List.map_cons, if_pos (by rw [e]), hm l _ (by rw [← e]; exact h1.1)]
      rfl
    · rw [if_neg e, if_neg e]
      unfold putK at ih ⊢
      have ne : ¬ (Sum.inl q.1 : Key) = Sum.inl p := fun z => e (Sum.inl.inj z)
      rw [List.any_cons, decide_eq_false ne, Bool.false_or]
      by_cases c : ((kvsF l).any fun kv => decide (kv.1 = (Sum.inl p : Key))) = true
      · rw [if_pos c] at ih ⊢
        rw [List.map_cons, if_neg ne, ih]
        rfl
      · rw [if_neg c] at ih ⊢
        rw [List.cons_append, ih]
        rfl
end Sf

namespace Sf
open PySem PySem.Spec PyProof.Rows L2
/-- all but the thing at p stays -/
def Keep (p : Addr) (H H' : Hp) : Prop := ∀ b o, H b = some o → b ≠ p → H' b = some o
theorem Keep.refl (p : Addr) (H : Hp) : Keep p H H := fun _ _ h _ => h
theorem Keep.trans {p : Addr} {H H1 H2 : Hp} (a : Keep p H H1) (b : Keep p H1 H2) : Keep p H H2 := fun c o h n => b c o (a c o h n) n
theorem Keep.same {p : Addr} {H H' : Hp} (s : Same H H') : Keep p H H' := fun c o h _ => s c o h
theorem Keep.upd {p : Addr} {H : Hp} {o : HO} : Keep p H (upd H p o) := fun c u h n => by rw [upd_ne n]; exact h
theorem Keep.new {p q : Addr} {H : Hp} {o : HO} (h : H q = none) : Keep p H (L2.upd H q o) := Keep.same (same_upd h)
/-- the sack stands at p, n draws made at most -/
def Sk (p : Addr) (n : Nat) (H : Hp) : Prop := ∃ xs, H p = some (.lst xs) ∧ SackO n xs
theorem SackO.mono {n m : Nat} {xs : List V} (h : SackO n xs) (l : n ≤ m) : SackO m xs := by
  obtain ⟨a, b, c, e, h1, h2, h3, h4, h5, h6⟩ := h
  exact ⟨a, b, c, e, h1, h2, h3, h4, h5, by omega⟩
theorem Sk.mono {p : Addr} {n m : Nat} {H : Hp} (h : Sk p n H) (l : n ≤ m) : Sk p m H := let ⟨xs, a, b⟩ := h; ⟨xs, a, b.mono l⟩
theorem Sk.same {p : Addr} {n : Nat} {H H' : Hp} (h : Sk p n H) (s : Same H H') : Sk p n H' := let ⟨xs, a, b⟩ := h; ⟨xs, s _ _ a, b⟩
theorem Sk.ne {p q : Addr} {n : Nat} {H : Hp} (h : Sk p n H) (hq : H q = none) : p ≠ q := let ⟨_, a, _⟩ := h; ne_of_none a hq
theorem Keep.free {p q : Addr} {n : Nat} {H H' : Hp} (k : Keep p H H') (s : Sk p n H') (h : H' q = none) : H q = none := by
  cases e : H q with
  | none => rfl
  | some o =>
    have n : q ≠ p := fun z => by
      obtain ⟨_, a, _⟩ := s
      rw [z, a] at h
      cases h
    rw [k q o e n] at h
    cases h
section
variable {P : Program} {w : World} {K : PySem.W.Frag} {mg : Str → Option Value} {base : Heap} {f : Addr} {fd : FuncData}
/-- a draw: the same promises in the words of Sk -/
theorem take_of {H : Hp} {p : Addr} {n : Nat} {m : Int} {Q : VK} (hs : Sk p n H) (hn : n ≤ 1000000) (h1 : 1 ≤ m) (h2 : m < 10 ^ 80) (q : ∀ (r : Int) (H' : Hp), 0 ≤ r → r < m → Keep p H H' → Sk p (n + 1) H' → (∀ b, H b = none → H' b = none) → Q (.int r) H') : TakeP [.ref p, .int m] H Q := by
  obtain ⟨xs, a, b⟩ := hs
  exact ⟨p, xs, n, m, rfl, a, b, hn, h1, h2, fun r ys r0 r1 hy => q r _ r0 r1 Keep.upd ⟨ys, upd_same, hy⟩ fun c hc => by rw [upd_ne (fun z => by rw [z, a] at hc; cases hc)]; exact hc⟩
theorem one_of_new {K : PySem.W.Frag} {H : Hp} {p b : Addr} {n : Nat} {items : List V} {Q : VK} (hs : Sk p n H) (hn : n ≤ 1000000) (hb : H b = none) (h1 : 1 ≤ items.length) (h2 : items.length ≤ 1000000)
    (q : ∀ (v : V) (H' : Hp), v ∈ items → Keep p H H' → Sk p (n + 1) H' → Q v H') : OneOfP K [.ref p, .ref b] (upd H b (.lst items)) Q := by
  obtain ⟨xs, a, o⟩ := hs
  have npb : p ≠ b := ne_of_none a hb
  refine ⟨p, b, xs, items, n, rfl, by rw [upd_ne npb]; exact a, o, hn, npb.symm, SqL.of upd_same, h1, h2, fun v ys hv hy => q v _ hv ?_ ⟨ys, upd_same, hy⟩⟩
  exact (Keep.new hb).trans Keep.upd
def primes02 : List Int := [2, 3, 5, 7, 11, 13, 2, 3, 101, 997, 31607]
def spMade : Sp := fun vs H Q _ => ∃ (p : Addr) (n : Nat), vs = [.ref p] ∧ Sk p n H ∧ n ≤ 900000 ∧ ∀ (l : List (Int × Nat)) (d t : Addr) (H' : Hp), Keep p H H' → Sk p (n + 20) H' → Distinct l → Primes l → prodF l ≤ 1000000000 → l.length ≤ 10 → d ≠ p → t ≠ p → H d = none →
  H' d = some (.dK (kvsF l)) → H' t = some (.tup [.int (prodF l), .ref d]) → Q (.ref t) H'
theorem prp02 : ∀ p ∈ primes02, PrP p ∧ p ≤ 31607 := by
  have chk : ∀ p : Int, ∀ d : Int, 2 ≤ p → 2 ≤ d → p < d * d → (∀ k ∈ (List.range d.toNat), 2 ≤ (k : Int) → p % (k : Int) ≠ 0) → PrP p := fun p d h1 h2 h3 h4 => prp_of_trial h1 h2 (fun k a b => by
    have e : ((k.toNat : Nat) : Int) = k := by omega
    have z := h4 k.toNat (by rw [List.mem_range]; omega) (by omega)
    rw [e] at z
    exact z) h3
  intro p hp
  have h2 : ∀ p ∈ primes02, 2 ≤ p ∧ p ≤ 31607 ∧ p < (180 : Int) * 180 := by decide
  have h3 : ∀ p ∈ primes02, ∃ d : Int, 2 ≤ d ∧ p < d * d ∧ (∀ k ∈ (List.range d.toNat), 2 ≤ (k : Int) → p % (k : Int) ≠ 0) := by
    intro p hp
    have cases : p = 2 ∨ p = 3 ∨ p = 5 ∨ p = 7 ∨ p = 11 ∨ p = 13 ∨ p = 101 ∨ p = 997 ∨ p = 31607 := by
      simp only [primes02, List.mem_cons, List.not_mem_nil, or_false] at hp
      omega
    rcases cases with e | e | e | e | e | e | e | e | e <;> subst e
    · exact ⟨2, by decide, by decide, by decide +kernel⟩
    · exact ⟨2, by decide, by decide, by decide +kernel⟩
    · exact ⟨3, by decide, by decide, by decide +kernel⟩
    · exact ⟨3, by decide, by decide, by decide +kernel⟩
    · exact ⟨4, by decide, by decide, by decide +kernel⟩
    · exact ⟨4, by decide, by decide, by decide +kernel⟩
    · exact ⟨11, by decide, by decide, by decide +kernel⟩
    · exact ⟨32, by decide, by decide, by decide +kernel⟩
    · exact ⟨180, by decide, by decide, by decide +kernel⟩
  obtain ⟨d, a, b, c⟩ := h3 p hp
  exact ⟨chk p d (h2 p hp).1 a b c, (h2 p hp).2.1⟩
theorem ok_made (F : FnD K "_law_made" "_law_made" s_L_made f fd) (T : Glob mg) (C_L_take : Cal P w K mg base 1 "_law_take" ["_law_sack_here", "_law_many"] spTake) (C_L_one_of : Cal P w K mg base 2 "_law_one_of" ["_law_sack_here", "_law_items"] (spOneOf K)) :
    FnOk P w K mg base CX0 3 f fd ["_law_sack_here"] spMade := by
  refine F.ok sc_L_made (fun vs H Q E h => ?_) (fun cdv A outer s H vs Q E hr h => ?_)
  · obtain ⟨p, n, rfl, _⟩ := h; rfl
  · obtain ⟨p, n, rfl, hs, hn, q⟩ := h
    have hu := hu_of hr
    refine ⟨_, PSs.nox (pss_cons (ps_par (i := 1) (j := 2) (by rfl) sc_L_made.nd rfl rfl (by decide) rfl rfl (pa_cons pe_int (pa_cons pe_dnewK pa_nil)) (by rfl))
      (pss_cons (ps_for PassesOwn.never rfl (pi_range1 (by rfl) T.m_range (pa_cons (pe_cal C_L_take (hr.mono (by decide)) (pa_cons (pv 0) (pa_cons pe_int pa_nil))) pa_nil)) (pg_name (i := 3) sc_L_made.nd rfl (Or.inl rfl)) (pss_cons (ps_set (i := 4) sc_L_made.nd rfl (Or.inl rfl) (pe_cal C_L_one_of (hr.mono (by decide)) (pa_cons (pv 0) (pa_cons (pe_lst (pa_cons pe_int (pa_cons pe_int (pa_cons pe_int (pa_cons pe_int (pa_cons pe_int (pa_cons pe_int (pa_cons pe_int (pa_cons pe_int (pa_cons pe_int (pa_cons pe_int (pa_cons pe_int pa_nil)))))))))))) pa_nil))))
      (pss_one (ps_if (pt_cmp (pc_le (pe_op op_mulW (pv 1) (pv 4)) (pe_op op_powW pe_int pe_int))) (pss_one (ps_asg (pe_tup (pa_cons (pe_op op_mulW (pv 1) (pv 4)) (pa_cons (pe_op op_add (pe_dget2 hu (pv 2) (pv 4) pe_int ⟨rfl, rfl, rfl, rfl⟩) pe_int) pa_nil))) (pg_tup (by rfl) (pgs_cons (pg_name (i := 1) sc_L_made.nd rfl (Or.inl rfl)) (pgs_cons (pg_sub (pv 2) (pv 4) (set_dict hu)) pgs_nil))))) pss_nil))))
      (pss_one (ps_ret (pe_tup (pa_cons (pv 1) (pa_cons (pv 2) pa_nil))))))), ?_⟩
    intro d hd
    have npd : p ≠ d := hs.ne hd
    refine ⟨_, _, rfl, _, rfl, take_of (hs.same (same_upd hd)) (by omega) (by decide) (by decide +kernel) fun T0 H1 t0 t1 k1 s1 _ => ⟨T0, rfl, by omega, by omega, ?_⟩⟩
    have kn : ∀ {H' : Hp} {u : HO}, Keep p H H' → Keep p H (upd H' d u) := fun {H' u} k b o e nb => by
      rw [upd_ne (ne_of_none e hd)]
      exact k b o e nb
    have hd1 : H1 d = some (.dK []) := k1 d _ upd_same npd.symm
    refine ⟨fun i c σ H' => ∃ (l : List (Int × Nat)) (v3 v4 : Option V), σ = [some (.ref p), some (.int (prodF l)), some (.ref d), v3, v4] ∧ i + c = T0.toNat ∧ Keep p H H' ∧ Sk p (n + 1 + i) H' ∧ Distinct l ∧ Primes l ∧ prodF l ≤ 1000000000 ∧ l.length ≤ i ∧ H' d = some (.dK (kvsF l)),
      ⟨T0.toNat, [], none, none, rfl, by omega, (Keep.new hd).trans k1, s1, List.nodup_nil, (fun _ h => by cases h), by decide, by decide, hd1⟩, ?_⟩
    rintro i c σ H' ⟨l, v3, v4, rfl, hc, kk, ss, hD, hP, hN, hL, hdd⟩
    by_cases hi : i < T0.toNat
    · refine .inr ⟨hi, _, fun _ _ z => z, fun x H2 hy => ?_⟩
      obtain ⟨rfl, rfl⟩ := hy
      -- _law_prime = _law_one_of(..)
      refine ⟨_, rfl, (by show 11 ≤ sizeLine; decide), fun b hb => one_of_new (n := n + 1 + i) ss (by omega) hb (by decide) (by decide) fun v H3 hv k3 s3 => ?_⟩
      obtain ⟨pr, hpr, rfl⟩ : ∃ pr, pr ∈ primes02 ∧ v = .int pr := by
        obtain ⟨pr, h1, h2⟩ := List.mem_map.mp (show v ∈ primes02.map V.int from hv)
        exact ⟨pr, h1, h2.symm⟩
      obtain ⟨hp1, hp2⟩ := prp02 pr hpr
      have p2 := hp1.1
      have np := prodF_pos hP
      have k4 : Keep p H H3 := kk.trans k3
      have hd3 : H3 d = some (.dK (kvsF l)) := k3 d _ hdd npd.symm
      refine ⟨_, rfl, _, rfl, _, _, rfl, rfl, CMulW.of (lt3000s (by omega) (by omega)) (lt3000s (by omega) (by omega)), 10, 9, rfl, rfl, ⟨by decide, by decide +kernel⟩, _, _, rfl, rfl, _, rfl, ifd (fun h => ?_) (fun h => ?_)⟩
      · have hle : prodF l * pr ≤ 1000000000 := by
          have e : (10 : Int) ^ (9 : Int).toNat = 1000000000 := by decide +kernel
          rw [e] at h
          exact h
        refine ⟨_, rfl, _, rfl, _, _, rfl, rfl, CMulW.of (lt3000s (by omega) (by omega)) (lt3000s (by omega) (by omega)), _, rfl, d, rfl, .inl ⟨_, .inl hd3⟩, _, rfl, _, DGet.k (k := Sum.inl pr) hd3, _, _, look_kvs l pr, rfl, (by show 2 ≤ sizeLine; decide), fun t ht => ?_⟩
        have ntd : d ≠ t := ne_of_none hd3 ht
        have ntp : p ≠ t := s3.ne ht
        refine ⟨t, _, rfl, .inl (.inl upd_same), rfl, _, _, rfl, _, _, rfl, _, rfl, _, rfl, d, _, rfl, DPut.k (k := Sum.inl pr) (by rw [upd_ne ntd]; exact hd3) (by rw [kvsF_len]; exact small1000 (by omega)), rfl, ?_⟩
        refine ⟨c - 1, by omega, addF l pr, some (.int (0 + (i : Int))), some (.int pr), ?_, by omega, kn (k4.trans (Keep.new ht)), ?_, addF_distinct hD, addF_primes hP hp1, ?_, Nat.le_trans (addF_len l pr) (by omega), ?_⟩
        · rw [addF_prod]
          rfl
        · obtain ⟨xs, a, b⟩ := s3
          exact ⟨xs, by rw [upd_ne npd, upd_ne ntp]; exact a, b.mono (by omega)⟩
        · rw [addF_prod]
          exact hle
        · rw [upd_same, put_kvs hD]
      · exact ⟨c - 1, by omega, l, some (.int (0 + (i : Int))), some (.int pr), rfl, by omega, k4, s3.mono (by omega), hD, hP, hN, by omega, hd3⟩
    · refine .inl ⟨(by show T0.toNat ≤ i; omega), ?_⟩
      refine ⟨_, rfl, _, rfl, (by show 2 ≤ sizeLine; decide), fun t ht => ?_⟩
      have ntd : d ≠ t := ne_of_none hdd ht
      have ntp : p ≠ t := ss.ne ht
      refine q l d t _ (kk.trans (Keep.new ht)) ?_ hD hP hN (by omega) npd.symm ntp.symm hd (by rw [upd_ne ntd]; exact hdd) upd_same
      obtain ⟨xs, a, b⟩ := ss
      exact ⟨xs, by rw [upd_ne ntp]; exact a, b.mono (by omega)⟩
end
end Sf

namespace Sf
open PySem PySem.Spec PyProof.Rows L2
theorem absI_pos {n : Int} (h : 0 < n) : absI n = n := by unfold absI; rw [if_neg (by omega)]
theorem absI_neg {n : Int} (h : n < 0) : absI n = -n := if_pos h
theorem kvs_keys (l : List (Int × Nat)) : (kvsF l).map (fun kv => kV kv.1) = (l.map (·.1)).map V.int := by
  unfold kvsF
  rw [List.map_map, List.map_map]
  rfl
theorem kvs_inl (l : List (Int × Nat)) : (kvsF l).map (·.1) = (l.map (·.1)).map Sum.inl := by
  unfold kvsF
  rw [List.map_map, List.map_map]
  rfl
theorem FactOf.distinct {n : Int} {l : List (Int × Nat)} (h : FactOf n l) : Distinct l := distinct_of_sorted h.2.1
theorem fact_perm {n : Int} {l m : List (Int × Nat)} (h : FactOf n l) (hD : Distinct m) (hP : Primes m) (e : prodF m = n) : l.Perm m := fact_unique h.2.2 h.distinct hP hD (h.1.trans e.symm)
theorem dict_same {l m : List (Int × Nat)} (h : l.Perm m) (dm : Distinct m) : (kvsF l).length = (kvsF m).length ∧ ∀ p ∈ kvsF l, valV (kvsF m) p.1 = some p.2 ∧ flatB p.2 = true := by
  refine ⟨by rw [kvsF_len, kvsF_len]; exact h.length_eq, fun p hp => ?_⟩
  obtain ⟨q, hq, e⟩ := List.mem_map.mp hp
  rw [← e]
  exact ⟨val_kvs dm (h.mem_iff.mp hq), rfl⟩
theorem sorted_keys {n : Int} {l m : List (Int × Nat)} (h : FactOf n l) (hp : l.Perm m) {ys : List Int} (hy : ys.Perm (m.map (·.1))) (hs : ys.Pairwise (· ≤ ·)) : l.map (·.1) = ys := by
  refine List.Perm.eq_of_pairwise (le := fun a b : Int => a ≤ b) (fun a b _ _ x y => Int.le_antisymm x y) ?_ hs ((hp.map _).trans hy.symm)
  rw [List.pairwise_map]
  exact h.2.1.imp fun z => Int.le_of_lt z
section
variable {P : Program} {w : World} {K : PySem.W.Frag} {mg : Str → Option Value} {base : Heap} {f : Addr} {fd : FuncData}
structure GoodP (a : Nat) (vs : List V) (H : Hp) (Q : VK) : Prop where
  ex : ∃ (p : Addr) (n : Nat), vs = [.ref p] ∧ Sk p n H ∧ n ≤ 800000 ∧ ∀ H', Keep p H H' → Sk p (n + a) H' → Q (.bl true) H'
def spGood (a : Nat) : Sp := fun vs H Q _ => GoodP a vs H Q
set_option maxHeartbeats 16000000 in
theorem ok_number_right (F : FnD K "_law_number_right" "_law_number_right" s_L_number_right f fd) (T : Glob mg) (C_L_take : Cal P w K mg base 1 "_law_take" ["_law_sack_here", "_law_many"] spTake) (C_L_made : Cal P w K mg base 3 "_law_made" ["_law_sack_here"] spMade)
    (C_P_factors : Cal P w K mg base 3 "factors" ["number"] spFactors) (C_P_square_free : Cal P w K mg base 4 "square_free" ["number"] spSquareFree) : FnOk P w K mg base CX0 5 f fd ["_law_sack_here"] (spGood 30) := by
  refine F.ok sc_L_number_right (fun vs H Q E h => ?_) (fun cdv A outer s H vs Q E hr h => ?_)
  · obtain ⟨p, n, rfl, _⟩ := h.ex; rfl
  · obtain ⟨p, n, rfl, hs, hn, q⟩ := h.ex
    have hu := hu_of hr
    refine ⟨_, PSs.nox (pss_cons (ps_asg (pe_cal C_L_made (hr.mono (by decide)) (pa_cons (pv 0) pa_nil)) (pg_tup (by rfl) (pgs_cons (pg_name (i := 1) sc_L_number_right.nd rfl (Or.inl rfl)) (pgs_cons (pg_name (i := 2) sc_L_number_right.nd rfl (Or.inl rfl)) pgs_nil))))
      (Evl.pss_cut (ps_set (i := 3) sc_L_number_right.nd rfl (Or.inl rfl) (pe_ifExp (pt_cmp (pc_eqI (pe_cal C_L_take (hr.mono (by decide)) (pa_cons (pv 0) (pa_cons pe_int pa_nil))) pe_int)) (pv 1) (pe_op op_sub pe_int (pv 1))))
      (pss_cons (ps_if (PW.pt (pw_or (pt_cmpR (op_ne_dictA hr.units0) (pe_cal C_P_factors (hr.mono (by decide)) (pa_cons (pv 3) pa_nil)) (pv 2) (nomark _)) (pw_or1 (pt_cmpR (op_neD hr.units) (pe_callTy (call_listD rfl) (by rfl) T.m_list (by decide +kernel) (pa_cons (pe_cal C_P_factors (hr.mono (by decide)) (pa_cons (pv 3) pa_nil)) pa_nil)) (pe_callB (call_sortedDI rfl) (by rfl) T.m_sorted (by decide +kernel) (pa_cons (pv 2) pa_nil)) (nomark _))))) (pss_one (ps_ret pe_bl)) pss_nil)
      (pss_cons (ps_set (i := 4) sc_L_number_right.nd rfl (Or.inl rfl) (pe_cal C_P_square_free (hr.mono (by decide)) (pa_cons (pv 3) pa_nil)))
      (pss_cons (ps_if (PW.pt (pw_or (pt_cmp (pc_neI (pe_op op_modN (pv 3) (pv 4)) pe_int)) (pw_or1 (pt_cmpR op_ne (pe_cmp (pc_gt (pv 4) pe_int) rfl) (pe_cmp (pc_gt (pv 3) pe_int) rfl) (nomark _))))) (pss_one (ps_ret pe_bl)) pss_nil)
      (pss_cons (ps_set (i := 5) sc_L_number_right.nd rfl (Or.inl rfl) pe_int)
      (pss_cons (ps_lock (ps_for PassesOwn.never rfl (pi_keys (pv 2)) (pg_name (i := 6) sc_L_number_right.nd rfl (Or.inl rfl)) (pss_cons (ps_if (pt_cmp (pc_eqI (pe_op op_mod (pv 4) (pe_op op_mulW (pv 6) (pv 6))) pe_int)) (pss_one (ps_ret pe_bl)) pss_nil)
      (pss_one (ps_for PassesOwn.never rfl (pi_range1 (by rfl) T.m_range (pa_cons (pe_op op_fdivW (pe_dget hu (pv 2) (pv 6) (fun _ _ => rfl)) pe_int) pa_nil)) (pg_name (i := 7) sc_L_number_right.nd rfl (Or.inl rfl)) (pss_one (ps_set (i := 5) sc_L_number_right.nd rfl (Or.inl rfl) (pe_op op_mulW (pv 5) (pv 6)))))))))
      (pss_one (ps_ret (pe_and (pe_cmp (pc_eqI (pe_op op_mulW (pe_op op_mulW (pv 4) (pv 5)) (pv 5)) (pv 3)) rfl) (pe_one (pe_cmp (pc_eqI (pe_cal C_P_square_free (hr.mono (by decide)) (pa_cons (pv 4) pa_nil)) (pv 4)) rfl)))))))))))), ?_⟩
    refine ⟨_, rfl, p, n, rfl, hs, by omega, fun l d t H1 k1 s1 hD hP hN hL ndp ntp hdn hd ht => ⟨t, _, rfl, .inl (.inl ht), rfl, _, _, rfl, _, _, rfl, rfl, ?_⟩⟩
    have hpos := prodF_pos hP
    refine ⟨fun σ' H' => ∃ M : Int, σ' = [some (.ref p), some (.int (prodF l)), some (.ref d), some (.int M), none, none, none, none] ∧ absI M = prodF l ∧ M ≠ 0 ∧ Keep p H1 H' ∧ Sk p (n + 21) H', ?_, ?_⟩
    · refine ⟨_, rfl, take_of s1 (by omega) (by decide) (by decide +kernel) fun r H2 r0 r1 k2 s2 fr2 => ⟨_, _, rfl, rfl, _, rfl, ifd (fun h => ?_) (fun h => ?_)⟩⟩
      · exact ⟨_, rfl, prodF l, rfl, absI_pos (by omega), by omega, k2, s2⟩
      · exact ⟨_, rfl, _, _, rfl, rfl, 0 - prodF l, rfl, (by rw [absI_neg (by omega)]; omega), by omega, k2, s2⟩
    · rintro σ' H2 ⟨M, rfl, hM, hM0, k2, s2⟩
      have hd2 : H2 d = some (.dK (kvsF l)) := k2 d _ hd ndp
      have M1 : -1000000000 ≤ M := by unfold absI at hM; split at hM <;> omega
      have M2 : M ≤ 1000000000 := by unfold absI at hM; split at hM <;> omega
      refine ⟨_, rfl, M, rfl, hM0, M1, M2, fun l2 d2 H3 hf2 e3 hd2n hd3 => ?_⟩
      rw [hM] at hf2
      have hp2 := fact_perm hf2 hD hP rfl
      have hdd3 := e3 _ _ hd2
      refine ⟨_, rfl, d2, d, _, _, rfl, rfl, hd3, hdd3, (dict_same hp2 hD).1, (dict_same hp2 hD).2, _, rfl, ?_⟩
      refine ⟨_, rfl, M, rfl, hM0, M1, M2, fun l3 d3 H4 hf3 e4 hd3n hd4 => ⟨d3, _, rfl, .inl hd4, fun p1 hp1 => ?_⟩⟩
      rw [hM] at hf3
      have hp3 := fact_perm hf3 hD hP rfl
      have hdd4 := e4 _ _ hdd3
      have n1 : d ≠ p1 := ne_of_none hdd4 hp1
      refine ⟨_, rfl, d, _, l.map (·.1), rfl, .inl (by rw [upd_ne n1]; exact hdd4), kvs_inl l, by rw [List.length_map]; omega, fun ys p2 hy hys hp2n => ?_⟩
      have n2 : p1 ≠ p2 := ne_of_none (H := upd H4 p1 _) upd_same hp2n
      have ekeys := sorted_keys hf3 hp3 hy hys
      have hL1 : SqL K (upd (upd H4 p1 (.lst ((kvsF l3).map fun kv => kV kv.1))) p2 (.lst (ys.map V.int))) p1 ((l3.map (·.1)).map V.int) := SqL.of (by rw [upd_ne n2, upd_same, kvs_keys])
      refine ⟨_, _, dp_list hL1, dp_list (SqL.of upd_same), shp_list _, shp_list _, _, rfl, ?_⟩
      rw [show PyData.eqv (.list ((l3.map (·.1)).map PyData.int)) (.list (ys.map PyData.int)) = true by
        show PyData.eqvAll _ _ = true
        rw [eqv_ints, ekeys, decide_eq_true rfl]]
      have e5 : Same H2 (upd (upd H4 p1 (.lst ((kvsF l3).map fun kv => kV kv.1))) p2 (.lst (ys.map V.int))) := (e3.trans e4).trans ((same_upd hp1).trans (same_upd hp2n))
      generalize (upd (upd H4 p1 (.lst ((kvsF l3).map fun kv => kV kv.1))) p2 (.lst (ys.map V.int))) = H5 at e5
      -- _law_less = square_free(..)
      refine ⟨_, rfl, M, rfl, hM0, M1, M2, fun l4 H6 hf4 e6 => ?_⟩
      rw [hM] at hf4
      have hp4 := fact_perm hf4 hD hP rfl
      rw [oddF_perm hp4]
      obtain ⟨ob1, ob2⟩ := oddF_bound hP
      have hor := odd_root l
      have e7 := e5.trans e6
      have hd6 := e7 _ _ hd2
      have s6 := s2.same e7
      obtain ⟨L, hLe, hLs, hLb, hL0⟩ : ∃ L : Int, (if 0 < M then oddF l else -oddF l) = L ∧ (0 < L ↔ 0 < M) ∧ absI L = oddF l ∧ L ≠ 0 := by
        refine ⟨_, rfl, ?_, ?_, ?_⟩
        · split <;> omega
        · split
          · exact absI_pos (by omega)
          · rw [absI_neg (by omega)]; omega
        · split <;> omega
      rw [hLe]
      have hML : M = L * (rootF l * rootF l) := by
        rw [Int.mul_assoc] at hor
        by_cases c : 0 < M
        · rw [if_pos c] at hLe
          rw [absI_pos c] at hM
          rw [← hLe, hor, hM]
        · rw [if_neg c] at hLe
          rw [absI_neg (by omega)] at hM
          rw [← hLe, Int.neg_mul, hor, ← hM]
          omega
      have hfm : M.fmod L = 0 := by rw [hML]; exact Int.mul_fmod_right ..
      refine ⟨_, rfl, _, rfl, M, L, rfl, rfl, hL0, _, _, rfl, rfl, _, rfl, ifn (fun z => absurd hfm z) (fun _ => ?_)⟩
      refine ⟨_, rfl, _, _, rfl, rfl, _, rfl, _, _, rfl, rfl, rfl, _, rfl, ?_⟩
      rw [show decide (V.bl (decide (0 < L)) = V.bl (decide (0 < M))) = true by rw [decide_eq_true_eq]; congr 1; exact decide_eq_decide.mpr hLs]
      -- _law_root = 1; the loop over the dict
      refine ⟨d, _, hd6, True.intro, fun od => ⟨_, rfl, d, od, rfl, .inl ⟨_, upd_same, ?_⟩⟩⟩
      refine ⟨fun i c σ H' => ∃ v6 v7, σ = [some (.ref p), some (.int (prodF l)), some (.ref d), some (.int M), some (.int L), some (.int (rootF (l.take i))), v6, v7] ∧ i + c = l.length ∧ Keep p (upd H6 d (.frz od (.dK (kvsF l)))) H' ∧ Sk p (n + 21) H', ⟨l.length, none, none, rfl, by omega, Keep.refl _ _, ?_⟩, ?_⟩
      · obtain ⟨xs, a, b⟩ := s6
        exact ⟨xs, by rw [upd_ne ndp.symm]; exact a, b⟩
      rintro i c σ H' ⟨v6, v7, rfl, hc, kk, ss⟩
      have hdf : H' d = some (.frz od (.dK (kvsF l))) := kk _ _ upd_same ndp
      by_cases hi : i < l.length
      · refine .inr ⟨⟨hdf, by rw [kvsF_len]; exact hi⟩, _, fun _ _ z => z, fun x H7 hy => ?_⟩
        obtain ⟨rfl, k, v, e1, rfl⟩ := hy
        have ek : ((Sum.inl l[i].1 : Key), V.int l[i].2) = (k, v) := by
          unfold kvsF at e1
          rw [List.getElem?_map, List.getElem?_eq_getElem hi] at e1
          exact Option.some.inj e1
        cases ek
        have hq := List.getElem_mem hi
        obtain ⟨hp1, he1⟩ := hP _ hq
        have hb1 := prodF_mem hP _ hq
        have hp12 := hp1.1
        have pb : (l[i].1).natAbs < 2 ^ 3000 := lt3000s (by omega) (by omega)
        have ppos : 0 < l[i].1 * l[i].1 := Int.mul_pos (by omega) (by omega)
        refine ⟨_, rfl, _, rfl, _, rfl, _, _, rfl, rfl, CMulW.of pb pb, _, _, rfl, rfl, ppos, _, _, rfl, rfl, _, rfl, ifd (fun h => ?_) (fun _ => ?_)⟩
        · exfalso
          refine sq_not_dvd hP hD hq ?_
          have h2 : l[i].1 * l[i].1 ∣ L := Int.dvd_of_emod_eq_zero h
          rw [← hLb]
          unfold absI
          split
          · exact Int.dvd_neg.mpr h2
          · exact h2
        · have hv := val_kvs hD hq
          refine ⟨_, rfl, _, rfl, d, _, rfl, .inl ⟨_, Sum.inl l[i].1, .inr ⟨od, hdf⟩, rfl, hv.symm⟩, _, _, rfl, rfl, CDivW.of (by decide) (by decide +kernel), ((l[i].2 : Int) / 2), rfl, ?_, ?_, ?_⟩
          · omega
          · have : l[i].2 < 2 ^ 31 := by
              have h1 := prodF_mem2 hP _ hq
              omega
            omega
          · refine ⟨fun j c2 σ2 H8 => ∃ v7, σ2 = [some (.ref p), some (.int (prodF l)), some (.ref d), some (.int M), some (.int L), some (.int (rootF (l.take i) * l[i].1 ^ j)), some (.int l[i].1), v7] ∧ j + c2 = l[i].2 / 2 ∧ H8 = H7, ⟨l[i].2 / 2, v7, ?_, by omega, rfl⟩, ?_⟩
            · rw [Int.pow_zero, Int.mul_one]
              rfl
            rintro j c2 σ2 _ ⟨v8, rfl, hc2, rfl⟩
            by_cases hj : j < l[i].2 / 2
            · refine .inr ⟨(by show j < ((l[i].2 : Int) / 2).toNat; omega), _, fun _ _ z => z, fun x H9 hy => ?_⟩
              obtain ⟨rfl, rfl⟩ := hy
              refine ⟨_, rfl, _, rfl, _, _, rfl, rfl, ?_, ?_⟩
              · refine CMulW.of (lt3000s ?_ ?_) pb
                · have := rootF_take_pos hP i j
                  omega
                · have := rootF_take_le hP hi hj
                  omega
              · refine ⟨c2 - 1, by omega, some (.int (0 + (j : Int))), ?_, by omega, rfl⟩
                rw [Int.pow_succ, ← Int.mul_assoc]
                rfl
            · refine .inl ⟨(by show ((l[i].2 : Int) / 2).toNat ≤ j; omega), ?_⟩
              have ej : j = l[i].2 / 2 := by omega
              refine ⟨c - 1, by omega, some (.int l[i].1), v8, ?_, by omega, kk, ss⟩
              rw [List.take_add_one, List.getElem?_eq_getElem hi, rootF_append, ej]
              show _ = [_, _, _, _, _, some (V.int (rootF (l.take i) * (l[i].1 ^ (l[i].2 / 2) * 1))), _, _]
              rw [Int.mul_one]
      · refine .inl ⟨⟨hdf, by rw [kvsF_len]; omega⟩, hdf, ?_⟩
        have ei : l.take i = l := List.take_of_length_le (by omega)
        rw [ei]
        have hrp := rootF_bound hP
        have hLabs : -1000000000 ≤ L ∧ L ≤ 1000000000 := by unfold absI at hLb; split at hLb <;> omega
        have hr0 : (rootF l).natAbs < 2 ^ 3000 := lt3000s (by omega) (by omega)
        have hLR : -1000000000000000000 ≤ L * rootF l ∧ L * rootF l ≤ 1000000000000000000 := by
          have a1 : L * rootF l ≤ 1000000000 * rootF l := Int.mul_le_mul_of_nonneg_right hLabs.2 (by omega)
          have a2 : -1000000000 * rootF l ≤ L * rootF l := Int.mul_le_mul_of_nonneg_right hLabs.1 (by omega)
          omega
        refine ⟨_, rfl, _, rfl, _, _, rfl, rfl, CMulW.of (lt3000s (by omega) (by omega)) hr0, _, rfl, _, _, rfl, rfl, CMulW.of (lt3000s (by omega) (by omega)) hr0, _, rfl, _, _, rfl, rfl, _, rfl, ifd (fun _ => ?_) (fun z => absurd (by rw [hML, Int.mul_assoc]) z)⟩
        refine ⟨_, rfl, L, rfl, hL0, hLabs.1, hLabs.2, fun l5 H8 hf5 e8 => ⟨_, rfl, _, _, rfl, rfl, ?_⟩⟩
        have hp5 : l5.Perm (oddL l) := fact_perm (by rw [← hLb]; exact hf5) (oddL_distinct hD) (oddL_primes hP) (oddL_prod l).1
        have hfin : (if 0 < L then oddF l5 else -oddF l5) = L := by
          rw [oddF_perm hp5, (oddL_prod l).2]
          by_cases c : 0 < L
          · rw [if_pos c, ← hLb, absI_pos c]
          · rw [if_neg c, ← hLb, absI_neg (by omega)]
            omega
        rw [hfin]
        show Q (V.bl (decide (L = L))) H8
        rw [decide_eq_true rfl]
        refine q H8 (fun b o e nb => ?_) ?_
        · have n1 : b ≠ d := ne_of_none e hdn
          have x1 := e7 _ _ (k2 _ _ (k1 b o e nb) nb)
          have x2 := kk b o (by rw [upd_ne n1]; exact x1) nb
          exact e8 _ _ (by rw [upd_ne n1]; exact x2)
        · obtain ⟨xs, a, b⟩ := ss
          exact ⟨xs, e8 _ _ (by rw [upd_ne ndp.symm]; exact a), b.mono (by omega)⟩
end
end Sf

namespace Sf
open PySem PySem.Spec PyProof.Rows L2
def primes12 : List Int := [2, 3, 5, 7, 11, 13, 17, 19, 23, 97, 191, 997]
def odds10 : List Int := [3, 5, 7, 11, 13, 17, 19, 23, 29, 31]
/-- no divisor from lo on, 2 ^ k of them -/
def noDivB (n lo : Nat) : Nat → Bool
  | 0 => n % lo != 0
  | k + 1 => noDivB n lo k && noDivB n (lo + 2 ^ k) k
theorem noDivB_ok {n : Nat} : ∀ {k lo : Nat}, noDivB n lo k = true → ∀ j, lo ≤ j → j < lo + 2 ^ k → n % j ≠ 0
  | 0, lo, h, j, a, b => by
    have e : j = lo := by
      rw [Nat.pow_zero] at b
      omega
    rw [e]
    exact bne_iff_ne.mp h
  | k + 1, lo, h, j, a, b => by
    have h2 : (noDivB n lo k && noDivB n (lo + 2 ^ k) k) = true := h
    rw [Bool.and_eq_true] at h2
    rw [Nat.pow_succ] at b
    by_cases c : j < lo + 2 ^ k
    · exact noDivB_ok h2.1 j a c
    · exact noDivB_ok h2.2 j (by omega) (by omega)
theorem prp_small {n : Nat} (h2 : 2 ≤ n) (d : Nat) (hd : 2 ≤ d) (hn : n < d * d) (h : ∀ j, 2 ≤ j → j < d → n % j ≠ 0) : PrP n := by
  refine prp_of_trial (d := d) (by omega) (by omega) (fun k a b z => ?_) (by exact_mod_cast hn)
  have e : ((k.toNat : Nat) : Int) = k := by omega
  rw [← e] at z
  have z2 : ((n % k.toNat : Nat) : Int) = 0 := by
    rw [← z]
    push_cast
    rfl
  exact h k.toNat (by omega) (by omega) (by omega)
theorem prp_big {n : Nat} (k : Nat) (h2 : 2 ^ k + 2 ≤ n) (hn : n < (2 ^ k + 2) * (2 ^ k + 2)) (h : noDivB n 2 k = true) : PrP n :=
  prp_small (by have : 0 < 2 ^ k := Nat.two_pow_pos k; omega) (2 ^ k + 2) (by have : 0 < 2 ^ k := Nat.two_pow_pos k; omega) hn fun j a b => noDivB_ok h j a (by omega)
theorem prp_dec {n : Nat} (d : Nat) (h : (decide (2 ≤ n) && decide (2 ≤ d) && decide (n < d * d) && (List.range d).all fun j => decide (j < 2) || n % j != 0) = true) : PrP n := by
  simp only [Bool.and_eq_true, decide_eq_true_eq, List.all_eq_true, Bool.or_eq_true, bne_iff_ne] at h
  obtain ⟨⟨⟨a, b⟩, c⟩, e⟩ := h
  refine prp_small a d b c fun j x y => ?_
  rcases e j (List.mem_range.mpr y) with z | z
  · omega
  · exact z
structure Tab (p : Int) : Prop where
  prm : PrP p
  le : p ≤ 997
  law : ∀ n, restSign n p = lawSign n p
  mul : ∀ a b, restSign (a * b) p = restSign a p * restSign b p
theorem tab_of {p : Nat} (d : Nat) (h3 : 3 ≤ p) (hl : p ≤ 997) (h : (decide (2 ≤ p) && decide (2 ≤ d) && decide (p < d * d) && (List.range d).all fun j => decide (j < 2) || p % j != 0) = true) (he : euler p = true) : Tab p :=
  ⟨prp_dec d h, by omega, sign_eq h3 he, sign_mul h3 he (prp_dec d h)⟩
theorem tab12 : ∀ p ∈ primes12, Tab p := by
  intro p hp
  have cases : p = 2 ∨ p = 3 ∨ p = 5 ∨ p = 7 ∨ p = 11 ∨ p = 13 ∨ p = 17 ∨ p = 19 ∨ p = 23 ∨ p = 97 ∨ p = 191 ∨ p = 997 := by
    simp only [primes12, List.mem_cons, List.not_mem_nil, or_false] at hp
    exact hp
  rcases cases with e | e | e | e | e | e | e | e | e | e | e | e <;> subst e
  · exact ⟨prp_dec (n := 2) 2 (by decide +kernel), by decide, sign_eq2, sign_mul2⟩
  · exact tab_of (p := 3) 2 (by decide) (by decide) (by decide +kernel) (by decide +kernel)
  · exact tab_of (p := 5) 3 (by decide) (by decide) (by decide +kernel) (by decide +kernel)
  · exact tab_of (p := 7) 3 (by decide) (by decide) (by decide +kernel) (by decide +kernel)
  · exact tab_of (p := 11) 4 (by decide) (by decide) (by decide +kernel) (by decide +kernel)
  · exact tab_of (p := 13) 4 (by decide) (by decide) (by decide +kernel) (by decide +kernel)
  · exact tab_of (p := 17) 5 (by decide) (by decide) (by decide +kernel) (by decide +kernel)
  · exact tab_of (p := 19) 5 (by decide) (by decide) (by decide +kernel) (by decide +kernel)
  · exact tab_of (p := 23) 5 (by decide) (by decide) (by decide +kernel) (by decide +kernel)
  · exact tab_of (p := 97) 10 (by decide) (by decide) (by decide +kernel) (by decide +kernel)
  · exact tab_of (p := 191) 14 (by decide) (by decide) (by decide +kernel) (by decide +kernel)
  · exact tab_of (p := 997) 32 (by decide) (by decide) (by decide +kernel) (by decide +kernel)
theorem odd10_ok : ∀ q ∈ odds10, PrP q ∧ q ≤ 31 := by
  intro q hq
  have cases : q = 3 ∨ q = 5 ∨ q = 7 ∨ q = 11 ∨ q = 13 ∨ q = 17 ∨ q = 19 ∨ q = 23 ∨ q = 29 ∨ q = 31 := by
    simp only [odds10, List.mem_cons, List.not_mem_nil, or_false] at hq
    exact hq
  rcases cases with e | e | e | e | e | e | e | e | e | e <;> subst e
  · exact ⟨prp_dec (n := 3) 2 (by decide +kernel), by decide⟩
  · exact ⟨prp_dec (n := 5) 3 (by decide +kernel), by decide⟩
  · exact ⟨prp_dec (n := 7) 3 (by decide +kernel), by decide⟩
  · exact ⟨prp_dec (n := 11) 4 (by decide +kernel), by decide⟩
  · exact ⟨prp_dec (n := 13) 4 (by decide +kernel), by decide⟩
  · exact ⟨prp_dec (n := 17) 5 (by decide +kernel), by decide⟩
  · exact ⟨prp_dec (n := 19) 5 (by decide +kernel), by decide⟩
  · exact ⟨prp_dec (n := 23) 5 (by decide +kernel), by decide⟩
  · exact ⟨prp_dec (n := 29) 6 (by decide +kernel), by decide⟩
  · exact ⟨prp_dec (n := 31) 6 (by decide +kernel), by decide⟩
theorem recip : ∀ p ∈ primes12, ∀ q ∈ odds10, ¬ (p = 2 ∨ p = q) → restSign p q = restSign q p * (if p % 4 = 3 ∧ q % 4 = 3 then -1 else 1) := by decide +kernel
theorem sign_small (n p : Int) : -1 ≤ lawSign n p ∧ lawSign n p ≤ 1 := by
  unfold lawSign
  split
  · decide
  · split
    · split <;> decide
    · split <;> decide
theorem rest_small (n p : Int) : -1 ≤ restSign n p ∧ restSign n p ≤ 1 := by
  unfold restSign
  split
  · decide
  · split
    · split <;> decide
    · split <;> decide
end Sf

namespace Sf
open PySem PySem.Spec PyProof.Rows L2
section
variable {P : Program} {w : World} {K : PySem.W.Frag} {mg : Str → Option Value} {base : Heap} {f : Addr} {fd : FuncData}
set_option maxHeartbeats 16000000 in
theorem ok_residues_right (F : FnD K "_law_residues_right" "_law_residues_right" s_L_residues_right f fd) (T : Glob mg) (C_L_take : Cal P w K mg base 1 "_law_take" ["_law_sack_here", "_law_many"] spTake) (C_L_one_of : Cal P w K mg base 2 "_law_one_of" ["_law_sack_here", "_law_items"] (spOneOf K))
    (C_L_sign : Cal P w K mg base 1 "_law_sign" ["_law_number", "_law_prime"] spLSign) (C_P_residue_sign : Cal P w K mg base 4 "residue_sign" ["number", "prime"] spResidue) : FnOk P w K mg base CX0 5 f fd ["_law_sack_here"] (spGood 30) := by
  refine F.ok sc_L_residues_right (fun vs H Q E h => ?_) (fun cdv A outer s H vs Q E hr h => ?_)
  · obtain ⟨p, n, rfl, _⟩ := h.ex; rfl
  · obtain ⟨p, n, rfl, hs, hn, q⟩ := h.ex
    refine ⟨_, PSs.nox (pss_cons (ps_set (i := 1) sc_L_residues_right.nd rfl (Or.inl rfl) (pe_cal C_L_one_of (hr.mono (by decide)) (pa_cons (pv 0) (pa_cons (pe_lst (pa_cons pe_int (pa_cons pe_int (pa_cons pe_int (pa_cons pe_int (pa_cons pe_int (pa_cons pe_int (pa_cons pe_int (pa_cons pe_int (pa_cons pe_int (pa_cons pe_int (pa_cons pe_int (pa_cons pe_int pa_nil))))))))))))) pa_nil))))
      (pss_cons (ps_par (i := 2) (j := 3) (by rfl) sc_L_residues_right.nd rfl rfl (by decide) rfl rfl (pa_cons (pe_op op_sub (pe_cal C_L_take (hr.mono (by decide)) (pa_cons (pv 0) (pa_cons pe_int pa_nil))) pe_int) (pa_cons (pe_op op_sub (pe_cal C_L_take (hr.mono (by decide)) (pa_cons (pv 0) (pa_cons pe_int pa_nil))) pe_int) pa_nil)) (by rfl))
      (pss_cons (ps_if (pt_cmpR (op_neD hr.units) (pe_lst (pa_cons (pe_cal C_P_residue_sign (hr.mono (by decide)) (pa_cons (pv 2) (pa_cons (pv 1) pa_nil))) (pa_cons (pe_cal C_P_residue_sign (hr.mono (by decide)) (pa_cons (pv 3) (pa_cons (pv 1) pa_nil))) pa_nil))) (pe_lst (pa_cons (pe_cal C_L_sign (hr.mono (by decide)) (pa_cons (pv 2) (pa_cons (pv 1) pa_nil))) (pa_cons (pe_cal C_L_sign (hr.mono (by decide)) (pa_cons (pv 3) (pa_cons (pv 1) pa_nil))) pa_nil))) (nomark _)) (pss_one (ps_ret pe_bl)) pss_nil)
      (pss_cons (ps_if (pt_cmp (pc_neI (pe_cal C_P_residue_sign (hr.mono (by decide)) (pa_cons (pe_op op_mulW (pv 2) (pv 3)) (pa_cons (pv 1) pa_nil))) (pe_op op_mulW (pe_cal C_L_sign (hr.mono (by decide)) (pa_cons (pv 2) (pa_cons (pv 1) pa_nil))) (pe_cal C_L_sign (hr.mono (by decide)) (pa_cons (pv 3) (pa_cons (pv 1) pa_nil)))))) (pss_one (ps_ret pe_bl)) pss_nil)
      (pss_cons (ps_set (i := 4) sc_L_residues_right.nd rfl (Or.inl rfl) (pe_cal C_L_one_of (hr.mono (by decide)) (pa_cons (pv 0) (pa_cons (pe_lst (pa_cons pe_int (pa_cons pe_int (pa_cons pe_int (pa_cons pe_int (pa_cons pe_int (pa_cons pe_int (pa_cons pe_int (pa_cons pe_int (pa_cons pe_int (pa_cons pe_int pa_nil))))))))))) pa_nil))))
      (pss_cons (ps_if (pt_cmpR op_in_seq (pv 1) (pe_tup (pa_cons pe_int (pa_cons (pv 4) pa_nil))) (by rfl)) (pss_one (ps_ret (pe_cmp (pc_eqI (pe_cal C_P_residue_sign (hr.mono (by decide)) (pa_cons pe_int (pa_cons (pv 1) pa_nil))) pe_int) rfl))) pss_nil)
      (pss_cons (ps_set (i := 5) sc_L_residues_right.nd rfl (Or.inl rfl) (pe_ifExp (PW.pt (pw_and (pt_cmp (pc_eqI (pe_op op_mod (pv 1) pe_int) pe_int)) (pw_and1 (pt_cmp (pc_eqI (pe_op op_mod (pv 4) pe_int) pe_int))))) (pe_un un_neg pe_int) pe_int))
      (pss_one (ps_ret (pe_cmp (pc_eqI (pe_cal C_P_residue_sign (hr.mono (by decide)) (pa_cons (pv 1) (pa_cons (pv 4) pa_nil))) (pe_op op_mulW (pe_cal C_P_residue_sign (hr.mono (by decide)) (pa_cons (pv 4) (pa_cons (pv 1) pa_nil))) (pv 5))) rfl)))))))))), ?_⟩
    refine ⟨_, rfl, (by show 12 ≤ sizeLine; decide), fun b hb => one_of_new hs (by omega) hb (by decide) (by decide) fun v H1 hv k1 s1 => ?_⟩
    obtain ⟨p1, hp1, rfl⟩ : ∃ p1, p1 ∈ primes12 ∧ v = .int p1 := by
      obtain ⟨x, h1, h2⟩ := List.mem_map.mp (show v ∈ primes12.map V.int from hv)
      exact ⟨x, h1, h2.symm⟩
    have tb := tab12 p1 hp1
    have t2 := tb.prm.1
    have tle := tb.le
    refine ⟨_, rfl, take_of s1 (by omega) (by decide) (by decide +kernel) fun r1 H2 r10 r11 k2 s2 _ => ⟨_, _, rfl, rfl, _, rfl, take_of s2 (by omega) (by decide) (by decide +kernel) fun r2 H3 r20 r21 k3 s3 _ => ⟨_, _, rfl, rfl, _, _, rfl, ?_⟩⟩⟩
    have hx1 : -2000 ≤ r1 - 2000 ∧ r1 - 2000 ≤ 2000 := by omega
    have hx2 : -2000 ≤ r2 - 2000 ∧ r2 - 2000 ≤ 2000 := by omega
    have k123 := (k1.trans k2).trans k3
    refine ⟨_, rfl, _, rfl, (r1 - 2000), p1, rfl, by omega, by omega, tb.prm, by omega, fun H4 e4 => ⟨_, rfl, _, rfl, (r2 - 2000), p1, rfl, by omega, by omega, tb.prm, by omega, fun H5 e5 => ⟨(by show 2 ≤ sizeLine; decide), fun La hLa => ?_⟩⟩⟩
    refine ⟨_, rfl, _, rfl, (r1 - 2000), p1, rfl, t2, by omega, fun H6 e6 => ⟨_, rfl, _, rfl, (r2 - 2000), p1, rfl, t2, by omega, fun H7 e7 => ⟨(by show 2 ≤ sizeLine; decide), fun Lb hLb => ?_⟩⟩⟩
    have hLa' := e7 _ _ (e6 _ _ (upd_same (H := H5) (a := La) (o := .lst [.int (restSign (r1 - 2000) p1), .int (restSign (r2 - 2000) p1)])))
    have nL : La ≠ Lb := ne_of_none hLa' hLb
    refine ⟨_, _, dp_list (ns := [restSign (r1 - 2000) p1, restSign (r2 - 2000) p1]) (SqL.of (by rw [upd_ne nL]; exact hLa')), dp_list (ns := [lawSign (r1 - 2000) p1, lawSign (r2 - 2000) p1]) (SqL.of upd_same), shp_list _, shp_list _, _, rfl, ?_⟩
    rw [show PyData.eqv (.list ([restSign (r1 - 2000) p1, restSign (r2 - 2000) p1].map PyData.int)) (.list ([lawSign (r1 - 2000) p1, lawSign (r2 - 2000) p1].map PyData.int)) = true by
      show PyData.eqvAll _ _ = true
      rw [eqv_ints, tb.law, tb.law, decide_eq_true rfl]]
    have e8 : Same H3 (upd H7 Lb (.lst [.int (lawSign (r1 - 2000) p1), .int (lawSign (r2 - 2000) p1)])) := (((e4.trans e5).trans (same_upd hLa)).trans (e6.trans e7)).trans (same_upd hLb)
    have k8 : Keep p H (upd H7 Lb (.lst [.int (lawSign (r1 - 2000) p1), .int (lawSign (r2 - 2000) p1)])) := k123.trans (Keep.same e8)
    have s8 := s3.same e8
    generalize upd H7 Lb (.lst [.int (lawSign (r1 - 2000) p1), .int (lawSign (r2 - 2000) p1)]) = H8 at k8 s8
    have hxy : -4000000 ≤ (r1 - 2000) * (r2 - 2000) ∧ (r1 - 2000) * (r2 - 2000) ≤ 4000000 := by
      have a1 : ((r1 - 2000) * (r2 - 2000)).natAbs ≤ 2000 * 2000 := by
        rw [Int.natAbs_mul]
        exact Nat.mul_le_mul (by omega) (by omega)
      omega
    refine ⟨_, rfl, _, rfl, _, _, rfl, rfl, CMulW.of (lt3000s (by omega) (by omega)) (lt3000s (by omega) (by omega)), _, rfl, (r1 - 2000) * (r2 - 2000), p1, rfl, by omega, by omega, tb.prm, by omega, fun H9 e9 => ?_⟩
    have sx := sign_small (r1 - 2000) p1
    have sy := sign_small (r2 - 2000) p1
    refine ⟨_, rfl, _, rfl, (r1 - 2000), p1, rfl, t2, by omega, fun H10 e10 => ⟨_, rfl, _, rfl, (r2 - 2000), p1, rfl, t2, by omega, fun H11 e11 => ⟨_, _, rfl, rfl, CMulW.of (lt3000s (by omega) (by omega)) (lt3000s (by omega) (by omega)), _, _, rfl, rfl, _, rfl, ifn (fun z => absurd (by rw [tb.mul, tb.law, tb.law]) z) (fun _ => ?_)⟩⟩⟩
    have e12 := (e9.trans e10).trans e11
    have s11 := s8.same e12
    -- _law_odd = ..
    refine ⟨_, rfl, (by show 10 ≤ sizeLine; decide), fun b2 hb2 => one_of_new s11 (by omega) hb2 (by decide) (by decide) fun v2 H12 hv2 k12 s12 => ?_⟩
    obtain ⟨q1, hq1, rfl⟩ : ∃ q1, q1 ∈ odds10 ∧ v2 = .int q1 := by
      obtain ⟨x, h1, h2⟩ := List.mem_map.mp (show v2 ∈ odds10.map V.int from hv2)
      exact ⟨x, h1, h2.symm⟩
    obtain ⟨oq, oq2⟩ := odd10_ok q1 hq1
    have oq3 := oq.1
    have kk := (k8.trans (Keep.same e12)).trans k12
    have fin : ∀ H', Same H12 H' → Q (.bl true) H' := fun H' e => q H' (kk.trans (Keep.same e)) ((s12.same e).mono (by omega))
    refine ⟨_, rfl, _, rfl, (by show 2 ≤ sizeLine; decide), fun a ha => ⟨a, _, rfl, .inr (.inl (.inl upd_same)), rfl, rfl, _, rfl, ?_⟩⟩
    rw [inV_two]
    refine ifd (fun h => ?_) (fun h => ?_)
    · refine ⟨_, rfl, 0, p1, rfl, by decide, by decide, tb.prm, by omega, fun H13 e13 => ⟨_, _, rfl, rfl, ?_⟩⟩
      have e : restSign 0 p1 = 0 := by
        unfold restSign
        rw [if_pos (Int.zero_emod _)]
      show Q (.bl (decide (restSign 0 p1 = 0))) H13
      rw [e, decide_eq_true rfl]
      exact fin _ ((same_upd ha).trans e13)
    · have hrec := recip p1 hp1 q1 hq1 h
      have last : ∀ (t : Int) (H' : Hp), Same H12 H' → (t = if p1 % 4 = 3 ∧ q1 % 4 = 3 then -1 else 1) → ∀ (σ : L2.St), σ = [some (.ref p), some (.int p1), some (.int (r1 - 2000)), some (.int (r2 - 2000)), some (.int q1), some (.int t)] →
          tRet (tEqI (tCall spResidue [] E0 (tCons (tVar 1) (tCons (tVar 4) tNil))) (tOp (rI CMulW fun i j => .int (i * j)) (tCall spResidue [] E0 (tCons (tVar 4) (tCons (tVar 1) tNil))) (tVar 5))) { nx := fun _ H' => Q .non H', rt := Q } σ H' := by
        rintro t H' e et σ rfl
        have rs := rest_small q1 p1
        have tt : -1 ≤ t ∧ t ≤ 1 := by rw [et]; split <;> decide
        refine ⟨_, rfl, _, rfl, p1, q1, rfl, by omega, by omega, oq, by omega, fun H14 e14 => ⟨_, rfl, _, rfl, q1, p1, rfl, by omega, by omega, tb.prm, by omega, fun H15 e15 => ⟨_, rfl, _, _, rfl, rfl, CMulW.of (lt3000s (by omega) (by omega)) (lt3000s (by omega) (by omega)), _, _, rfl, rfl, ?_⟩⟩⟩
        show Q (.bl (decide (restSign p1 q1 = restSign q1 p1 * t))) H15
        rw [decide_eq_true (by rw [hrec, et])]
        exact fin _ (e.trans (e14.trans e15))
      refine ⟨_, rfl, _, _, rfl, rfl, (by show (0 : Int) < 4; decide), _, _, rfl, rfl, _, rfl, ifd (fun h1 => ?_) (fun h1 => ?_)⟩
      · refine ⟨_, rfl, _, _, rfl, rfl, (by show (0 : Int) < 4; decide), _, _, rfl, rfl, _, rfl, ifd (fun h2 => ?_) (fun h2 => ?_)⟩
        · exact ⟨_, rfl, last (-1) _ (same_upd ha) (by rw [if_pos ⟨h1, h2⟩]) _ rfl⟩
        · exact last 1 _ (same_upd ha) (by rw [if_neg (fun z => h2 z.2)]) _ rfl
      · exact last 1 _ (same_upd ha) (by rw [if_neg (fun z => h1 z.1)]) _ rfl
end
end Sf

namespace Sf
open PySem PySem.Spec PyProof.Rows L2
theorem prp_great : PrP 999999937 := prp_big (n := 999999937) 15 (by decide) (by decide) (by decide +kernel)
theorem prp2 : PrP 2 := prp_dec (n := 2) 2 (by decide +kernel)
theorem prp7 : PrP 7 := prp_dec (n := 7) 3 (by decide +kernel)
def f360 : List (Int × Nat) := [(2, 3), (3, 2), (5, 1)]
theorem f360_ok : Distinct f360 ∧ Primes f360 ∧ prodF f360 = 360 := by
  refine ⟨by unfold Distinct f360; decide, fun q hq => ?_, by decide⟩
  have cases : q = (2, 3) ∨ q = (3, 2) ∨ q = (5, 1) := by simpa [f360] using hq
  rcases cases with e | e | e <;> subst e
  · exact ⟨prp2, by decide⟩
  · exact ⟨prp_dec (n := 3) 2 (by decide +kernel), by decide⟩
  · exact ⟨prp_dec (n := 5) 3 (by decide +kernel), by decide⟩
section
variable {P : Program} {w : World} {K : PySem.W.Frag} {mg : Str → Option Value} {base : Heap} {f : Addr} {fd : FuncData}
def spLaw (K : PySem.W.Frag) : Sp := fun vs H Q _ => ∃ (a : Addr) (ns : List Int), vs = [.ref a] ∧ SqL K H a (ns.map V.int) ∧ ns.length ≤ 63 ∧ ∀ H', Q (.bl true) H'
set_option maxHeartbeats 16000000 in
theorem ok_law (F : FnD K "law" "law" s_L_law f fd) (T : Glob mg) (C_L_sack : Cal P w K mg base 1 "_law_sack" ["_law_script", "_law_turn"] (spSack K)) (C_L_take : Cal P w K mg base 1 "_law_take" ["_law_sack_here", "_law_many"] spTake) (C_L_one_of : Cal P w K mg base 2 "_law_one_of" ["_law_sack_here", "_law_items"] (spOneOf K))
    (C_L_number_right : Cal P w K mg base 5 "_law_number_right" ["_law_sack_here"] (spGood 30)) (C_L_residues_right : Cal P w K mg base 5 "_law_residues_right" ["_law_sack_here"] (spGood 30)) (C_L_is_prime : Cal P w K mg base 1 "_law_is_prime" ["_law_number"] spLIsPrime)
    (C_P_is_prime : Cal P w K mg base 2 "is_prime" ["value"] (spIsPrime K)) (C_P_residue_sign : Cal P w K mg base 4 "residue_sign" ["number", "prime"] spResidue) (C_P_factors : Cal P w K mg base 3 "factors" ["number"] spFactors) (C_P_square_free : Cal P w K mg base 4 "square_free" ["number"] spSquareFree) :
    FnOk P w K mg base CX0 6 f fd ["_law_script"] (spLaw K) := by
  refine F.ok sc_L_law (fun vs H Q E h => ?_) (fun cdv A outer s H vs Q E hr h => ?_)
  · obtain ⟨a, ns, rfl, _⟩ := h; rfl
  · obtain ⟨a, ns, rfl, hS, hl, q⟩ := h
    obtain ⟨tM, hc_MAX_NUMBER⟩ := T.m_MAX_NUMBER
    refine ⟨_, PSs.nox (pss_cons (ps_for PassesOwn.never rfl (pi_range1 (by rfl) T.m_range (pa_cons (pe_callB (call_max2 rfl) (by rfl) T.m_max (by decide +kernel) (pa_cons pe_int (pa_cons (pe_callB (call_min2 rfl) (by rfl) T.m_min (by decide +kernel) (pa_cons pe_int (pa_cons (pe_callB call_len_seq (by rfl) T.m_len (by decide +kernel) (pa_cons (pv 0) pa_nil)) pa_nil))) pa_nil))) pa_nil)) (pg_name (i := 1) sc_L_law.nd rfl (Or.inl rfl)) (pss_cons (ps_set (i := 2) sc_L_law.nd rfl (Or.inl rfl) (pe_cal C_L_sack (hr.mono (by decide)) (pa_cons (pv 0) (pa_cons (pv 1) pa_nil))))
      (pss_cons (ps_if (PW.pt (pw_or (pt_not (pt_val (pe_cal C_L_number_right (hr.mono (by decide)) (pa_cons (pv 2) pa_nil)))) (pw_or1 (pt_not (pt_val (pe_cal C_L_residues_right (hr.mono (by decide)) (pa_cons (pv 2) pa_nil))))))) (pss_one (ps_ret pe_bl)) pss_nil)
      (pss_cons (ps_for PassesOwn.never rfl (pi_list (pe_lst (pa_cons (pe_cal C_L_take (hr.mono (by decide)) (pa_cons (pv 2) (pa_cons pe_int pa_nil))) (pa_cons (pe_cal C_L_take (hr.mono (by decide)) (pa_cons (pv 2) (pa_cons pe_int pa_nil))) (pa_cons (pe_op op_mulW pe_int (pe_op op_add pe_int (pe_cal C_L_take (hr.mono (by decide)) (pa_cons (pv 2) (pa_cons pe_int pa_nil))))) (pa_cons (pe_un un_neg pe_int) pa_nil)))))) (pg_name (i := 3) sc_L_law.nd rfl (Or.inl rfl)) (pss_one (ps_if (pt_cmpR op_ne (pe_cal C_P_is_prime (hr.mono (by decide)) (pa_cons (pv 3) pa_nil)) (pe_cal C_L_is_prime (hr.mono (by decide)) (pa_cons (pv 3) pa_nil)) (nomark _)) (pss_one (ps_ret pe_bl)) pss_nil)))
      (pss_one (ps_if (pt_val (pe_cal C_P_is_prime (hr.mono (by decide)) (pa_cons (pe_cal C_L_one_of (hr.mono (by decide)) (pa_cons (pv 2) (pa_cons (pe_lst (pa_cons pe_non (pa_cons pe_bl (pa_cons pe_str (pa_cons (pe_tup (pa_cons pe_int pa_nil)) (pa_cons (pe_op op_add (pe_op op_mulW (pe_op op_powW pe_int pe_int) (pe_op op_powW pe_int pe_int)) pe_int) (pa_cons (pe_lst pa_nil) (pa_cons pe_dnewK (pa_cons pe_int (pa_cons pe_int pa_nil)))))))))) pa_nil))) pa_nil))) (pss_one (ps_ret pe_bl)) pss_nil))))))
      (pss_cons (ps_set (i := 4) sc_L_law.nd rfl (Or.inl rfl) (pe_lst (pa_cons (pe_cal C_P_is_prime (hr.mono (by decide)) (pa_cons pe_int pa_nil)) (pa_cons (pe_cal C_P_is_prime (hr.mono (by decide)) (pa_cons pe_int pa_nil)) (pa_cons (pe_cal C_P_is_prime (hr.mono (by decide)) (pa_cons pe_int pa_nil)) (pa_cons (pe_glob (v := .int 1000000000) rfl hc_MAX_NUMBER ⟨_, rfl⟩) (pa_cons (pe_cal C_P_residue_sign (hr.mono (by decide)) (pa_cons (pe_un un_neg pe_int) (pa_cons pe_int pa_nil))) (pa_cons (pe_cal C_P_residue_sign (hr.mono (by decide)) (pa_cons (pe_un un_neg pe_int) (pa_cons pe_int pa_nil))) pa_nil))))))))
      (pss_one (ps_ret (pe_and (pe_cmpR (op_eqD hr.units) (pv 4) (pe_lst (pa_cons pe_bl (pa_cons pe_bl (pa_cons pe_bl (pa_cons (pe_op op_powW pe_int pe_int) (pa_cons pe_int (pa_cons (pe_un un_neg pe_int) pa_nil))))))) (nomark _)) (pe_and (pe_cmpR (op_eq_dictA hr.units0) (pe_cal C_P_factors (hr.mono (by decide)) (pa_cons (pe_un un_neg pe_int) pa_nil)) (pe_disp (pps_cons pe_int pe_int (pps_cons pe_int pe_int (pps_cons pe_int pe_int pps_nil))) (by rfl) (by rfl) (fun z => by cases z) (by decide)) (nomark _)) (pe_one (pe_cmp (pc_eqI (pe_cal C_P_square_free (hr.mono (by decide)) (pa_cons (pe_un un_neg pe_int) pa_nil)) (pe_un un_neg pe_int)) rfl)))))))), ?_⟩
    have hT : ∀ n : Nat, ∃ t : Nat, (if (if (n : Int) < 3 then (n : Int) else 3) > 1 then (if (n : Int) < 3 then (n : Int) else 3) else 1) = (t : Int) ∧ t ≤ 3 := fun n => by
      by_cases c : n < 3
      · by_cases c2 : n > 1
        · exact ⟨n, by rw [if_pos (by omega : (n : Int) < 3), if_pos (by omega)], by omega⟩
        · exact ⟨1, by rw [if_pos (by omega : (n : Int) < 3), if_neg (by omega)]; rfl, by omega⟩
      · exact ⟨3, by rw [if_neg (by omega : ¬ (n : Int) < 3), if_pos (by decide)]; rfl, by omega⟩
    obtain ⟨t, et, ht⟩ := hT (ns.map V.int).length
    refine ⟨_, rfl, a, _, rfl, .inl hS, _, _, rfl, _, _, rfl, (t : Int), ?_, by omega, by omega, ?_⟩
    · rw [← et]
    refine ⟨fun i c σ H' => ∃ v1 v2 v3, σ = [some (.ref a), v1, v2, v3, none] ∧ i + c = t ∧ Same H H', ⟨t, none, none, none, rfl, by omega, Same.refl H⟩, ?_⟩
    rintro i c σ H0 ⟨v1, v2, v3, rfl, hc, hs0⟩
    by_cases hi : i < t
    · refine .inr ⟨(by show i < (t : Int).toNat; omega), _, fun _ _ z => z, fun x Hx hy => ?_⟩
      obtain ⟨rfl, rfl⟩ := hy
      refine ⟨_, rfl, _, rfl, a, ns, i, by rw [Int.zero_add]; rfl, hs0.seq hS, hl, by omega, fun p xs H1 e1 hpn hp1 hxs => ?_⟩
      have s1 : Sk p 0 H1 := ⟨xs, hp1, hxs⟩
      have k1 : Keep p Hx H1 := Keep.same e1
      refine ⟨_, rfl, ⟨p, 0, rfl, s1, by decide, fun H2 k2 s2 => ⟨_, rfl, ?_⟩⟩⟩
      refine ⟨_, rfl, ⟨p, 30, rfl, s2, by decide, fun H3 k3 s3 => ⟨_, rfl, ?_⟩⟩⟩
      -- the four numbers
      refine ⟨_, rfl, take_of s3 (by decide) (by decide) (by decide +kernel) fun r1 H4 r10 r11 k4 s4 _ => ⟨_, rfl, take_of s4 (by decide) (by decide) (by decide +kernel) fun r2 H5 r20 r21 k5 s5 _ => ⟨_, rfl, take_of s5 (by decide) (by decide) (by decide +kernel) fun r3 H6 r30 r31 k6 s6 _ => ⟨_, _, rfl, rfl, _, _, rfl, rfl, CMulW.of (lt3000s (by decide) (by decide)) (lt3000s (by omega) (by omega)), _, rfl, (by show 4 ≤ sizeLine; decide), fun b hb => ?_⟩⟩⟩⟩
      have hb7 : ∀ v ∈ [r1, r2, 31607 * (1 + r3), -7], v ≤ 999002449 := by
        intro v hv
        simp only [List.mem_cons, List.not_mem_nil, or_false] at hv
        rcases hv with e | e | e | e <;> omega
      have s7 : Sk p 70 (upd H6 b (.lst ([r1, r2, 31607 * (1 + r3), -7].map V.int))) := (s6.same (same_upd hb)).mono (by decide)
      have k7 : Keep p Hx (upd H6 b (.lst ([r1, r2, 31607 * (1 + r3), -7].map V.int))) := (((((k1.trans k2).trans k3).trans k4).trans k5).trans k6).trans (Keep.new hb)
      have hL : SqL K (upd H6 b (.lst ([r1, r2, 31607 * (1 + r3), -7].map V.int))) b ([r1, r2, 31607 * (1 + r3), -7].map V.int) := SqL.of upd_same
      refine ⟨b, rfl, ⟨_, hL⟩, for_list (K := K) (a := b) (xs := [r1, r2, 31607 * (1 + r3), -7].map V.int) (fun j σ H' => ∃ v3, σ = [some (.ref a), some (.int (0 + (i : Int))), some (.ref p), v3, none] ∧ H' = upd H6 b (.lst ([r1, r2, 31607 * (1 + r3), -7].map V.int))) ⟨v3, rfl, rfl⟩ (fun j σ H' _ ⟨_, _, e⟩ => by rw [e]; exact hL) ?_ ?_⟩
      · rintro j y σ _ hj ⟨v3, rfl, rfl⟩
        obtain ⟨z, hz, rfl⟩ : ∃ z, z ∈ [r1, r2, 31607 * (1 + r3), -7] ∧ y = V.int z := by
          obtain ⟨z, h1, h2⟩ := List.mem_map.mp (List.mem_of_getElem? hj)
          exact ⟨z, h1, h2.symm⟩
        have hzb := hb7 z hz
        refine ⟨_, rfl, .int z, true, rfl, .int z, fun _ => ⟨z, rfl⟩, fun r hr => ⟨_, rfl, z, rfl, by omega, fun r2 hr2 => ⟨rfl, _, rfl, ?_⟩⟩⟩
        have e : r = r2 := by
          rw [Bool.eq_iff_iff, hr, hr2]
          constructor
          · rintro ⟨n, e, h1, _⟩
            cases e
            exact h1
          · exact fun h => ⟨z, rfl, h, by omega⟩
        subst e
        rw [decide_eq_true rfl]
        exact ⟨some (.int z), rfl, rfl⟩
      · rintro σ _ ⟨v3, rfl, rfl⟩
        generalize upd H6 b (.lst ([r1, r2, 31607 * (1 + r3), -7].map V.int)) = H7 at s7 k7
        refine ⟨_, rfl, (by show 1 ≤ sizeLine; decide), fun t7 ht7 => ?_⟩
        refine ⟨10, 60, rfl, rfl, ⟨by decide, by decide +kernel⟩, 10, 10, rfl, rfl, ⟨by decide, by decide +kernel⟩, _, _, rfl, rfl, CMulW.of (by decide +kernel) (by decide +kernel), _, _, rfl, rfl, (by show 0 ≤ sizeLine; decide), fun l hl => ?_⟩
        intro d hd
        refine ⟨(by show 9 ≤ sizeLine; decide), fun b2 hb2 => ?_⟩
        have n1 : t7 ≠ l := ne_of_none (H := upd H7 t7 _) upd_same hl
        have n2 : t7 ≠ d := ne_of_none (H := upd (upd H7 t7 (.tup [.int 7])) l (.lst [])) (by rw [upd_ne n1]; exact upd_same) hd
        have n3 : l ≠ d := ne_of_none (H := upd (upd H7 t7 (.tup [.int 7])) l (.lst [])) upd_same hd
        have e8 : Same H7 (upd (upd (upd H7 t7 (.tup [.int 7])) l (.lst [])) d (.dK [])) := ((same_upd ht7).trans (same_upd hl)).trans (same_upd hd)
        have s8 := s7.same e8
        have h1 : (upd (upd (upd H7 t7 (.tup [.int 7])) l (.lst [])) d (.dK [])) t7 = some (.tup [.int 7]) := by rw [upd_ne n2, upd_ne n1, upd_same]
        have h2 : (upd (upd (upd H7 t7 (.tup [.int 7])) l (.lst [])) d (.dK [])) l = some (.lst []) := by rw [upd_ne n3, upd_same]
        have h3 : (upd (upd (upd H7 t7 (.tup [.int 7])) l (.lst [])) d (.dK [])) d = some (.dK []) := upd_same
        have p1 : t7 ≠ p := fun z => s7.ne ht7 z.symm
        have p2 : l ≠ p := fun z => (s7.same (same_upd ht7)).ne hl z.symm
        have p3 : d ≠ p := fun z => ((s7.same (same_upd ht7)).same (same_upd hl)).ne hd z.symm
        refine one_of_new (n := 70) s8 (by decide) hb2 (by show 1 ≤ 9; decide) (by show 9 ≤ 1000000; decide) fun v H9 hv k9 s9 => ?_
        have key : ∃ bb, IntB K H9 v bb ∧ (bb = true → ∃ n, v = .int n) ∧ ¬ ∃ n, v = .int n ∧ PrP n ∧ n ≤ 1000000000 := by
          rcases List.mem_cons.mp hv with e | hv
          · exact ⟨false, by rw [e]; exact .non, fun z => (by cases z), fun ⟨n, z, _⟩ => by rw [e] at z; cases z⟩
          rcases List.mem_cons.mp hv with e | hv
          · exact ⟨false, by rw [e]; exact .bl true, fun z => (by cases z), fun ⟨n, z, _⟩ => by rw [e] at z; cases z⟩
          rcases List.mem_cons.mp hv with e | hv
          · exact ⟨false, by rw [e]; exact .str _, fun z => (by cases z), fun ⟨n, z, _⟩ => by rw [e] at z; cases z⟩
          rcases List.mem_cons.mp hv with e | hv
          · exact ⟨false, by rw [e]; exact .tup (k9 _ _ h1 p1), fun z => (by cases z), fun ⟨n, z, _⟩ => by rw [e] at z; cases z⟩
          rcases List.mem_cons.mp hv with e | hv
          · refine ⟨true, by rw [e]; exact .int _, fun _ => ⟨_, e⟩, fun ⟨n, z, _, hn⟩ => ?_⟩
            rw [e] at z
            have z2 := V.int.inj z
            have z3 : (1000000000 : Int) < 10 ^ (60 : Int).toNat * 10 ^ (10 : Int).toNat + 7 := by decide +kernel
            rw [← z2] at hn
            exact absurd z3 (by exact Int.not_lt.mpr hn)
          rcases List.mem_cons.mp hv with e | hv
          · exact ⟨false, by rw [e]; exact .lst (k9 _ _ h2 p2), fun z => (by cases z), fun ⟨n, z, _⟩ => by rw [e] at z; cases z⟩
          rcases List.mem_cons.mp hv with e | hv
          · exact ⟨false, by rw [e]; exact .dK (k9 _ _ h3 p3), fun z => (by cases z), fun ⟨n, z, _⟩ => by rw [e] at z; cases z⟩
          rcases List.mem_cons.mp hv with e | hv
          · refine ⟨true, by rw [e]; exact .int _, fun _ => ⟨_, e⟩, fun ⟨n, z, hp, _⟩ => ?_⟩
            rw [e] at z
            cases z
            exact absurd hp.1 (by decide)
          rcases List.mem_cons.mp hv with e | hv
          · refine ⟨true, by rw [e]; exact .int _, fun _ => ⟨_, e⟩, fun ⟨n, z, hp, _⟩ => ?_⟩
            rw [e] at z
            cases z
            exact absurd hp.1 (by decide)
          · cases hv
        obtain ⟨bb, kb1, kb2, kb3⟩ := key
        refine ⟨v, bb, rfl, kb1, kb2, fun r hr => ⟨_, rfl, ?_⟩⟩
        have er : r = false := by
          cases r with
          | false => rfl
          | true => exact absurd (hr.mp rfl) kb3
        subst er
        refine ⟨c - 1, by omega, some (.int (0 + (i : Int))), some (.ref p), v3, rfl, by omega, fun b o e => ?_⟩
        have x0 := hs0 b o e
        have nb : b ≠ p := ne_of_none x0 hpn
        exact k9 _ _ (e8 _ _ (k7 b o x0 nb)) nb
    · refine .inl ⟨(by show (t : Int).toNat ≤ i; omega), ?_⟩
      refine ⟨.int 999999937, true, rfl, .int _, fun _ => ⟨_, rfl⟩, fun r1 hr1 => ?_⟩
      have e1 : r1 = true := hr1.mpr ⟨_, rfl, prp_great, by decide⟩
      subst e1
      refine ⟨.int 1000000007, true, rfl, .int _, fun _ => ⟨_, rfl⟩, fun r2 hr2 => ?_⟩
      have e2 : r2 = false := by
        cases r2 with
        | false => rfl
        | true =>
          obtain ⟨n, z, _, hn⟩ := hr2.mp rfl
          cases z
          exact absurd hn (by decide)
      subst e2
      refine ⟨.int 2, true, rfl, .int _, fun _ => ⟨_, rfl⟩, fun r3 hr3 => ?_⟩
      have e3 : r3 = true := hr3.mpr ⟨_, rfl, prp2, by decide⟩
      subst e3
      refine ⟨3, rfl, -3, 7, rfl, by decide, by decide, prp7, by decide, fun H1 k1 => ?_⟩
      refine ⟨3, rfl, -3, 2, rfl, by decide, by decide, prp2, by decide, fun H2 k2 => ⟨(by show 6 ≤ sizeLine; decide), fun L1 hL1 => ?_⟩⟩
      have v1e : restSign (-3) 7 = 1 := by decide +kernel
      have v2e : restSign (-3) 2 = -1 := by decide +kernel
      refine ⟨_, rfl, 10, 9, rfl, rfl, ⟨by decide, by decide +kernel⟩, 1, rfl, (by show 6 ≤ sizeLine; decide), fun M1 hM1 => ?_⟩
      have n1 : L1 ≠ M1 := ne_of_none (H := upd H2 L1 _) upd_same hM1
      refine ⟨.list [.bool true, .bool false, .bool true, .int 1000000000, .int (restSign (-3) 7), .int (restSign (-3) 2)], .list [.bool true, .bool false, .bool true, .int (10 ^ (9 : Int).toNat), .int 1, .int (-1)], ?_, ?_, by decide +kernel, by decide +kernel, _, rfl, ?_⟩
      · exact .lst (SqL.of (by rw [upd_ne n1]; exact upd_same)) (.cons (.bl _) (.cons (.bl _) (.cons (.bl _) (.cons (.int _) (.cons (.int _) (.cons (.int _) .nil))))))
      · exact .lst (SqL.of upd_same) (.cons (.bl _) (.cons (.bl _) (.cons (.bl _) (.cons (.int _) (.cons (.int _) (.cons (.int _) .nil))))))
      · rw [v1e, v2e]
        rw [show PyData.eqv (.list [.bool true, .bool false, .bool true, .int 1000000000, .int 1, .int (-1)]) (.list [.bool true, .bool false, .bool true, .int (10 ^ (9 : Int).toNat), .int 1, .int (-1)]) = true by decide +kernel]
        obtain ⟨g1, g2, g3⟩ := f360_ok
        refine ⟨360, rfl, -360, rfl, by decide, by decide, by decide, fun l d H4 hf e4 hdn hd => ?_⟩
        have hp := fact_perm (n := 360) hf g1 g2 g3
        intro d2 hd2
        refine ⟨upd_same, kvsF f360, rfl, by decide, ?_⟩
        have n2 : d ≠ d2 := ne_of_none hd hd2
        refine ⟨d, d2, kvsF l, kvsF f360, rfl, rfl, by rw [upd_ne n2, upd_ne n2]; exact hd, ?_, (dict_same hp g1).1, (dict_same hp g1).2, _, rfl, ?_⟩
        · rw [upd_same]
          rfl
        · refine ⟨360, rfl, -360, rfl, by decide, by decide, by decide, fun l3 H5 hf3 e5 => ⟨10, rfl, _, _, rfl, rfl, ?_⟩⟩
          have hp3 := fact_perm (n := 360) hf3 g1 g2 g3
          have e6 : oddF l3 = 10 := (oddF_perm hp3).trans (by decide)
          show Q (V.bl (decide ((if (0 : Int) < -360 then oddF l3 else -oddF l3) = -10))) H5
          rw [e6]
          exact q H5
end
end Sf

namespace Sf
open PySem PySem.Spec PyProof.Rows L2
theorem facts {P : Program} {w : World} {K : PySem.W.Frag} {h : Heap} {mg : Str → Option Value} {f : Addr} (X : K.In h) (G : h.Ns mainGlobals mg) (hfa : mg ("law" : Str) = some (.ref f)) (c : He.SaysD fa fn K) (z : ex K = true) :
    ∃ fd : FuncData, (∀ (s : Shared) (v : Value), BindsTo s fd ⟨[v], []⟩ [("_law_script", v)]) ∧ ∀ base : Heap, K.In base → base.Ns mainGlobals mg → FnOk P w K mg base CX0 6 f fd ["_law_script"] (spLaw K) := by
  obtain ⟨fd_L_sack, F_L_sack⟩ := c.def_ 0 (d := d_L_sack) rfl
  have g_L_sack := He.glo_ok X G (c.fact 0 (f := .glo "_law_sack") rfl)
  obtain ⟨fd_L_take, F_L_take⟩ := c.def_ 1 (d := d_L_take) rfl
  have g_L_take := He.glo_ok X G (c.fact 1 (f := .glo "_law_take") rfl)
  obtain ⟨fd_L_one_of, F_L_one_of⟩ := c.def_ 2 (d := d_L_one_of) rfl
  have g_L_one_of := He.glo_ok X G (c.fact 2 (f := .glo "_law_one_of") rfl)
  obtain ⟨fd_L_made, F_L_made⟩ := c.def_ 3 (d := d_L_made) rfl
  have g_L_made := He.glo_ok X G (c.fact 3 (f := .glo "_law_made") rfl)
  obtain ⟨fd_P_is_integer, F_P_is_integer⟩ := c.def_ 4 (d := d_P_is_integer) rfl
  have g_P_is_integer := He.glo_ok X G (c.fact 4 (f := .glo "is_integer") rfl)
  obtain ⟨fd_P_check_number, F_P_check_number⟩ := c.def_ 5 (d := d_P_check_number) rfl
  have g_P_check_number := He.glo_ok X G (c.fact 5 (f := .glo "check_number") rfl)
  obtain ⟨fd_P_stripped, F_P_stripped⟩ := c.def_ 6 (d := d_P_stripped) rfl
  have g_P_stripped := He.glo_ok X G (c.fact 6 (f := .glo "stripped") rfl)
  obtain ⟨fd_P_next_divisor, F_P_next_divisor⟩ := c.def_ 7 (d := d_P_next_divisor) rfl
  have g_P_next_divisor := He.glo_ok X G (c.fact 7 (f := .glo "next_divisor") rfl)
  obtain ⟨fd_P_prime_powers, F_P_prime_powers⟩ := c.def_ 8 (d := d_P_prime_powers) rfl
  have g_P_prime_powers := He.glo_ok X G (c.fact 8 (f := .glo "prime_powers") rfl)
  obtain ⟨fd_P_factors, F_P_factors⟩ := c.def_ 9 (d := d_P_factors) rfl
  have g_P_factors := He.glo_ok X G (c.fact 9 (f := .glo "factors") rfl)
  obtain ⟨fd_P_free_part, F_P_free_part⟩ := c.def_ 10 (d := d_P_free_part) rfl
  have g_P_free_part := He.glo_ok X G (c.fact 10 (f := .glo "free_part") rfl)
  obtain ⟨fd_P_square_free, F_P_square_free⟩ := c.def_ 11 (d := d_P_square_free) rfl
  have g_P_square_free := He.glo_ok X G (c.fact 11 (f := .glo "square_free") rfl)
  obtain ⟨fd_L_number_right, F_L_number_right⟩ := c.def_ 12 (d := d_L_number_right) rfl
  have g_L_number_right := He.glo_ok X G (c.fact 12 (f := .glo "_law_number_right") rfl)
  obtain ⟨fd_L_sign, F_L_sign⟩ := c.def_ 13 (d := d_L_sign) rfl
  have g_L_sign := He.glo_ok X G (c.fact 13 (f := .glo "_law_sign") rfl)
  obtain ⟨fd_P_is_prime, F_P_is_prime⟩ := c.def_ 14 (d := d_P_is_prime) rfl
  have g_P_is_prime := He.glo_ok X G (c.fact 14 (f := .glo "is_prime") rfl)
  obtain ⟨fd_P_check_prime, F_P_check_prime⟩ := c.def_ 15 (d := d_P_check_prime) rfl
  have g_P_check_prime := He.glo_ok X G (c.fact 15 (f := .glo "check_prime") rfl)
  obtain ⟨fd_P_power_modulo, F_P_power_modulo⟩ := c.def_ 16 (d := d_P_power_modulo) rfl
  have g_P_power_modulo := He.glo_ok X G (c.fact 16 (f := .glo "power_modulo") rfl)
  obtain ⟨fd_P_rest_sign, F_P_rest_sign⟩ := c.def_ 17 (d := d_P_rest_sign) rfl
  have g_P_rest_sign := He.glo_ok X G (c.fact 17 (f := .glo "rest_sign") rfl)
  obtain ⟨fd_P_residue_sign, F_P_residue_sign⟩ := c.def_ 18 (d := d_P_residue_sign) rfl
  have g_P_residue_sign := He.glo_ok X G (c.fact 18 (f := .glo "residue_sign") rfl)
  obtain ⟨fd_L_residues_right, F_L_residues_right⟩ := c.def_ 19 (d := d_L_residues_right) rfl
  have g_L_residues_right := He.glo_ok X G (c.fact 19 (f := .glo "_law_residues_right") rfl)
  obtain ⟨fd_L_is_prime, F_L_is_prime⟩ := c.def_ 20 (d := d_L_is_prime) rfl
  have g_L_is_prime := He.glo_ok X G (c.fact 20 (f := .glo "_law_is_prime") rfl)
  obtain ⟨fd_L_law, F_L_law⟩ := c.def_ 21 (d := d_L_law) rfl
  have g_L_law := He.glo_ok X G (c.fact 21 (f := .glo "law") rfl)
  have e := hfa.symm.trans g_L_law
  cases e
  have z0 := z
  have T : Glob mg := ⟨He.free_ok X G (c.fact 22 (f := .free "isinstance") rfl), He.free_ok X G (c.fact 23 (f := .free "int") rfl), He.free_ok X G (c.fact 24 (f := .free "bool") rfl), He.free_ok X G (c.fact 25 (f := .free "abs") rfl), He.free_ok X G (c.fact 26 (f := .free "max") rfl), He.free_ok X G (c.fact 27 (f := .free "len") rfl), He.free_ok X G (c.fact 28 (f := .free "sum") rfl), He.free_ok X G (c.fact 29 (f := .free "range") rfl), He.free_ok X G (c.fact 30 (f := .free "list") rfl), He.free_ok X G (c.fact 31 (f := .free "sorted") rfl), He.free_ok X G (c.fact 32 (f := .free "min") rfl), He.int_ok X G (c.fact 33 (f := .int "MAX_NUMBER" 1000000000) rfl)⟩
  have b := FunD.bindsA (ps := ["_law_script"]) F_L_law fun _ _ _ _ _ _ us hl => match us, hl with | [_], _ => rfl
  refine ⟨fd_L_law, fun s v => b s [v] rfl, fun base _ _ => ?_⟩
  have C_L_sack : Cal P w K mg base 1 "_law_sack" ["_law_script", "_law_turn"] (spSack K) := ⟨_, fd_L_sack, ok_sack F_L_sack T, g_L_sack, F_L_sack.kp, F_L_sack.bindsN fun _ _ _ _ _ _ us hl => match us, hl with | [_, _], _ => rfl⟩
  have C_L_take : Cal P w K mg base 1 "_law_take" ["_law_sack_here", "_law_many"] spTake := ⟨_, fd_L_take, ok_take F_L_take T, g_L_take, F_L_take.kp, F_L_take.bindsN fun _ _ _ _ _ _ us hl => match us, hl with | [_, _], _ => rfl⟩
  have C_L_one_of : Cal P w K mg base 2 "_law_one_of" ["_law_sack_here", "_law_items"] (spOneOf K) := ⟨_, fd_L_one_of, ok_one_of F_L_one_of T C_L_take, g_L_one_of, F_L_one_of.kp, F_L_one_of.bindsN fun _ _ _ _ _ _ us hl => match us, hl with | [_, _], _ => rfl⟩
  have C_L_made : Cal P w K mg base 3 "_law_made" ["_law_sack_here"] spMade := ⟨_, fd_L_made, ok_made F_L_made T C_L_take C_L_one_of, g_L_made, F_L_made.kp, F_L_made.bindsN fun _ _ _ _ _ _ us hl => match us, hl with | [_], _ => rfl⟩
  have C_P_is_integer : Cal P w K mg base 1 "is_integer" ["value"] (spIsInt K) := ⟨_, fd_P_is_integer, ok_is_integer F_P_is_integer T, g_P_is_integer, F_P_is_integer.kp, F_P_is_integer.bindsN fun _ _ _ _ _ _ us hl => match us, hl with | [_], _ => rfl⟩
  have C_P_check_number : Cal P w K mg base 2 "check_number" ["value"] spCheckNumber := ⟨_, fd_P_check_number, ok_check_number F_P_check_number T C_P_is_integer, g_P_check_number, F_P_check_number.kp, F_P_check_number.bindsN fun _ _ _ _ _ _ us hl => match us, hl with | [_], _ => rfl⟩
  have C_P_stripped : Cal P w K mg base 1 "stripped" ["number", "prime"] spStripped := ⟨_, fd_P_stripped, ok_stripped F_P_stripped , g_P_stripped, F_P_stripped.kp, F_P_stripped.bindsN fun _ _ _ _ _ _ us hl => match us, hl with | [_, _], _ => rfl⟩
  have C_P_next_divisor : Cal P w K mg base 1 "next_divisor" ["divisor"] spNext := ⟨_, fd_P_next_divisor, ok_next F_P_next_divisor , g_P_next_divisor, F_P_next_divisor.kp, F_P_next_divisor.bindsN fun _ _ _ _ _ _ us hl => match us, hl with | [_], _ => rfl⟩
  have C_P_prime_powers : Cal P w K mg base 2 "prime_powers" ["number"] spFactors := ⟨_, fd_P_prime_powers, ok_prime_powers F_P_prime_powers T C_P_stripped C_P_next_divisor, g_P_prime_powers, F_P_prime_powers.kp, F_P_prime_powers.bindsN fun _ _ _ _ _ _ us hl => match us, hl with | [_], _ => rfl⟩
  have C_P_factors : Cal P w K mg base 3 "factors" ["number"] spFactors := ⟨_, fd_P_factors, ok_factors F_P_factors C_P_check_number C_P_prime_powers, g_P_factors, F_P_factors.kp, F_P_factors.bindsN fun _ _ _ _ _ _ us hl => match us, hl with | [_], _ => rfl⟩
  have C_P_free_part : Cal P w K mg base 3 "free_part" ["number"] spSquareFree := ⟨_, fd_P_free_part, ok_free_part F_P_free_part C_P_prime_powers, g_P_free_part, F_P_free_part.kp, F_P_free_part.bindsN fun _ _ _ _ _ _ us hl => match us, hl with | [_], _ => rfl⟩
  have C_P_square_free : Cal P w K mg base 4 "square_free" ["number"] spSquareFree := ⟨_, fd_P_square_free, ok_square_free F_P_square_free C_P_check_number C_P_free_part, g_P_square_free, F_P_square_free.kp, F_P_square_free.bindsN fun _ _ _ _ _ _ us hl => match us, hl with | [_], _ => rfl⟩
  have C_L_number_right : Cal P w K mg base 5 "_law_number_right" ["_law_sack_here"] (spGood 30) := ⟨_, fd_L_number_right, ok_number_right F_L_number_right T C_L_take C_L_made C_P_factors C_P_square_free, g_L_number_right, F_L_number_right.kp, F_L_number_right.bindsN fun _ _ _ _ _ _ us hl => match us, hl with | [_], _ => rfl⟩
  have C_L_sign : Cal P w K mg base 1 "_law_sign" ["_law_number", "_law_prime"] spLSign := ⟨_, fd_L_sign, ok_l_sign F_L_sign T, g_L_sign, F_L_sign.kp, F_L_sign.bindsN fun _ _ _ _ _ _ us hl => match us, hl with | [_, _], _ => rfl⟩
  have C_P_is_prime : Cal P w K mg base 2 "is_prime" ["value"] (spIsPrime K) := ⟨_, fd_P_is_prime, ok_is_prime F_P_is_prime T C_P_is_integer C_P_next_divisor, g_P_is_prime, F_P_is_prime.kp, F_P_is_prime.bindsN fun _ _ _ _ _ _ us hl => match us, hl with | [_], _ => rfl⟩
  have C_P_check_prime : Cal P w K mg base 3 "check_prime" ["value"] spCheckPrime := ⟨_, fd_P_check_prime, ok_check_prime F_P_check_prime C_P_is_prime, g_P_check_prime, F_P_check_prime.kp, F_P_check_prime.bindsN fun _ _ _ _ _ _ us hl => match us, hl with | [_], _ => rfl⟩
  have C_P_power_modulo : Cal P w K mg base 1 "power_modulo" ["number", "many", "modulus"] spPowMod := ⟨_, fd_P_power_modulo, ok_powmod F_P_power_modulo , g_P_power_modulo, F_P_power_modulo.kp, F_P_power_modulo.bindsN fun _ _ _ _ _ _ us hl => match us, hl with | [_, _, _], _ => rfl⟩
  have C_P_rest_sign : Cal P w K mg base 2 "rest_sign" ["number", "prime"] spRestSign := ⟨_, fd_P_rest_sign, ok_rest_sign F_P_rest_sign C_P_power_modulo, g_P_rest_sign, F_P_rest_sign.kp, F_P_rest_sign.bindsN fun _ _ _ _ _ _ us hl => match us, hl with | [_, _], _ => rfl⟩
  have C_P_residue_sign : Cal P w K mg base 4 "residue_sign" ["number", "prime"] spResidue := ⟨_, fd_P_residue_sign, ok_residue_sign F_P_residue_sign T C_P_is_integer C_P_check_prime C_P_rest_sign, g_P_residue_sign, F_P_residue_sign.kp, F_P_residue_sign.bindsN fun _ _ _ _ _ _ us hl => match us, hl with | [_, _], _ => rfl⟩
  have C_L_residues_right : Cal P w K mg base 5 "_law_residues_right" ["_law_sack_here"] (spGood 30) := ⟨_, fd_L_residues_right, ok_residues_right F_L_residues_right T C_L_take C_L_one_of C_L_sign C_P_residue_sign, g_L_residues_right, F_L_residues_right.kp, F_L_residues_right.bindsN fun _ _ _ _ _ _ us hl => match us, hl with | [_], _ => rfl⟩
  have C_L_is_prime : Cal P w K mg base 1 "_law_is_prime" ["_law_number"] spLIsPrime := ⟨_, fd_L_is_prime, ok_l_is_prime F_L_is_prime T, g_L_is_prime, F_L_is_prime.kp, F_L_is_prime.bindsN fun _ _ _ _ _ _ us hl => match us, hl with | [_], _ => rfl⟩
  exact ok_law F_L_law T C_L_sack C_L_take C_L_one_of C_L_number_right C_L_residues_right C_L_is_prime C_P_is_prime C_P_residue_sign C_P_factors C_P_square_free
end Sf
open PySem PySem.W PySem.Calls PyProof.Rows
set_option maxHeartbeats 0 in
theorem PySem.Challenge.cw_signfours_k02_whole_primes_and_residues_holds : PySem.Challenge.rw_signfours_k02_whole_primes_and_residues.Holds := by
  w_on; o_law
  refine HandSHeadRun.head_any (r := OpenLaw.row PySem.Challenge.rw_signfours_k02_whole_primes_and_residues) (q := view (OpenLaw.row PySem.Challenge.rw_signfours_k02_whole_primes_and_residues).prog [28]) (H := Sf.hk) (ob := Sf.ob) (M := 20000) (loose := Sf.loose) (d := HandSHeadRun.topDef (OpenLaw.row PySem.Challenge.rw_signfours_k02_whole_primes_and_residues).prog 28) (kwd := []) Sf.ob_eq
    (by kernel_rfl) (fun s => by kernel_rfl) Sf.run (by kernel_rfl) (by kernel_rfl) (by kernel_rfl) (by rfl) (by first | assumption | decide +kernel) (by decide +kernel) ⟨rfl, rfl, rfl, rfl, rfl, by decide +kernel⟩ ?hw ?hc
  case hw => w_witness2
  case hc =>
    refine L2.walk_ofE (l := PySem.Challenge.rw_signfours_k02_whole_primes_and_residues) (n := 63) (k := 6) (x := "_law_script") (CX := L2.CX0) rfl (by decide) (by kernel_rfl) ⟨rfl, by decide, by decide⟩ ?F (fun _ _ _ _ z => z)
    intro w mg fa h Y G hmg0
    obtain ⟨K, KX, c, z⟩ := Y
    have hmg : mg ("law" : PySem.Str) = some (.ref fa) := by
      have e : (HandSHeadRun.topDef (OpenLaw.row PySem.Challenge.rw_signfours_k02_whole_primes_and_residues).prog 28).name = ("law" : PySem.Str) := by kernel_rfl
      rw [← e]
      exact hmg0
    obtain ⟨fd, hb, hF⟩ := Sf.facts (P := (PySem.Challenge.rw_signfours_k02_whole_primes_and_residues).prog) (w := w) KX G hmg c z
    exact ⟨K, fd, Sf.spLaw K, KX, hb, fun H a ns hl _ hS => ⟨a, ns, rfl, hS, hl, fun _ => rfl⟩, hF⟩
